/- The document's own answers of chapter 4 (carillonref04), and chapter 1's Id: contracts. -/
import Derived.Test.YtpelgbcccgdlbaaIdentb
import Derived.Test.YtpelgbcccgdlbaaOctRef
namespace Go.Proofs.Ytpelgbcccgdlbaa
open Go.RowKit Go.Proofs
set_option linter.unusedVariables false
set_option linter.unusedSimpArgs false

theorem num_take_wrap (l : List UInt8) (A k : Nat) (h : A + k < l.length) : num ((l.drop A).take (k + 1)) = (256 * num ((l.drop A).take k) + l[A + k].toNat) % 18446744073709551616 := by
  have h1 : (l.drop A).take (k + 1) = (l.drop A).take k ++ [l[A + k]] := by
    rw [take_snoc _ k (by rw [List.length_drop]; omega), List.getElem_drop]
  rw [h1, num_snoc, Nat.mul_comm]
end Go.Proofs.Ytpelgbcccgdlbaa
