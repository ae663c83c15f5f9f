/- carillonlaw10's dec and awake, from contracts of the program's own (gen_conflaws.py). -/
import Derived.Test.YtgjffmhlehcoiaaConfVal
import Derived.Test.YtgjffmhlehcoiaaConfSay
import Derived.Test.YtgjffmhlehcoiaaLib
namespace Go.Proofs.Ytgjffmhlehcoiaa
open Go.RowKit Go.Proofs
set_option maxRecDepth 50000
set_option linter.unusedVariables false
set_option linter.unusedSimpArgs false

/-- The program's own, as the chapter has them. -/
def CfIn (c : Cf) : Prop := 0 ≤ c.cl ∧ c.cl < 18446744073709551616

def CDef : Prop := ∀ (cl : Int) (w : World), 0 ≤ cl ∧ cl < 18446744073709551616 →
  Calls Try.prog 17 #[.int .u64 cl] w fun e w' => e = .returned (.agg (cfL (defC cl)).toArray) ∧ Below w.heap.size w w'

def CChk : Prop := ∀ (c : Cf) (w : World), CfIn c →
  Calls Try.prog 21 #[.agg (cfL c).toArray] w fun e w' => e = .returned (.int .i64 (checkE c)) ∧ Below w.heap.size w w'

theorem dig_str : ∀ v, v < 10 → (⟨#[48, 49, 50, 51, 52, 53, 54, 55, 56, 57]⟩ : ByteArray).extract v (v + 1) = ⟨[UInt8.ofNat (48 + v)].toArray⟩ := by decide

theorem ex_parse : parseE 1 [112, 114, 105, 111, 114, 105, 116, 121, 49, 32, 49, 48] = 0 ∧ parseN 1 [112, 114, 105, 111, 114, 105, 116, 121, 49, 32, 49, 48] = 0 ∧ (parseC 1 [112, 114, 105, 111, 114, 105, 116, 121, 49, 32, 49, 48]).p1 = 10 ∧ (parseC 1 [112, 114, 105, 111, 114, 105, 116, 121, 49, 32, 49, 48]).p2 = 128 := by decide +kernel
end Go.Proofs.Ytgjffmhlehcoiaa
