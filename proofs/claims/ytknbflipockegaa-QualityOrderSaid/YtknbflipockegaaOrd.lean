/- The order of bytes that are one behind the other. -/
import Derived.Test.YtknbflipockegaaNum
namespace Go.Proofs.Ytknbflipockegaa
open Go.RowKit Go.Proofs
set_option linter.unusedVariables false
set_option linter.unusedSimpArgs false

theorem less_app : ∀ (a b c d : List UInt8), a.length = b.length → Op.bytesLess (a ++ c) (b ++ d) = (Op.bytesLess a b || (a == b && Op.bytesLess c d))
  | [], [], c, d, _ => by simp [Op.bytesLess]
  | x :: a, y :: b, c, d, h => by
    have ih := less_app a b c d (by simpa using h)
    have e0 : (x :: a == y :: b) = (x == y && a == b) := rfl
    rw [List.cons_append, List.cons_append, Op.bytesLess, Op.bytesLess, ih, e0]
    cases decide (x < y) <;> cases (x == y) <;> cases Op.bytesLess a b <;> simp

theorem same_app : ∀ (a b c d : List UInt8), a.length = b.length → (a ++ c == b ++ d) = (a == b && c == d)
  | [], [], c, d, _ => by simp
  | x :: a, y :: b, c, d, h => by
    have ih := same_app a b c d (by simpa using h)
    have e0 : (x :: a == y :: b) = (x == y && a == b) := rfl
    have e1 : (x :: (a ++ c) == y :: (b ++ d)) = (x == y && (a ++ c == b ++ d)) := rfl
    rw [List.cons_append, List.cons_append, e1, ih, e0, Bool.and_assoc]

end Go.Proofs.Ytknbflipockegaa
