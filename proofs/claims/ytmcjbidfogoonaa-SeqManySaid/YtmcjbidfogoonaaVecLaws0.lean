/- Contracts of the program's own of chapter 11; carillonlaw11's awake from them (gen_veclaws.py). -/
import Derived.Test.YtmcjbidfogoonaaVecVal
import Derived.Test.YtmcjbidfogoonaaConfVal
namespace Go.Proofs.Ytmcjbidfogoonaa
open Go.RowKit Go.Proofs
set_option maxRecDepth 50000
set_option linter.unusedVariables false
set_option linter.unusedSimpArgs false

def I64 (x : Int) : Prop := -9223372036854775808 ≤ x ∧ x ≤ 9223372036854775807
def U64 (x : Int) : Prop := 0 ≤ x ∧ x < 18446744073709551616
/-- The numbers of a vector are Go's. -/
def VcIn (a : Vc) : Prop := I64 a.p1 ∧ I64 a.qc ∧ I64 a.qa ∧ I64 a.qv ∧ I64 a.p2 ∧ U64 a.gr ∧ I64 a.st ∧ U64 a.sc ∧ I64 a.sp ∧ U64 a.rc ∧ I64 a.rp
instance (x : Int) : Decidable (I64 x) := by unfold I64; exact inferInstance
instance (x : Int) : Decidable (U64 x) := by unfold U64; exact inferInstance
instance (a : Vc) : Decidable (VcIn a) := by unfold VcIn; exact inferInstance

/-- A clock's own. -/
def ownV (c : Cf) : Vc := ⟨c.p1, c.qc, c.qa, c.qv, c.p2, c.cl, 0, c.cl, 0, c.cl, 0⟩
end Go.Proofs.Ytmcjbidfogoonaa
