/- Contracts of the program's own of chapter 11; carillonlaw11's awake from them (gen_veclaws.py). -/
import Derived.Test.YtgjffmhlehcoiaaVecVal
import Derived.Test.YtgjffmhlehcoiaaConfVal
namespace Go.Proofs.Ytgjffmhlehcoiaa
open Go.RowKit Go.Proofs
set_option maxRecDepth 50000
set_option linter.unusedVariables false
set_option linter.unusedSimpArgs false

def I64 (x : Int) : Prop := -9223372036854775808 ≤ x ∧ x ≤ 9223372036854775807
def U64 (x : Int) : Prop := 0 ≤ x ∧ x < 18446744073709551616
/-- The numbers of a vector are Go's. -/
def VcIn (a : Vc) : Prop := I64 a.p1 ∧ I64 a.qc ∧ I64 a.qa ∧ I64 a.qv ∧ I64 a.p2 ∧ U64 a.gr ∧ I64 a.st ∧ U64 a.sc ∧ I64 a.sp ∧ U64 a.rc ∧ I64 a.rp
instance (x : Int) : Decidable (I64 x) := by unfold I64; exact inferInstance
instance (x : Int) : Decidable (U64 x) := by unfold U64; exact inferInstance
instance (a : Vc) : Decidable (VcIn a) := by unfold VcIn; exact inferInstance

/-- A clock's own. -/
def ownV (c : Cf) : Vc := ⟨c.p1, c.qc, c.qa, c.qv, c.p2, c.cl, 0, c.cl, 0, c.cl, 0⟩

theorem build_clock (x : Int) (w : World) : (Instr.build 28 #[(0, .int .u64 x)]).run Try.prog w = .ok (.agg (cfL { zeroC with cl := x }).toArray) w := run_build w _ _ _ (by kernel_rfl)
theorem wpList_build_clock {ops : Array Oper} {rest : List Oper} {op : Oper} {a : Act} {w : World} {Q : Exit → Act → World → Prop} (hgd : op.guard = none) (x0 : Operand)
    (ho : op.op = .build 28 #[(0, x0)]) (x : Int) (h0 : a.eval x0 = .int .u64 x)
    (hh : wpList Try.prog ops Q rest (a.put op.dst (.agg (cfL { zeroC with cl := x }).toArray)) w) : wpList Try.prog ops Q (op :: rest) a w :=
  wpList_plain hgd fun K hK => by
    unfold Oper.wp execOp
    have hr := build_clock x w
    simp only [ho, List.map_toArray, List.map_cons, List.map_nil, h0, Sem.run_bind, hr, Result.andThen_ok, Sem.run_pure]
    exact hK _ _ hh
end Go.Proofs.Ytgjffmhlehcoiaa
