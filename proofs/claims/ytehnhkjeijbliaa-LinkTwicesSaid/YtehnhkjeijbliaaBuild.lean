/- A literal of any type. -/
import Derived.Test.YtehnhkjeijbliaaBase
namespace Go.Proofs.Ytehnhkjeijbliaa
open Go.RowKit Go.Proofs
set_option maxRecDepth 50000
set_option linter.unusedVariables false

/-- A literal of any type. -/
theorem wpList_build_any {ops : Array Oper} {rest : List Oper} {op : Oper} {a : Act} {w : World} {Q : Exit → Act → World → Prop} (hgd : op.guard = none) (ty : TypeId) (parts : Array (Nat × Operand)) (ho : op.op = .build ty parts)
    (pv : Array (Nat × Value)) (hp : (parts.map fun (i, x) => (i, a.eval x)) = pv) (cs : Array Value) (hb : Try.prog.built ty pv.toList = some cs)
    (h : wpList Try.prog ops Q rest (a.put op.dst (.agg cs)) w) : wpList Try.prog ops Q (op :: rest) a w :=
  wpList_plain hgd fun K hK => by
    unfold Oper.wp execOp
    simp only [ho]
    rw [hp]
    simp only [Sem.run_bind, run_build w ty pv cs hb, Result.andThen_ok, Sem.run_pure]
    exact hK _ _ h
theorem exec_build_any {op : Oper} {ev : Operand → Value} {w : World} (ty : TypeId) (parts : Array (Nat × Operand)) (ho : op.op = .build ty parts)
    (pv : Array (Nat × Value)) (hp : (parts.map fun (i, x) => (i, ev x)) = pv) (cs : Array Value) (hb : Try.prog.built ty pv.toList = some cs) : (execOp ev op).run Try.prog w = .ok (.value (.agg cs)) w := by
  unfold execOp
  simp only [ho]
  rw [hp]
  simp only [Sem.run_bind, run_build w ty pv cs hb, Result.andThen_ok, Sem.run_pure]
end Go.Proofs.Ytehnhkjeijbliaa
