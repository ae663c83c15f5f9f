/- Rows: an element's cells, one element alone, literals as arms. -/
import Derived.Test.YtclpblhjfaodbaaRowG
import Derived.Test.YtclpblhjfaodbaaOnly
namespace Go.Proofs.Ytclpblhjfaodbaa
open Go.RowKit Go.Proofs
set_option maxRecDepth 50000
set_option linter.unusedVariables false
set_option linter.unusedSimpArgs false

theorem RowK.Reads.range {α : Type} {K : RowK α} {w : World} {b o n cap : Nat} {l : List α} (h : K.Reads w (.slice (some ⟨b, o, none⟩) n cap) l) (i : Nat) (hi : i < l.length) : w.rangeAt b (o + i * K.n) (K.enc l[i]) := by
  obtain ⟨p, cap', he, -, -, hat⟩ := h
  cases he
  obtain ⟨b', o', hb, -, hc⟩ := hat.pos (by omega)
  cases hb
  intro j v hj
  have hjn : j < K.n := by have := (List.getElem?_eq_some_iff.1 hj).1; rwa [K.len] at this
  have := RowK.At.cell hc i j hi hjn v hj
  rw [Nat.add_assoc]
  exact this
theorem RowK.one_new {α : Type} (K : RowK α) (w : World) (a : α) (t : TypeId) : K.Reads (w.alloc (Obj.cells (K.enc a).toArray t)) (.slice (some ⟨w.heap.size, 0, none⟩) 1 1) [a] := by
  have hB := Box.new w (K.enc a) t
  exact ⟨some ⟨w.heap.size, 0, none⟩, 1, rfl, Nat.le_refl _, by unfold maxLen; omega, .inr ⟨w.heap.size, 0, rfl, hB.lt, fun j v hj => by rw [Nat.zero_add]; exact hB.cell j v (by simpa [RowK.cells] using hj)⟩⟩
theorem wpList_lit {ops : Array Oper} {rest : List Oper} {op : Oper} {a : Act} {w : World} {Q : Exit → Act → World → Prop} (hgd : op.guard = none) (ty : TypeId) (n : Nat) (parts : Array (Nat × Operand)) (ho : op.op = .buildSlice ty n parts)
    (pv : Array (Nat × Value)) (hp : (parts.map fun (i, x) => (i, a.eval x)) = pv) (v : Value) (w' : World) (hr : (Instr.buildSlice ty n pv).run Try.prog w = .ok v w')
    (h : wpList Try.prog ops Q rest (a.put op.dst v) w') : wpList Try.prog ops Q (op :: rest) a w :=
  wpList_plain hgd fun K hK => by
    unfold Oper.wp execOp
    simp only [ho]
    rw [hp]
    simp only [Sem.run_bind, hr, Result.andThen_ok, Sem.run_pure]
    exact hK _ _ h
end Go.Proofs.Ytclpblhjfaodbaa
