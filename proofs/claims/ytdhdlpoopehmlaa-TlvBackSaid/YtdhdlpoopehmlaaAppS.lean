/- 'append(v, s...)', s a string. -/
import Derived.Test.YtdhdlpoopehmlaaLib
import Derived.Lib.AppendStr
namespace Go.Proofs.Ytdhdlpoopehmlaa
open Go.RowKit Go.Proofs
set_option linter.unusedVariables false

theorem strCells_of (m : List UInt8) : Go.Lib.strCells ⟨m.toArray⟩ = cellsOf m := by
  apply List.ext_getElem?
  intro i
  simp [Go.Lib.strCells, cellsOf]

theorem append_str (w : World) (base : Nat) (v : Value) (l m : List UInt8) (hv : Own w base v l) (hbytes : l.length + m.length ≤ 140737488355328) (hbase : base ≤ w.heap.size) :
    ∃ v' w', (Builtin.append_ #[22, 9] 22 #[v, .string ⟨m.toArray⟩]).run Try.prog w = .ok v' w' ∧ Own w' base v' (l ++ m) ∧ Below base w w' := by
  obtain ⟨i0, hi, hz0, hz1, hz2⟩ := info_parts info_u8
  have hlen : (l ++ m).length = l.length + m.length := List.length_append
  have hsz : (⟨m.toArray⟩ : ByteArray).size = m.length := by show m.toArray.size = _; simp
  obtain ⟨v', w', hr, hown, hg, _⟩ := Go.Lib.run_append_own_string (P := Try.prog) w base 22 9 22 5 i0 Try.underlying22 Try.underlying9 hi hz0 hz1 hz2 v l.length (cellsOf l) hv ⟨m.toArray⟩ (by rw [hsz]; unfold maxLen; omega) (by rw [hsz]; omega) hbase
  rw [hsz, strCells_of] at hown
  refine ⟨v', w', hr, ?_, (Below.refl base w).grown hg hbase (fun k hk => (World.ownsRow.lt hv k hk).1)⟩
  unfold Own
  rw [hlen, cellsOf_append]
  exact hown

theorem wpList_append_str {w : World} {ops : Array Oper} {rest : List Oper} {o : Oper} {a : Act} {Q : Exit → Act → World → Prop} (hgd : o.guard = none) (s x : Operand)
    (ho : o.op = .call { callee := .builtin .append, args := #[s, x], argTypes := #[22, 9] }) (hty : o.type = 22)
    (base : Nat) (v : Value) (l m : List UInt8) (hs : a.eval s = v) (hx : a.eval x = .string ⟨m.toArray⟩) (hv : Own w base v l) (hbytes : l.length + m.length ≤ 140737488355328) (hbase : base ≤ w.heap.size)
    (h : ∀ v' w', Own w' base v' (l ++ m) → Below base w w' → wpList Try.prog ops Q rest (a.put o.dst v') w') : wpList Try.prog ops Q (o :: rest) a w :=
  wpList_plain hgd fun K hK => by
    obtain ⟨v', w', hr, h1, h2⟩ := append_str w base v l m hv hbytes hbase
    rw [← hty] at hr
    unfold Oper.wp execOp
    simp only [ho, resolve, invoke, builtin, Sem.run_bind, Sem.run_pure, Result.andThen_ok, List.map_toArray, List.map_cons, List.map_nil, hs, hx, hty]
    rw [hty] at hr
    simp only [hr]
    exact hK _ _ (h v' w' h1 h2)

/-- .. as one operation of a region that draws. -/
theorem op_append_str {w : World} {o : Oper} {a : Act} {K : Act → World → Prop} {Q : Exit → Act → World → Prop} (s x : Operand)
    (ho : o.op = .call { callee := .builtin .append, args := #[s, x], argTypes := #[22, 9] }) (hty : o.type = 22)
    (base : Nat) (v : Value) (l m : List UInt8) (hs : a.eval s = v) (hx : a.eval x = .string ⟨m.toArray⟩) (hv : Own w base v l) (hbytes : l.length + m.length ≤ 140737488355328) (hbase : base ≤ w.heap.size)
    (h : ∀ v' w', Own w' base v' (l ++ m) → Below base w w' → K (a.put o.dst v') w') : o.wp Try.prog a w K Q := by
  obtain ⟨v', w', hr, h1, h2⟩ := append_str w base v l m hv hbytes hbase
  rw [← hty] at hr
  unfold Oper.wp execOp
  simp only [ho, resolve, invoke, builtin, Sem.run_bind, Sem.run_pure, Result.andThen_ok, List.map_toArray, List.map_cons, List.map_nil, hs, hx, hty]
  rw [hty] at hr
  simp only [hr]
  exact h v' w' h1 h2
end Go.Proofs.Ytdhdlpoopehmlaa
