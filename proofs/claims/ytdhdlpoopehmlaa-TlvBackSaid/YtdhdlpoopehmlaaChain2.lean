/- What ways share, of two things; an append that leaves other blocks alone. -/
import Derived.Test.YtdhdlpoopehmlaaChain
namespace Go.Proofs.Ytdhdlpoopehmlaa
open Go.RowKit Go.Proofs
set_option linter.unusedVariables false

theorem share2 {α β : Type} {P : α → β → Prop} {G : α → β → Prop} {R : Prop} (h1 : (∀ x y, P x y → G x y) → R) (h2 : ∀ x y, P x y → G x y) : R := h1 h2

theorem share4 {α β γ δ : Type} {P : α → β → Prop} {G : α → β → γ → δ → Prop} {R : Prop} (h1 : (∀ x y z u, P x y → G x y z u) → R) (h2 : ∀ x y z u, P x y → G x y z u) : R := h1 h2

/-- 'append(v, x...)', v a row of the call's own or nil: no block but v's own is another one. -/
theorem append_bytes_keep (w : World) (base : Nat) (v x : Value) (l m : List UInt8) (hv : Own w base v l) (hx : Bytes w x m) (hbytes : l.length + m.length ≤ 140737488355328) (hbase : base ≤ w.heap.size) :
    ∃ v' w', (Builtin.append_ #[22, 22] 22 #[v, x]).run Try.prog w = .ok v' w' ∧ Own w' base v' (l ++ m) ∧ w.grownBy w' v.ownBlock ∧ Below base w w' := by
  obtain ⟨p, cap, rfl, _, _, hat⟩ := hx
  obtain ⟨i0, hi, hz0, hz1, hz2⟩ := info_parts info_u8
  have hlen : (l ++ m).length = l.length + m.length := List.length_append
  cases p with
  | none =>
    obtain rfl : m = [] := by
      rcases hat with h | ⟨b, off, h, _⟩
      · exact h
      · cases h
    refine ⟨v, w, ?_, by simpa using hv, ⟨rfl, rfl, rfl, Nat.le_refl _, fun _ _ _ => rfl⟩, Below.refl _ _⟩
    rcases World.ownsRow.elim hv with ⟨rfl, hn⟩ | ⟨g, cap', cur, rfl, hnc, _⟩
    · simp [Builtin.append_, run_underlying Try.underlying22, sizeOf, typeInfo, hi, Builtin.lenOf, Builtin.firstCells]
    · simp [Builtin.append_, run_underlying Try.underlying22, sizeOf, typeInfo, hi, Builtin.lenOf, Builtin.firstCells, hnc, storeCells]
  | some a =>
    have hnews : ∀ j u, (cellsOf m)[j]? = some u → w.cell? (a.add j) = some u := by
      intro j u hu
      have hj : j < m.length := by
        rcases Nat.lt_or_ge j m.length with h | h
        · exact h
        · rw [List.getElem?_eq_none (by rw [cellsOf_length]; exact h)] at hu; cases hu
      obtain ⟨b, off, he, _, hc⟩ := hat.pos (by omega)
      cases he
      rw [cellsOf_get m j hj] at hu
      rw [Addr.add_plain, hc j hj]
      exact hu
    obtain ⟨v', w', hr, hown, hg, _⟩ := run_append_own (P := Try.prog) w base 22 22 5 i0 _ 1 1 Try.underlying22 hi hz0 hz1 hz2 rfl (by decide) v l.length (cellsOf l) hv a m.length cap (cellsOf m) (by rw [cellsOf_length]; omega) hnews (cellsOf_one m) (by unfold maxLen; omega) (by omega) hbase
    refine ⟨v', w', hr, ?_, hg, ?_⟩
    · unfold Own
      rw [hlen, cellsOf_append]
      exact hown
    · exact (Below.refl base w).grown hg hbase (fun k hk => (World.ownsRow.lt hv k hk).1)

theorem op_append_keep {w : World} {o : Oper} {a : Act} {K : Act → World → Prop} {Q : Exit → Act → World → Prop} (s x : Operand)
    (ho : o.op = .call { callee := .builtin .append, args := #[s, x], argTypes := #[22, 22] }) (hty : o.type = 22)
    (base : Nat) (v x' : Value) (l m : List UInt8) (hs : a.eval s = v) (hx : a.eval x = x') (hv : Own w base v l) (hX : Bytes w x' m) (hbytes : l.length + m.length ≤ 140737488355328) (hbase : base ≤ w.heap.size)
    (h : ∀ v' w', Own w' base v' (l ++ m) → w.grownBy w' v.ownBlock → Below base w w' → K (a.put o.dst v') w') : o.wp Try.prog a w K Q := by
  obtain ⟨v', w', hr, h1, h2, h3⟩ := append_bytes_keep w base v x' l m hv hX hbytes hbase
  rw [← hty] at hr
  unfold Oper.wp execOp
  simp only [ho, resolve, invoke, builtin, Sem.run_bind, Sem.run_pure, Result.andThen_ok, List.map_toArray, List.map_cons, List.map_nil, hs, hx, hty]
  rw [hty] at hr
  simp only [hr]
  exact h v' w' h1 h2 h3

theorem Box.grown {w w' : World} {g : Nat} {xs : List Value} {t : TypeId} {row : Option Nat} (h : Box w g xs t) (hg : w.grownBy w' row) (hne : some g ≠ row) : Box w' g xs t := by
  unfold Box
  rw [hg.block g h.lt hne]
  exact h
end Go.Proofs.Ytdhdlpoopehmlaa
