/- A row of bytes of the call's own, or none at all with no room, wherever it points ('b[:0:0]'). -/
import Derived.Test.YtdhdlpoopehmlaaLib
import Derived.Test.YtdhdlpoopehmlaaChain2
import Derived.ArgAppend
namespace Go.Proofs.Ytdhdlpoopehmlaa
open Go.RowKit Go.Proofs
set_option linter.unusedVariables false
set_option linter.unusedSimpArgs false

def OwnZ (p : Option Addr) (w : World) (base : Nat) (v : Value) (l : List UInt8) : Prop := Own w base v l ∨ (l = [] ∧ ∃ a, p = some a ∧ v = .slice (some a) 0 0)

theorem OwnZ.bytes {p : Option Addr} {w : World} {base : Nat} {v : Value} {l : List UInt8} (h : OwnZ p w base v l) : Bytes w v l := by
  rcases h with h | ⟨rfl, a, rfl, rfl⟩
  · exact h.bytes
  · exact ⟨some a, 0, rfl, Nat.le_refl _, Nat.zero_le _, .inl rfl⟩

theorem OwnZ.below {p : Option Addr} {w w' : World} {base : Nat} {v : Value} {l : List UInt8} (h : OwnZ p w base v l) (hb : Below w.heap.size w w') : OwnZ p w' base v l := by
  rcases h with h | h
  · exact .inl (h.below hb)
  · exact .inr h

theorem OwnZ.own {p : Option Addr} {w : World} {base : Nat} {v : Value} {l : List UInt8} (h : OwnZ p w base v l) (hl : 0 < l.length) : Own w base v l := by
  rcases h with h | ⟨rfl, _⟩
  · exact h
  · simp at hl

theorem OwnZ.nil {w : World} {base : Nat} {v : Value} {l : List UInt8} (h : OwnZ none w base v l) : Own w base v l := by
  rcases h with h | ⟨_, a, h, _⟩
  · exact h
  · cases h

/-- 'b[:0:0]'. -/
theorem OwnZ.none (p : Option Addr) (w : World) (base : Nat) : OwnZ p w base (.slice p 0 0) [] := by
  cases p with
  | none => exact .inl (Own.nil _ _)
  | some a => exact .inr ⟨rfl, a, rfl, rfl⟩

theorem append_bytesZ (q : Option Addr) (w : World) (base : Nat) (v x : Value) (l m : List UInt8) (hv : OwnZ q w base v l) (hx : Bytes w x m) (hbytes : l.length + m.length ≤ 140737488355328) (hbase : base ≤ w.heap.size) :
    ∃ v' w', (Builtin.append_ #[22, 22] 22 #[v, x]).run Try.prog w = .ok v' w' ∧ OwnZ q w' base v' (l ++ m) ∧ Below base w w' := by
  rcases hv with hv | ⟨rfl, a, rfl, rfl⟩
  · obtain ⟨v', w', hr, h1, h2⟩ := append_bytes w base v x l m hv hx hbytes hbase
    exact ⟨v', w', hr, .inl h1, h2⟩
  · obtain ⟨i0, hi, hz0, hz1, hz2⟩ := info_parts info_u8
    obtain ⟨p, cap, rfl, _, _, hat⟩ := hx
    by_cases h0 : m = []
    · subst h0
      refine ⟨.slice (some a) 0 0, w, ?_, .inr ⟨rfl, a, rfl, rfl⟩, Below.refl _ _⟩
      cases p with
      | none => simp [Builtin.append_, run_underlying Try.underlying22, sizeOf, typeInfo, hi, Builtin.lenOf, Builtin.firstCells, storeCells]
      | some b =>
        have hf : (Builtin.firstCells i0.size 0 (.slice (some b) 0 cap)).run Try.prog w = .ok [].toArray w := run_firstCells_some (P := Try.prog) w i0.size 0 b 0 cap [] (by simp) (by simp)
        simp [Builtin.append_, run_underlying Try.underlying22, sizeOf, typeInfo, hi, Builtin.lenOf, hf, storeCells]
    · have hpos : 0 < m.length := List.length_pos_iff.2 h0
      obtain ⟨b, off, rfl, _, hc⟩ := hat.pos hpos
      obtain ⟨v', w', hr, hown, hg⟩ := run_append_arg_grows (P := Try.prog) w 22 22 5 i0 _ 1 1 Try.underlying22 hi hz0 hz1 hz2 rfl (by decide) a 0 0 [] (by simp) (by simp) ⟨b, off, none⟩ m.length cap (cellsOf m) (by rw [cellsOf_length]; omega)
        (fun j u hu => by
          have hj : j < m.length := by
            have := (List.getElem?_eq_some_iff.1 hu).1
            rwa [cellsOf_length] at this
          rw [cellsOf_get m j hj] at hu
          rw [Addr.add_plain, hc j hj]
          exact hu) (by omega) (by unfold maxLen; omega) (by simp only [List.length_nil] at hbytes; omega)
      refine ⟨v', w', hr, .inl (Own.mono (base := w.heap.size) ?_ hbase), (Below.refl base w).grown hg hbase (fun k hk => by cases hk)⟩
      unfold Own
      simpa using hown

theorem wpList_append_bytesZ {w : World} {ops : Array Oper} {rest : List Oper} {o : Oper} {a : Act} {Q : Exit → Act → World → Prop} (hgd : o.guard = none) (s x : Operand)
    (ho : o.op = .call { callee := .builtin .append, args := #[s, x], argTypes := #[22, 22] }) (hty : o.type = 22)
    (q : Option Addr) (base : Nat) (v x' : Value) (l m : List UInt8) (hs : a.eval s = v) (hx : a.eval x = x') (hv : OwnZ q w base v l) (hX : Bytes w x' m) (hbytes : l.length + m.length ≤ 140737488355328) (hbase : base ≤ w.heap.size)
    (h : ∀ v' w', OwnZ q w' base v' (l ++ m) → Below base w w' → wpList Try.prog ops Q rest (a.put o.dst v') w') : wpList Try.prog ops Q (o :: rest) a w :=
  wpList_plain hgd fun K hK => by
    obtain ⟨v', w', hr, h1, h2⟩ := append_bytesZ q w base v x' l m hv hX hbytes hbase
    unfold Oper.wp execOp
    simp only [ho, resolve, invoke, builtin, Sem.run_bind, Sem.run_pure, Result.andThen_ok, List.map_toArray, List.map_cons, List.map_nil, hs, hx, hty]
    simp only [hr]
    exact hK _ _ (h v' w' h1 h2)

/-- .. and its own block lies below N. -/
def OwnZN (p : Option Addr) (w : World) (base N : Nat) (v : Value) (l : List UInt8) : Prop := (Own w base v l ∧ ∀ k, v.ownBlock = some k → k < N) ∨ (l = [] ∧ ∃ a, p = some a ∧ v = .slice (some a) 0 0)

theorem OwnZ.known {p : Option Addr} {w : World} {base : Nat} {v : Value} {l : List UInt8} (h : OwnZ p w base v l) : OwnZN p w base w.heap.size v l := by
  rcases h with h | h
  · exact .inl ⟨h, fun k hk => (World.ownsRow.lt h k hk).2⟩
  · exact .inr h

theorem OwnZN.below {p : Option Addr} {w w' : World} {base N : Nat} {v : Value} {l : List UInt8} (h : OwnZN p w base N v l) (hb : Below w.heap.size w w') : OwnZN p w' base N v l := by
  rcases h with h | h
  · exact .inl ⟨h.1.below hb, h.2⟩
  · exact .inr h

/-- 'append(v, x...)', x not empty: boxes that were made behind v stay. -/
theorem append_keepZ (q : Option Addr) (w : World) (base N : Nat) (v x : Value) (l m : List UInt8) (hv : OwnZN q w base N v l) (hx : Bytes w x m) (hm : 0 < m.length) (hbytes : l.length + m.length ≤ 140737488355328) (hbase : base ≤ w.heap.size) :
    ∃ v' w', (Builtin.append_ #[22, 22] 22 #[v, x]).run Try.prog w = .ok v' w' ∧ Own w' base v' (l ++ m) ∧ Hid (∀ g xs t, N ≤ g → Box w g xs t → Box w' g xs t) ∧ Below base w w' := by
  rcases hv with ⟨hv, hN⟩ | ⟨rfl, a, rfl, rfl⟩
  · obtain ⟨v', w', hr, h1, hg, h2⟩ := append_bytes_keep w base v x l m hv hx hbytes hbase
    exact ⟨v', w', hr, h1, fun g xs t hng hB => hB.grown hg fun e => by have := hN g e.symm; omega, h2⟩
  · obtain ⟨i0, hi, hz0, hz1, hz2⟩ := info_parts info_u8
    obtain ⟨p, cap, rfl, _, _, hat⟩ := hx
    obtain ⟨b, off, rfl, _, hc⟩ := hat.pos hm
    obtain ⟨v', w', hr, hown, hg⟩ := run_append_arg_grows (P := Try.prog) w 22 22 5 i0 _ 1 1 Try.underlying22 hi hz0 hz1 hz2 rfl (by decide) a 0 0 [] (by simp) (by simp) ⟨b, off, none⟩ m.length cap (cellsOf m) (by rw [cellsOf_length]; omega)
      (fun j u hu => by
        have hj : j < m.length := by
          have := (List.getElem?_eq_some_iff.1 hu).1
          rwa [cellsOf_length] at this
        rw [cellsOf_get m j hj] at hu
        rw [Addr.add_plain, hc j hj]
        exact hu) (by omega) (by unfold maxLen; omega) (by simp only [List.length_nil] at hbytes; omega)
    refine ⟨v', w', hr, Own.mono (base := w.heap.size) ?_ hbase, fun g xs t _ hB => hB.grown hg (by simp), (Below.refl base w).grown hg hbase (fun k hk => by cases hk)⟩
    unfold Own
    simpa using hown

theorem wpList_append_keepZ {w : World} {ops : Array Oper} {rest : List Oper} {o : Oper} {a : Act} {Q : Exit → Act → World → Prop} (hgd : o.guard = none) (s x : Operand)
    (ho : o.op = .call { callee := .builtin .append, args := #[s, x], argTypes := #[22, 22] }) (hty : o.type = 22)
    (q : Option Addr) (base N : Nat) (v x' : Value) (l m : List UInt8) (hs : a.eval s = v) (hx : a.eval x = x') (hv : OwnZN q w base N v l) (hX : Bytes w x' m) (hm : 0 < m.length) (hbytes : l.length + m.length ≤ 140737488355328) (hbase : base ≤ w.heap.size)
    (h : ∀ v' w', Own w' base v' (l ++ m) → Hid (∀ g xs t, N ≤ g → Box w g xs t → Box w' g xs t) → Below base w w' → wpList Try.prog ops Q rest (a.put o.dst v') w') : wpList Try.prog ops Q (o :: rest) a w :=
  wpList_plain hgd fun K hK => by
    obtain ⟨v', w', hr, h1, h2, h3⟩ := append_keepZ q w base N v x' l m hv hX hm hbytes hbase
    unfold Oper.wp execOp
    simp only [ho, resolve, invoke, builtin, Sem.run_bind, Sem.run_pure, Result.andThen_ok, List.map_toArray, List.map_cons, List.map_nil, hs, hx, hty]
    simp only [hr]
    exact hK _ _ (h v' w' h1 h2 h3)
end Go.Proofs.Ytdhdlpoopehmlaa
