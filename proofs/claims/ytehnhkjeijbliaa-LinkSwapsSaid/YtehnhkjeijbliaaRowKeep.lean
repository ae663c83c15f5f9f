/- Appends to a row: blocks of any other type stay (XRowG). -/
import Derived.Test.YtehnhkjeijbliaaRowG
import Derived.Test.YtehnhkjeijbliaaOnly
namespace Go.Proofs.Ytehnhkjeijbliaa
open Go.RowKit Go.Proofs
set_option maxRecDepth 50000
set_option linter.unusedVariables false
set_option linter.unusedSimpArgs false

/-- Blocks of another type than t stay. -/
structure KeptBut (t : TypeId) (w w' : World) : Prop where
  size : w.heap.size ≤ w'.heap.size
  block : ∀ (k : Nat) (xs : Array Value) (t' : TypeId) (fr : Nat × Nat), w.heap[k]? = some (.cells xs t' fr) → t' ≠ t → w'.heap[k]? = some (.cells xs t' fr)
theorem KeptBut.refl (t : TypeId) (w : World) : KeptBut t w w := ⟨Nat.le_refl _, fun _ _ _ _ h _ => h⟩
theorem KeptBut.of_below {w w' : World} (t : TypeId) (h : Below w.heap.size w w') : KeptBut t w w' := ⟨h.size, fun k xs t' fr hk _ => by rw [h.block k (Array.getElem?_eq_some_iff.1 hk).1]; exact hk⟩
theorem KeptBut.trans {t : TypeId} {a b c : World} (h : KeptBut t a b) (k : KeptBut t b c) : KeptBut t a c := ⟨Nat.le_trans h.size k.size, fun i xs t' fr hi ht => k.block i xs t' fr (h.block i xs t' fr hi ht) ht⟩
theorem Box.kept {w w' : World} {g : Nat} {xs : List Value} {t t' : TypeId} (h : Box w g xs t') (hk : KeptBut t w w') (ht : t' ≠ t) : Box w' g xs t' := hk.block _ _ _ _ h ht

variable {α : Type}
theorem RowK.Own.kept {K : RowK α} {t t' : TypeId} {w w' : World} {base : Nat} {v : Value} {l : List α} (h : K.Own t' w base v l) (hk : KeptBut t w w') (ht : t' ≠ t) : K.Own t' w' base v l := by
  rcases id h with ⟨h0, ⟨rfl, hn⟩ | ⟨g, cap, cur, rfl, hbg, hg, r⟩⟩
  · exact ⟨h0, .inl ⟨rfl, hn⟩⟩
  · exact ⟨h0, .inr ⟨g, cap, cur, rfl, hbg, hk.block _ _ _ _ hg ht, r⟩⟩
/-- What is written through a pointer to a block of another type. -/
theorem RowK.Own.only {K : RowK α} {t t' : TypeId} {w w' : World} {base g : Nat} {v : Value} {l : List α} {xs : List Value} (h : K.Own t' w base v l) (ho : Only g w w') (hB : Box w g xs t) (ht : t' ≠ t) : K.Own t' w' base v l := by
  rcases id h with ⟨h0, ⟨rfl, hn⟩ | ⟨b, cap, cur, rfl, hbg, hg, r⟩⟩
  · exact ⟨h0, .inl ⟨rfl, hn⟩⟩
  · refine ⟨h0, .inr ⟨b, cap, cur, rfl, hbg, ?_, r⟩⟩
    have hne : b ≠ g := by
      intro e
      subst e
      have h1 := hg.symm.trans hB
      simp only [Option.some.injEq, Obj.cells.injEq] at h1
      exact ht h1.2.1
    rw [ho.block b (Array.getElem?_eq_some_iff.1 hg).1 hne]
    exact hg

theorem RowK.append_kept (K : RowK α) {tS tE : TypeId} {z : Value} {B : Nat} (hu : Try.prog.underlying tS = some (.slice tE)) (hinfo : (Try.prog.info? tE).map (fun i => (i.zero, i.size, i.bytes)) = some (some z, K.n, B)) (hzl : z.cells.size = K.n)
    (w : World) (base : Nat) (v x : Value) (l m : List α) (hv : K.Own tE w base v l) (hx : K.Reads w x m) (hbytes : (l.length + m.length) * B ≤ 140737488355328) (hlen2 : l.length + m.length ≤ 140737488355328) (hbase : base ≤ w.heap.size) :
    ∃ v' w', (Builtin.append_ #[tS, tS] tS #[v, x]).run Try.prog w = .ok v' w' ∧ K.Own tE w' base v' (l ++ m) ∧ Below base w w' ∧ KeptBut tE w w' := by
  obtain ⟨p, cap, rfl, _, _, hat⟩ := hx
  obtain ⟨i0, hi, hz0, hz1, hz2⟩ := info_parts hinfo
  have hlen : (l ++ m).length = l.length + m.length := List.length_append
  cases p with
  | none =>
    obtain rfl : m = [] := by
      rcases hat with h | ⟨b, off, h, _⟩
      · exact h
      · cases h
    refine ⟨v, w, ?_, by simpa using hv, Below.refl _ _, KeptBut.refl _ _⟩
    rcases World.ownsRow.elim hv with ⟨rfl, hn⟩ | ⟨g, cap', cur, rfl, hnc, _⟩
    · simp [Builtin.append_, run_underlying hu, sizeOf, typeInfo, hi, Builtin.lenOf, Builtin.firstCells]
    · simp [Builtin.append_, run_underlying hu, sizeOf, typeInfo, hi, Builtin.lenOf, Builtin.firstCells, hnc, storeCells]
  | some a =>
    have hnews : ∀ j u, (K.cells m)[j]? = some u → w.cell? (a.add j) = some u := by
      intro j u hu
      have hj := (List.getElem?_eq_some_iff.1 hu).1
      rw [K.cells_length] at hj
      have hm0 : 0 < m.length := by
        rcases Nat.eq_zero_or_pos m.length with h | h
        · rw [h, Nat.zero_mul] at hj; omega
        · exact h
      obtain ⟨b, off, he, _, hc⟩ := hat.pos hm0
      cases he
      rw [Addr.add_plain]
      exact hc j u hu
    obtain ⟨v', w', hr, hown, hg, _⟩ := run_append_own (P := Try.prog) w base tS tS tE i0 _ K.n B hu hi hz0 hz1 hz2 hzl K.pos v l.length (K.cells l) hv a m.length cap (K.cells m) (K.cells_length m) hnews (K.cells_one m) (by unfold maxLen; omega) hbytes hbase
    refine ⟨v', w', hr, ?_, ?_, ?_, ?_⟩
    · unfold RowK.Own
      rw [hlen, K.cells_append]
      exact hown
    · exact (Below.refl base w).grown hg hbase (fun k hk => (World.ownsRow.lt hv k hk).1)
    · exact hg.size
    · intro k xs t' fr hk ht
      have hkl := (Array.getElem?_eq_some_iff.1 hk).1
      rw [hg.block k hkl ?_]
      · exact hk
      · intro e
        rcases id hv with ⟨_, ⟨rfl, hn⟩ | ⟨g, cap', cur, rfl, hbg, hgg, r⟩⟩
        · simp [Value.ownBlock] at e
        · simp only [Value.ownBlock] at e
          obtain rfl : k = g := by simpa using e
          have h1 := hk.symm.trans hgg
          simp only [Option.some.injEq, Obj.cells.injEq] at h1
          exact ht h1.2.1

/-- .. as an arm of a plain region. -/
theorem RowK.wpList_append_kept (K : RowK α) {tS tE : TypeId} {z : Value} {B : Nat} (hu : Try.prog.underlying tS = some (.slice tE)) (hinfo : (Try.prog.info? tE).map (fun i => (i.zero, i.size, i.bytes)) = some (some z, K.n, B)) (hzl : z.cells.size = K.n)
    {w : World} {ops : Array Oper} {rest : List Oper} {o : Oper} {a : Act} {Q : Exit → Act → World → Prop} (hgd : o.guard = none) (s x : Operand)
    (ho : o.op = .call { callee := .builtin .append, args := #[s, x], argTypes := #[tS, tS] }) (hty : o.type = tS)
    (base : Nat) (v x' : Value) (l m : List α) (hs : a.eval s = v) (hx : a.eval x = x') (hv : K.Own tE w base v l) (hX : K.Reads w x' m) (hbytes : (l.length + m.length) * B ≤ 140737488355328) (hlen2 : l.length + m.length ≤ 140737488355328) (hbase : base ≤ w.heap.size)
    (h : ∀ v' w', K.Own tE w' base v' (l ++ m) → Below base w w' → KeptBut tE w w' → wpList Try.prog ops Q rest (a.put o.dst v') w') : wpList Try.prog ops Q (o :: rest) a w :=
  wpList_plain hgd fun K' hK => by
    obtain ⟨v', w', hr, h1, h2, h3⟩ := K.append_kept hu hinfo hzl w base v x' l m hv hX hbytes hlen2 hbase
    unfold Oper.wp execOp
    simp only [ho, resolve, invoke, builtin, Sem.run_bind, Sem.run_pure, Result.andThen_ok, List.map_toArray, List.map_cons, List.map_nil, hs, hx, hty]
    simp only [hr]
    exact hK _ _ (h v' w' h1 h2 h3)

/-- One element alone, made for an append. -/
theorem RowK.Reads.one (K : RowK α) (w : World) (t : TypeId) (x : α) (h1 : K.n = 1) : K.Reads (w.alloc (Obj.cells (K.enc x).toArray t)) (.slice (some ⟨w.heap.size, 0, none⟩) 1 1) [x] := by
  have hB := Box.new w (K.enc x) t
  refine ⟨_, 1, rfl, Nat.le_refl _, by unfold maxLen; omega, .inr ⟨w.heap.size, 0, rfl, hB.lt, fun j v hj => ?_⟩⟩
  rw [Nat.zero_add]
  have e : K.cells [x] = K.enc x := by simp [RowK.cells]
  rw [e] at hj
  exact hB.cell j v hj
end Go.Proofs.Ytehnhkjeijbliaa
