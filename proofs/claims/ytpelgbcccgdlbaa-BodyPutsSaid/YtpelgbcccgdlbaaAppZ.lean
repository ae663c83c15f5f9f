/- 'append(v, make([]byte, k)...)', v a row of the call's own. -/
import Derived.Test.YtpelgbcccgdlbaaApp
import Derived.Lib.AppendZerosOnto
namespace Go.Proofs.Ytpelgbcccgdlbaa
open Go.RowKit Go.Proofs Go.Lib
set_option linter.unusedVariables false
set_option linter.unusedSimpArgs false

theorem zeroCells_u8 (k : Nat) : Builtin.zeroCells (Value.cells (.int .u8 0)) k = (cellsOf (List.replicate k 0)).toArray := by
  apply Array.ext'
  unfold Builtin.zeroCells
  show ((Array.range (k * 1)).map fun i => (#[Value.int .u8 0] : Array Value)[i % 1]!).toList = cellsOf (List.replicate k 0)
  apply List.ext_getElem
  · simp [cellsOf]
  · intro i h1 h2
    simp [cellsOf, Nat.mod_one]

theorem append_zeros (w : World) (base : Nat) (v : Value) (l : List UInt8) (k : Nat) (hv : Own w base v l) (hl0 : 0 < l.length) (hsm : l.length + k ≤ 1000000) (hbase : base ≤ w.heap.size) :
    ∃ v' w', (Builtin.append_ #[22, 3] 22 #[v, .int .i64 (k : Int)]).run Try.prog w = .ok v' w' ∧ Own w' base v' (l ++ List.replicate k 0) ∧ Below base w w' := by
  obtain ⟨i0, hi, hz0, hz1, hz2⟩ := info_parts info_u8
  have hlt := fun k hk => (World.ownsRow.lt hv k hk).1
  have hcells := fun j u hu => World.ownsRow.cells hv (g := (v.ownBlock.getD 0)) (by
    rcases id hv with ⟨_, ⟨_, hn⟩ | ⟨g, cap, cur, rfl, _⟩⟩
    · omega
    · rfl) j u hu
  have hlenr : (cellsOf (l ++ List.replicate k 0)).length = (l ++ List.replicate k 0).length * 1 := by rw [cellsOf_length]; omega
  have hll : (l ++ List.replicate k 0).length = l.length + k := by simp
  obtain ⟨hlen, ⟨_, hn⟩ | ⟨g, cap, cur, rfl, hbg, hg, hnc, hcm, hcs, htake⟩⟩ := id hv
  · omega
  have hw : IntKind.i64.wrap (k : Int) = k := by rw [IntKind.wrap_i64]; omega
  by_cases hroom : l.length + k ≤ cap
  · have hst := run_storeCells_at Try.prog g (l.length * i0.size) 5 (cellsOf (List.replicate k 0)) 0 cur w hg (by rw [cellsOf_length, List.length_replicate, hz1]; omega) (cellsOf_one _)
    simp only [Nat.add_zero] at hst
    rw [hz1, Nat.mul_one] at hst
    refine ⟨.slice (some ⟨g, 0, none⟩) (l.length + k) cap, w.setRow g (cur.toList.take l.length ++ cellsOf (List.replicate k 0) ++ cur.toList.drop (l.length + (cellsOf (List.replicate k 0)).length)).toArray, ?_, ?_, below_setRow (Below.refl _ _) hbg _⟩
    · have hneg : ¬ ((k : Int) < 0) := by omega
      have h48 : ¬ (281474976710656 < (k : Int)) := by omega
      by_cases hk : k = 0
      · subst hk
        simp only [List.replicate_zero, cellsOf, List.map_nil] at hst ⊢
        simp [Builtin.append_, run_underlying Try.underlying22, run_underlying Try.underlying3, sizeOf, typeInfo, hi, asInt, asIntOf, hw, hroom, hz1, hz2, Addr.add_lit, storeCells, hnc, hst, IntKind.wrap_i64]
        have he : w.setRow g cur = w := by
          have := hst
          simp [storeCells] at this
          exact this.symm
        try rw [he]
      · simp [Builtin.append_, run_underlying Try.underlying22, run_underlying Try.underlying3, sizeOf, typeInfo, zeroValue, hi, hz0, asInt, asIntOf, hw, hneg, h48, hk, hroom, hz1, hz2, Addr.add_lit, zeroCells_u8, hst]
    · unfold Own
      rw [hll]
      refine ⟨by rw [cellsOf_length, hll]; omega, .inr ⟨g, cap, _, rfl, hbg, setRow_heap w g cur _ _ _ hg, hroom, hcm, ?_, ?_⟩⟩
      · simp only [List.size_toArray, List.length_append, List.length_take, List.length_drop, Array.length_toList, cellsOf_length, List.length_replicate]
        omega
      · rw [Nat.mul_one] at htake ⊢
        rw [htake, ← cellsOf_append]
        have := hll
        rw [← hll, ← cellsOf_length]
        exact List.take_left
  · have hk : 0 < k := by omega
    have hold : (Builtin.firstCells i0.size l.length (.slice (some ⟨g, 0, none⟩) l.length cap)).run Try.prog w.drew = .ok (cellsOf l).toArray w.drew :=
      run_firstCells_some (P := Try.prog) w.drew i0.size l.length ⟨g, 0, none⟩ l.length cap (cellsOf l) (by rw [cellsOf_length, hz1]; omega) (fun j u hu => hcells j u hu)
    have hr := run_append_grow_zeros (P := Try.prog) w 22 3 22 5 i0 _ .i64 _ Try.underlying22 Try.underlying3 hi hz0 (some ⟨g, 0, none⟩) l.length cap (cellsOf l) hold k hk (by rw [hz1]; decide) (by omega) (by omega) (by rw [hz2]; omega)
      (growslice_fits (by omega) (by rw [hz2]; omega))
    refine ⟨_, _, hr, ?_, ?_⟩
    · have hge := grownCap_ge w (l.length + k) cap 5
      have hcm2 : grownCap w (l.length + k) cap 5 ≤ maxLen := grownCap_le_maxLen w (l.length + k) cap 5 (by unfold maxLen; omega)
      unfold Own
      rw [hll]
      refine ⟨by rw [cellsOf_length, hll]; omega, .inr ⟨w.heap.size, _, _, rfl, hbase, heap_alloc_new w.drew _, hge, hcm2, ?_, ?_⟩⟩
      · rw [zeroCells_u8, zeroCells_u8]
        simp only [Array.size_append, List.size_toArray, cellsOf_length, List.length_replicate]
        omega
      · rw [zeroCells_u8, zeroCells_u8]
        simp only [Array.toList_append, List.append_assoc]
        rw [← List.append_assoc, ← cellsOf_append, Nat.mul_one, ← hll, ← cellsOf_length]
        exact List.take_left
    · exact (Below.drew (Below.refl base w)).alloc hbase _

theorem wpList_append_zeros {w : World} {ops : Array Oper} {rest : List Oper} {o : Oper} {a : Act} {Q : Exit → Act → World → Prop} (hgd : o.guard = none) (s x : Operand)
    (ho : o.op = .call { callee := .builtin .append, args := #[s, x], argTypes := #[22, 3] }) (hty : o.type = 22)
    (base : Nat) (v : Value) (l : List UInt8) (k : Nat) (K : Int) (hs : a.eval s = v) (hx : a.eval x = .int .i64 K) (hK : K = (k : Int)) (hv : Own w base v l) (hl0 : 0 < l.length) (hsm : l.length + k ≤ 1000000) (hbase : base ≤ w.heap.size)
    (h : ∀ v' w', Own w' base v' (l ++ List.replicate k 0) → Below base w w' → wpList Try.prog ops Q rest (a.put o.dst v') w') : wpList Try.prog ops Q (o :: rest) a w := by
  subst hK
  obtain ⟨v', w', hr, h1, h2⟩ := append_zeros w base v l k hv hl0 hsm hbase
  rw [← hty] at hr
  refine wpList_append_run w hgd s x _ _ ho v _ hs hx v' w' ?_ (h v' w' h1 h2)
  rw [hty] at hr ⊢
  exact hr
end Go.Proofs.Ytpelgbcccgdlbaa
