/- Rows that are made; appends behind which the first row stays. -/
import Derived.Test.YtdhdlpoopehmlaaTlvBox
import Derived.Test.YtdhdlpoopehmlaaTlvRef8
import Derived.Test.YtdhdlpoopehmlaaChain2
import Derived.ArgAppend
namespace Go.Proofs.Ytdhdlpoopehmlaa
open Go.RowKit Go.Proofs
set_option linter.unusedVariables false
set_option linter.unusedSimpArgs false

theorem OwnT.lit (w : World) (l : List T2) (hl : l.length ≤ maxLen) : OwnT (w.alloc (.cells (tCellsOf l).toArray 32)) w.heap.size (.slice (some ⟨w.heap.size, 0, none⟩) l.length l.length) l := by
  have hc := tCellsOf_length l
  refine ⟨hc, .inr ⟨w.heap.size, l.length, (tCellsOf l).toArray, rfl, Nat.le_refl _, heap_alloc_new w _, Nat.le_refl _, hl, by simpa using hc, ?_⟩⟩
  rw [← hc]
  simp

theorem OwnI.lit (w : World) (l : List Int) (hl : l.length ≤ maxLen) : OwnI (w.alloc (.cells (iCellsOf l).toArray 58)) w.heap.size (.slice (some ⟨w.heap.size, 0, none⟩) l.length l.length) l := by
  have hc := iCellsOf_length l
  refine ⟨by omega, .inr ⟨w.heap.size, l.length, (iCellsOf l).toArray, rfl, Nat.le_refl _, heap_alloc_new w _, Nat.le_refl _, hl, by simpa using hc, ?_⟩⟩
  rw [Nat.mul_one, ← hc]
  simp

/-- 'make([]api.Tlv, 8)'. -/
theorem make_tlvs8 (w' : World) : (Instr.makeSlice 23 (.int .i64 8) (.int .i64 8)).run Try.prog w' = .ok (.slice (some ⟨w'.heap.size, 0, none⟩) 8 8) (w'.alloc (.cells (tCellsOf (List.replicate 8 (0, []))).toArray 32)) := by
  obtain ⟨i0, hi, hz0, hz1, hz2⟩ := info_parts tinfo
  have h := run_make (P := Try.prog) w' 23 32 i0 _ Try.underlying23 hi hz0 .i64 .i64 8 8 (by omega) (by omega) (by rw [hz2]; omega) (by omega)
  have e2 : madeCells (Value.agg #[Value.int IntKind.i64 0, Value.string ⟨#[]⟩]).cells (Int.toNat 8 * 2) = (tCellsOf (List.replicate 8 (0, []))).toArray := by kernel_rfl
  rw [h, hz1, e2]
  rfl

/-- 'make([]uint64, N)'. -/
theorem make_ids16 (w' : World) : (Instr.makeSlice 42 (.int .i64 16) (.int .i64 16)).run Try.prog w' = .ok (.slice (some ⟨w'.heap.size, 0, none⟩) 16 16) (w'.alloc (.cells (iCellsOf (List.replicate 16 0)).toArray 58)) := by
  obtain ⟨i0, hi, hz0, hz1, hz2⟩ := info_parts iinfo
  have h := run_make (P := Try.prog) w' 42 58 i0 _ Try.underlying42 hi hz0 .i64 .i64 16 16 (by omega) (by omega) (by rw [hz2]; omega) (by omega)
  have e2 : madeCells (Value.int IntKind.u64 0).cells (Int.toNat 16 * 1) = (iCellsOf (List.replicate 16 0)).toArray := by kernel_rfl
  rw [h, hz1, e2]
  rfl
theorem make_ids17 (w' : World) : (Instr.makeSlice 42 (.int .i64 17) (.int .i64 17)).run Try.prog w' = .ok (.slice (some ⟨w'.heap.size, 0, none⟩) 17 17) (w'.alloc (.cells (iCellsOf (List.replicate 17 0)).toArray 58)) := by
  obtain ⟨i0, hi, hz0, hz1, hz2⟩ := info_parts iinfo
  have h := run_make (P := Try.prog) w' 42 58 i0 _ Try.underlying42 hi hz0 .i64 .i64 17 17 (by omega) (by omega) (by rw [hz2]; omega) (by omega)
  have e2 : madeCells (Value.int IntKind.u64 0).cells (Int.toNat 17 * 1) = (iCellsOf (List.replicate 17 0)).toArray := by kernel_rfl
  rw [h, hz1, e2]
  rfl

theorem Own.prefix {w : World} {base g cap : Nat} {l m : List UInt8} (h : Own w base (.slice (some ⟨g, 0, none⟩) (l.length + m.length) cap) (l ++ m)) : Own w base (.slice (some ⟨g, 0, none⟩) l.length cap) l := by
  have hlen : (l ++ m).length = l.length + m.length := List.length_append
  obtain ⟨h1, ⟨h2, _⟩ | ⟨g', cap', cur, hv, hb, hg, hn, hm, hs, ht⟩⟩ := id h
  · cases h2
  · simp only [Value.slice.injEq, Option.some.injEq, Addr.mk.injEq, and_true] at hv
    obtain ⟨rfl, hnn, rfl⟩ := hv
    refine ⟨by rw [cellsOf_length]; omega, .inr ⟨g, cap, cur, rfl, hb, hg, by omega, hm, hs, ?_⟩⟩
    rw [Nat.mul_one, hlen] at ht
    have h2 := congrArg (List.take l.length) ht
    rw [List.take_take, Nat.min_eq_left (by omega), cellsOf_append, List.take_left' (cellsOf_length l)] at h2
    rw [Nat.mul_one]
    exact h2

/-- 'append(v, x...)', not empty both: v stays as it is, too. -/
theorem append_bytes_stay (w : World) (base : Nat) (v x : Value) (l m : List UInt8) (hv : Own w base v l) (hx : Bytes w x m) (hl : 0 < l.length) (hm : 0 < m.length) (hbytes : l.length + m.length ≤ 140737488355328) (hbase : base ≤ w.heap.size) :
    ∃ v' w', (Builtin.append_ #[22, 22] 22 #[v, x]).run Try.prog w = .ok v' w' ∧ Own w' base v' (l ++ m) ∧ Own w' base v l ∧ Below base w w' := by
  obtain ⟨i0, hi, hz0, hz1, hz2⟩ := info_parts info_u8
  obtain ⟨p, cx, rfl, _, _, hat⟩ := hx
  obtain ⟨b, off, rfl, _, hc⟩ := hat.pos hm
  have hnews : ∀ j u, (cellsOf m)[j]? = some u → w.cell? ((⟨b, off, none⟩ : Addr).add j) = some u := by
    intro j u hu
    have hj : j < m.length := by
      have := (List.getElem?_eq_some_iff.1 hu).1
      rwa [cellsOf_length] at this
    rw [cellsOf_get m j hj] at hu
    rw [Addr.add_plain, hc j hj]
    exact hu
  obtain ⟨g, cap, rfl, hcap, hbg, hmax, hg⟩ := hv.form hl
  by_cases hroom : l.length + m.length ≤ cap
  · obtain ⟨w', hr, hown, hgr⟩ := run_append_fits (P := Try.prog) w base 22 22 5 i0 1 Try.underlying22 hi hz1 g l.length cap (cellsOf l) hv ⟨b, off, none⟩ m.length cx (cellsOf m) (by rw [cellsOf_length]; omega) hnews (cellsOf_one m) hroom
    have ho : Own w' base (.slice (some ⟨g, 0, none⟩) (l.length + m.length) cap) (l ++ m) := by
      unfold Own
      rw [List.length_append, cellsOf_append]
      exact hown
    refine ⟨_, w', hr, ho, ho.prefix, (Below.refl base w).grown hgr hbase (fun k hk => by cases hk; exact hbg)⟩
  · obtain ⟨v', w', hr, hown, hgr⟩ := run_append_arg_grows (P := Try.prog) w 22 22 5 i0 _ 1 1 Try.underlying22 hi hz0 hz1 hz2 rfl (by decide) ⟨g, 0, none⟩ l.length cap (cellsOf l) (by rw [cellsOf_length]; omega)
      (fun j u hu => by
        have hj : j < l.length := by
          have := (List.getElem?_eq_some_iff.1 hu).1
          rwa [cellsOf_length] at this
        rw [cellsOf_get l j hj] at hu
        rw [Addr.add_plain, Nat.zero_add, hv.cell j hj]
        exact hu) ⟨b, off, none⟩ m.length cx (cellsOf m) (by rw [cellsOf_length]; omega) hnews (by omega) (by unfold maxLen; omega) (by omega)
    refine ⟨v', w', hr, Own.mono (base := w.heap.size) ?_ hbase, hv.below ((Below.refl w.heap.size w).grown hgr (Nat.le_refl _) (fun k hk => by cases hk)), (Below.refl base w).grown hgr hbase (fun k hk => by cases hk)⟩
    unfold Own
    rw [List.length_append, cellsOf_append]
    exact hown

theorem wpList_append_stay {w : World} {ops : Array Oper} {rest : List Oper} {o : Oper} {a : Act} {Q : Exit → Act → World → Prop} (hgd : o.guard = none) (s x : Operand)
    (ho : o.op = .call { callee := .builtin .append, args := #[s, x], argTypes := #[22, 22] }) (hty : o.type = 22)
    (base : Nat) (v x' : Value) (l m : List UInt8) (hs : a.eval s = v) (hx : a.eval x = x') (hv : Own w base v l) (hX : Bytes w x' m) (hl : 0 < l.length) (hm : 0 < m.length) (hbytes : l.length + m.length ≤ 140737488355328) (hbase : base ≤ w.heap.size)
    (h : ∀ v' w', Own w' base v' (l ++ m) → Own w' base v l → Below base w w' → wpList Try.prog ops Q rest (a.put o.dst v') w') : wpList Try.prog ops Q (o :: rest) a w :=
  wpList_plain hgd fun K hK => by
    obtain ⟨v', w', hr, h1, h2, h3⟩ := append_bytes_stay w base v x' l m hv hX hl hm hbytes hbase
    unfold Oper.wp execOp
    simp only [ho, resolve, invoke, builtin, Sem.run_bind, Sem.run_pure, Result.andThen_ok, List.map_toArray, List.map_cons, List.map_nil, hs, hx, hty]
    simp only [hr]
    exact hK _ _ (h v' w' h1 h2 h3)

/-- 'append(v, x...)' of TLVs, v without room: nothing older has turned. -/
theorem append_tlvs_new (w : World) (b off n : Nat) (x : Value) (qs ms : List T2) (hv : Tlvs w (.slice (some ⟨b, off, none⟩) n n) qs) (hx : Tlvs w x ms) (hm : 0 < ms.length) (hbytes : (qs.length + ms.length) * 24 ≤ 140737488355328) :
    ∃ v' w', (Builtin.append_ #[23, 23] 23 #[.slice (some ⟨b, off, none⟩) n n, x]).run Try.prog w = .ok v' w' ∧ OwnT w' w.heap.size v' (qs ++ ms) ∧ Below w.heap.size w w' := by
  obtain ⟨p, cap, he, h1, h2, hat⟩ := hv
  cases he
  obtain ⟨p', cx, rfl, _, _, hat'⟩ := hx
  obtain ⟨b', off', rfl, _, hc'⟩ := hat'.pos hm
  obtain ⟨i0, hi, hz0, hz1, hz2⟩ := info_parts tinfo
  have hcells : ∀ (l : List T2) (b off : Nat), (∀ j v, (tCellsOf l)[j]? = some v → w.cell? ⟨b, off + j, none⟩ = some v) → ∀ j u, (tCellsOf l)[j]? = some u → w.cell? ((⟨b, off, none⟩ : Addr).add j) = some u := by
    intro l b off h j u hu
    rw [Addr.add_plain]
    exact h j u hu
  have hold : ∀ j u, (tCellsOf qs)[j]? = some u → w.cell? ((⟨b, off, none⟩ : Addr).add j) = some u := by
    rcases hat with rfl | ⟨b2, off2, he, _, hc⟩
    · intro j u hu; simp [tCellsOf] at hu
    · cases he
      exact hcells qs b off hc
  obtain ⟨v', w', hr, hown, hgr⟩ := run_append_arg_grows (P := Try.prog) w 23 23 32 i0 _ 2 24 Try.underlying23 hi hz0 hz1 hz2 rfl (by decide) ⟨b, off, none⟩ qs.length qs.length (tCellsOf qs) (tCellsOf_length qs) hold ⟨b', off', none⟩ ms.length cx (tCellsOf ms) (tCellsOf_length ms) (hcells ms b' off' hc') (by omega) (by unfold maxLen; omega) hbytes
  refine ⟨v', w', hr, ?_, (Below.refl w.heap.size w).grown hgr (Nat.le_refl _) (fun k hk => by cases hk)⟩
  unfold OwnT
  rw [List.length_append, tCellsOf_append]
  exact hown

theorem wpList_append_tlvs_new {w : World} {ops : Array Oper} {rest : List Oper} {o : Oper} {a : Act} {Q : Exit → Act → World → Prop} (hgd : o.guard = none) (s x : Operand)
    (ho : o.op = .call { callee := .builtin .append, args := #[s, x], argTypes := #[23, 23] }) (hty : o.type = 23)
    (b off n : Nat) (x' : Value) (l m : List T2) (hs : a.eval s = .slice (some ⟨b, off, none⟩) n n) (hx : a.eval x = x') (hv : Tlvs w (.slice (some ⟨b, off, none⟩) n n) l) (hX : Tlvs w x' m) (hm : 0 < m.length) (hbytes : (l.length + m.length) * 24 ≤ 140737488355328)
    (h : ∀ v' w', OwnT w' w.heap.size v' (l ++ m) → Below w.heap.size w w' → wpList Try.prog ops Q rest (a.put o.dst v') w') : wpList Try.prog ops Q (o :: rest) a w :=
  wpList_plain hgd fun K hK => by
    obtain ⟨v', w', hr, h1, h2⟩ := append_tlvs_new w b off n x' l m hv hX hm hbytes
    unfold Oper.wp execOp
    simp only [ho, resolve, invoke, builtin, Sem.run_bind, Sem.run_pure, Result.andThen_ok, List.map_toArray, List.map_cons, List.map_nil, hs, hx, hty]
    simp only [hr]
    exact hK _ _ (h v' w' h1 h2)
end Go.Proofs.Ytdhdlpoopehmlaa
