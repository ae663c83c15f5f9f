/- carillonlaw17's DelayPlays from contracts (gen_delref.py). -/
import Derived.Test.YtnlmncpiccehjaaDelRef
import Derived.Test.YtnlmncpiccehjaaDelLaws1
namespace Go.Proofs.Ytnlmncpiccehjaa
open Go.RowKit Go.Proofs
set_option maxRecDepth 50000
set_option linter.unusedVariables false
set_option linter.unusedSimpArgs false

abbrev Op17 := Int × Int × Int × (Hd × Bd) × Bool
def op7K : RowK Op17 := ⟨fun x => [.int .i64 x.1, .int .i64 x.2.1, .int .i64 x.2.2.1] ++ msK.enc x.2.2.2.1 ++ [.bool x.2.2.2.2], 27, by decide, fun _ => rfl, by
  intro x v hv
  rcases List.mem_append.1 hv with hv | hv
  · rcases List.mem_append.1 hv with hv | hv
    · simp only [List.mem_cons, List.not_mem_nil, or_false] at hv
      rcases hv with rfl | rfl | rfl <;> rfl
    · exact msK.one _ v hv
  · simp only [List.mem_cons, List.not_mem_nil, or_false] at hv
    rcases hv with rfl
    rfl⟩
def zeroOp7 : Op17 := (0, 0, 0, zeroM, false)
instance : Inhabited Op17 := ⟨zeroOp7⟩
theorem op7T : StrT op7K 36 := ⟨⟨_, Try.underlying36, rfl⟩, by kernel_rfl⟩

set_option maxRecDepth 100000 in
set_option maxHeartbeats 8000000 in
theorem delayPlays_from {R : List Value → Xs → Prop} (HNew : CNewX R) (HR : CReq R) (HS : CSent R) (HP : CResp R) (HC : CClrX R) (HQ : CAns) (me : Int × Int) (hme : 0 ≤ me.1 ∧ me.1 < 18446744073709551616) (dm : Int) (v : Value) (l : List Op17) (w : World) (hR : op7K.Reads w v l) (hall : ∀ x ∈ l, HdOk x.2.2.2.1.1 ∧ -9223372036854775808 ≤ x.2.1 ∧ x.2.1 ≤ 9223372036854775807) :
    Calls Try.prog 3 #[.agg (prK.enc me).toArray, .int .i64 dm, v] w fun e w' => e = .returned (.bool true) ∧ Below w.heap.size w w' := by
  obtain ⟨p, cap, rfl, hcap, hmax, hat⟩ := hR
  have HAT := hid fun h => RowK.At.pos (K := op7K) hat h
  have HALL := hid hall
  unfold maxLen at hmax
  clear hat hall
  have z0 := bnew w (Obj.cells (prK.enc me).toArray 24)
  have hP := Box.new w (prK.enc me) 24
  have hb := z0
  clear z0
  go_enter Try.func3, Try.ntmps3
  go_upto_region 1 with fail
  change Code.wp Try.prog _ _ _ (w.alloc (Obj.cells (prK.enc me).toArray 24))
  generalize (w.alloc (Obj.cells (prK.enc me).toArray 24)) = W at *
  generalize hG : w.heap.size = G at *
  rw [← hG] at hb
  have l_hP : w.heap.size ≤ G := by omega
  go_wp2_with (guard_target =~ wpList _ _ _ (⟨some 20, _, _, _, _, _⟩ :: _) _ _; refine prT.load (op := ⟨some 20, .load _ _, _, _, _, _⟩) (by rfl) _ (by rfl) G 0 (by rfl) (me) hP.rangeK ?_)
  refine (HNew me dm W hme).mono ?_
  rintro e w1 ⟨gx, rfl, hg, h9, bq⟩
  have n_hP_hX : G ≠ gx := by have h1 := hP.lt; have h2 := hg; omega
  have l_hX : w.heap.size ≤ gx := Nat.le_trans hb.size (hg)
  replace hP := hP.below bq
  replace hb := bnext hb bq
  clear bq
  have hX := h9
  clear h9 hg
  have NB := Box.new w1 (xqK.enc ⟨me, dm, false, false, 0, 0⟩) 30
  have nb := bnew w1 (Obj.cells (xqK.enc ⟨me, dm, false, false, 0, 0⟩).toArray 30)
  have n_hX_hY : gx ≠ w1.heap.size := by have := hX.lt; omega
  have n_hP_hY : G ≠ w1.heap.size := by have := hP.lt; omega
  have l_hY : w.heap.size ≤ w1.heap.size := hb.size
  go_upto_region 3 with (first | (guard_target =~ wpList _ _ _ (⟨some 23, _, _, _, _, _⟩ :: _) _ _; refine prT.load (op := ⟨some 23, .load _ _, _, _, _, _⟩) (by rfl) _ (by rfl) G 0 (by rfl) (me) hP.rangeK ?_) | (guard_target =~ wpList _ _ _ (⟨some 25, _, _, _, _, _⟩ :: _) _ _; refine wpList_build_any (op := ⟨some 25, .build _ _, _, _, _, _⟩) (by rfl) _ _ (by rfl) _ (by rfl) (xqK.enc ⟨me, dm, false, false, 0, 0⟩).toArray (by kernel_rfl) ?_))
  change Code.wp Try.prog _ _ _ (w1.alloc (Obj.cells (xqK.enc ⟨me, dm, false, false, 0, 0⟩).toArray 30))
  replace hX := hX.below nb
  replace hP := hP.below nb
  replace hb := bnext hb nb
  generalize w1.alloc (Obj.cells (xqK.enc ⟨me, dm, false, false, 0, 0⟩).toArray 30) = W1 at *
  generalize w1.heap.size = gr at *
  have hY : ObAt 30 RX W1 gr ⟨me, dm, none⟩ := ⟨_, NB, _, rfl, rfl, fun h => h⟩
  clear NB nb
  go_wp2_with fail
  go_loopw [9] (fun iv wr => ∃ (j : Nat) (x : Xs), j ≤ l.length ∧ j ≤ 60 ∧ iv = .int .i64 (j : Int) ∧ XAt R wr gx x ∧ ObAt 30 RX wr gr x ∧ Box wr G (prK.enc me) 24 ∧ Below w.heap.size w wr) (fun iv _ => 60 - (intOf iv).toNat)
  case atStart => exact ⟨0, _, Nat.zero_le _, Nat.zero_le _, rfl, hX, hY, hP, hb⟩
  case round =>
    clear hX hY hP hb
    obtain ⟨j, x, hjl, hj60, rfl, hX, hY, hP, hb⟩ := hrel
    by_cases hlt : j < l.length
    case neg =>
      have hltI : ¬ (j : Int) < (l.length : Int) := by omega
      go_wp2_with fail
      refine (awake17_from HNew HR HS HP _).mono ?_
      rintro e wz ⟨rfl, bz⟩
      go_wp2_with fail
      go_ret
      exact ⟨rfl, bnext hb bz⟩
    by_cases h60 : j < 60
    case neg =>
      have hltI : (j : Int) < (l.length : Int) := by omega
      have h60I : ¬ (j : Int) < 60 := by omega
      go_wp2_with fail
      refine (awake17_from HNew HR HS HP _).mono ?_
      rintro e wz ⟨rfl, bz⟩
      go_wp2_with fail
      go_ret
      exact ⟨rfl, bnext hb bz⟩
    have hltI : (j : Int) < (l.length : Int) := by omega
    have h60I : (j : Int) < 60 := by omega
    have hj0 : (0 : Int) ≤ (j : Int) := by omega
    obtain ⟨b, off, rfl, hbl, hc⟩ := HAT.out (by omega)
    have hR : wr.rangeAt b (off + j * 27) (op7K.enc l[j]) := fun i u hi => by
      have hi27 : i < 27 := (List.getElem?_eq_some_iff.1 hi).1
      rw [hb.cell (p := ⟨b, off + j * 27 + i, none⟩) (by show b < w.heap.size; omega), Nat.add_assoc]
      exact RowK.At.cell (K := op7K) hc j i hlt hi27 u hi
    have hok := HALL.out _ (List.getElem_mem hlt)
    clear hc
    generalize l[j] = v at *
    obtain ⟨kd, sq, at', m, mine⟩ := v
    have hn1 := bnew wr (Obj.cells (op7K.enc (zeroOp7)).toArray 36)
    have hM0 := Box.new wr (op7K.enc (zeroOp7)) 36
    go_upto_region 9 with (first | (guard_target =~ wpList _ _ _ (⟨some 42, _, _, _, _, _⟩ :: _) _ _; refine op7T.load (op := ⟨some 42, .load _ _, _, _, _, _⟩) (by rfl) _ (by rfl) b (off + j * 27) (by rfl) ((kd, sq, at', m, mine)) hR ?_) | (guard_target =~ wpList _ _ _ (⟨none, _, _, _, _, _⟩ :: _) _ _; refine op7T.store (op := ⟨none, .store _ _ _, _, _, _, _⟩) (by rfl) _ _ (by rfl) (wr.heap.size) ((kd, sq, at', m, mine)) (zeroOp7) _ (by rfl) (by rfl) hM0 ?_))
    have n_hX_hO : gx ≠ wr.heap.size := by have h1 := hX.lt; have h2 := Nat.le_refl wr.heap.size; omega
    have n_hY_hO : gr ≠ wr.heap.size := by have h1 := hY.lt; have h2 := Nat.le_refl wr.heap.size; omega
    have n_hP_hO : G ≠ wr.heap.size := by have h1 := hP.lt; have h2 := Nat.le_refl wr.heap.size; omega
    have l_hO : w.heap.size ≤ wr.heap.size := Nat.le_trans hb.size (Nat.le_refl wr.heap.size)
    have hO := hM0.rowK (op7K.enc ((kd, sq, at', m, mine)))
    replace hX := (hX.below hn1).row (k := wr.heap.size) n_hX_hO (op7K.enc ((kd, sq, at', m, mine))).toArray
    replace hY := (hY.below hn1).row (k := wr.heap.size) n_hY_hO (op7K.enc ((kd, sq, at', m, mine))).toArray
    replace hP := (hP.below hn1).rowK_other (k := wr.heap.size) n_hP_hO (op7K.enc ((kd, sq, at', m, mine))).toArray
    have hW := below_setRow hn1 (Nat.le_refl _) (op7K.enc ((kd, sq, at', m, mine))).toArray
    replace hb := bnext hb hW
    change Code.wp Try.prog _ _ _ ((wr.alloc (Obj.cells (op7K.enc (zeroOp7)).toArray 36)).setRow wr.heap.size (op7K.enc ((kd, sq, at', m, mine))).toArray)
    generalize (wr.alloc (Obj.cells (op7K.enc (zeroOp7)).toArray 36)).setRow wr.heap.size (op7K.enc ((kd, sq, at', m, mine))).toArray = w11 at *
    clear hn1 hM0 hW
    generalize wr.heap.size = go at *
    clear hR
    obtain ⟨hok, hsq⟩ := hok
    replace hok : HdOk m.1 := hok
    replace hsq : -9223372036854775808 ≤ sq ∧ sq ≤ 9223372036854775807 := hsq
    have o0 : w11.cell? ⟨go, 0, none⟩ = some (.int .i64 kd) := hO.cell 0 _ rfl
    have o1 : w11.cell? ⟨go, 1, none⟩ = some (.int .i64 sq) := hO.cell 1 _ rfl
    have o2 : w11.cell? ⟨go, 2, none⟩ = some (.int .i64 at') := hO.cell 2 _ rfl
    go_wp2_with (first | (guard_target =~ wpList _ _ _ (⟨some 45, _, _, _, _, _⟩ :: _) _ _; refine msT.load (op := ⟨some 45, .load _ _, _, _, _, _⟩) (by rfl) _ (by rfl) go 3 (by rfl) (m) (Box.range_mid [.int .i64 kd, .int .i64 sq, .int .i64 at'] (msK.enc m) [.bool mine] hO) ?_) | (guard_target =~ wpList _ _ _ (⟨some 46, _, _, _, _, _⟩ :: _) _ _; refine prT.load (op := ⟨some 46, .load _ _, _, _, _, _⟩) (by rfl) _ (by rfl) G 0 (by rfl) (me) hP.rangeK ?_))
    clear o0 o1 o2
    refine (HQ m me at' sq w11 hok).mono ?_
    rintro e w12 ⟨rfl, bq⟩
    replace hX := hX.below bq
    replace hY := hY.below bq
    replace hP := hP.below bq
    replace hO := hO.below bq
    replace hb := bnext hb bq
    clear bq
    have hn1 := bnew w12 (Obj.cells (msK.enc (zeroM)).toArray 34)
    have hM0 := Box.new w12 (msK.enc (zeroM)) 34
    go_upto_region 10 with (guard_target =~ wpList _ _ _ (⟨none, _, _, _, _, _⟩ :: _) _ _; refine msT.store (op := ⟨none, .store _ _ _, _, _, _, _⟩) (by rfl) _ _ (by rfl) (w12.heap.size) (answM m me at' sq) (zeroM) _ (by rfl) (by rfl) hM0 ?_)
    have n_hX_hA : gx ≠ w12.heap.size := by have h1 := hX.lt; have h2 := Nat.le_refl w12.heap.size; omega
    have n_hY_hA : gr ≠ w12.heap.size := by have h1 := hY.lt; have h2 := Nat.le_refl w12.heap.size; omega
    have n_hP_hA : G ≠ w12.heap.size := by have h1 := hP.lt; have h2 := Nat.le_refl w12.heap.size; omega
    have n_hO_hA : go ≠ w12.heap.size := by have h1 := hO.lt; have h2 := Nat.le_refl w12.heap.size; omega
    have l_hA : w.heap.size ≤ w12.heap.size := Nat.le_trans hb.size (Nat.le_refl w12.heap.size)
    have hA := hM0.rowK (msK.enc (answM m me at' sq))
    replace hX := (hX.below hn1).row (k := w12.heap.size) n_hX_hA (msK.enc (answM m me at' sq)).toArray
    replace hY := (hY.below hn1).row (k := w12.heap.size) n_hY_hA (msK.enc (answM m me at' sq)).toArray
    replace hP := (hP.below hn1).rowK_other (k := w12.heap.size) n_hP_hA (msK.enc (answM m me at' sq)).toArray
    replace hO := (hO.below hn1).rowK_other (k := w12.heap.size) n_hO_hA (msK.enc (answM m me at' sq)).toArray
    have hW := below_setRow hn1 (Nat.le_refl _) (msK.enc (answM m me at' sq)).toArray
    replace hb := bnext hb hW
    change Code.wp Try.prog _ _ _ ((w12.alloc (Obj.cells (msK.enc (zeroM)).toArray 34)).setRow w12.heap.size (msK.enc (answM m me at' sq)).toArray)
    generalize (w12.alloc (Obj.cells (msK.enc (zeroM)).toArray 34)).setRow w12.heap.size (msK.enc (answM m me at' sq)).toArray = w13 at *
    clear hn1 hM0 hW
    generalize w12.heap.size = ga at *
    have o0 : w13.cell? ⟨go, 0, none⟩ = some (.int .i64 kd) := hO.cell 0 _ rfl
    have o1 : w13.cell? ⟨go, 1, none⟩ = some (.int .i64 sq) := hO.cell 1 _ rfl
    have o2 : w13.cell? ⟨go, 2, none⟩ = some (.int .i64 at') := hO.cell 2 _ rfl
    go_wp2_with (first | (guard_target =~ wpList _ _ _ (⟨some 56, _, _, _, _, _⟩ :: _) _ _; refine msT.load (op := ⟨some 56, .load _ _, _, _, _, _⟩) (by rfl) _ (by rfl) go 3 (by rfl) (m) (Box.range_mid [.int .i64 kd, .int .i64 sq, .int .i64 at'] (msK.enc m) [.bool mine] hO) ?_) | (guard_target =~ wpList _ _ _ (⟨some 57, _, _, _, _, _⟩ :: _) _ _; refine prT.load (op := ⟨some 57, .load _ _, _, _, _, _⟩) (by rfl) _ (by rfl) G 0 (by rfl) (me) hP.rangeK ?_))
    clear o0 o1 o2
    refine (refAns_any m me at' sq w13).mono ?_
    rintro e w14 ⟨rfl, bq⟩
    replace hX := hX.below bq
    replace hY := hY.below bq
    replace hP := hP.below bq
    replace hO := hO.below bq
    replace hA := hA.below bq
    replace hb := bnext hb bq
    clear bq
    have hn1 := bnew w14 (Obj.cells (msK.enc (zeroM)).toArray 34)
    have hM0 := Box.new w14 (msK.enc (zeroM)) 34
    go_upto_region 11 with (guard_target =~ wpList _ _ _ (⟨none, _, _, _, _, _⟩ :: _) _ _; refine msT.store (op := ⟨none, .store _ _ _, _, _, _, _⟩) (by rfl) _ _ (by rfl) (w14.heap.size) (answM m me at' sq) (zeroM) _ (by rfl) (by rfl) hM0 ?_)
    have n_hX_hC : gx ≠ w14.heap.size := by have h1 := hX.lt; have h2 := Nat.le_refl w14.heap.size; omega
    have n_hY_hC : gr ≠ w14.heap.size := by have h1 := hY.lt; have h2 := Nat.le_refl w14.heap.size; omega
    have n_hP_hC : G ≠ w14.heap.size := by have h1 := hP.lt; have h2 := Nat.le_refl w14.heap.size; omega
    have n_hO_hC : go ≠ w14.heap.size := by have h1 := hO.lt; have h2 := Nat.le_refl w14.heap.size; omega
    have n_hA_hC : ga ≠ w14.heap.size := by have h1 := hA.lt; have h2 := Nat.le_refl w14.heap.size; omega
    have l_hC : w.heap.size ≤ w14.heap.size := Nat.le_trans hb.size (Nat.le_refl w14.heap.size)
    have hC := hM0.rowK (msK.enc (answM m me at' sq))
    replace hX := (hX.below hn1).row (k := w14.heap.size) n_hX_hC (msK.enc (answM m me at' sq)).toArray
    replace hY := (hY.below hn1).row (k := w14.heap.size) n_hY_hC (msK.enc (answM m me at' sq)).toArray
    replace hP := (hP.below hn1).rowK_other (k := w14.heap.size) n_hP_hC (msK.enc (answM m me at' sq)).toArray
    replace hO := (hO.below hn1).rowK_other (k := w14.heap.size) n_hO_hC (msK.enc (answM m me at' sq)).toArray
    replace hA := (hA.below hn1).rowK_other (k := w14.heap.size) n_hA_hC (msK.enc (answM m me at' sq)).toArray
    have hW := below_setRow hn1 (Nat.le_refl _) (msK.enc (answM m me at' sq)).toArray
    replace hb := bnext hb hW
    change Code.wp Try.prog _ _ _ ((w14.alloc (Obj.cells (msK.enc (zeroM)).toArray 34)).setRow w14.heap.size (msK.enc (answM m me at' sq)).toArray)
    generalize (w14.alloc (Obj.cells (msK.enc (zeroM)).toArray 34)).setRow w14.heap.size (msK.enc (answM m me at' sq)).toArray = w15 at *
    clear hn1 hM0 hW
    generalize w14.heap.size = gc at *
    have sm := same_ms (answM m me at' sq)
    have o0 : w15.cell? ⟨go, 0, none⟩ = some (.int .i64 kd) := hO.cell 0 _ rfl
    go_wp2_with (first | (guard_target =~ wpList _ _ _ (⟨some 65, _, _, _, _, _⟩ :: _) _ _; refine msT.load (op := ⟨some 65, .load _ _, _, _, _, _⟩) (by rfl) _ (by rfl) ga 0 (by rfl) (answM m me at' sq) hA.rangeK ?_) | (guard_target =~ wpList _ _ _ (⟨some 66, _, _, _, _, _⟩ :: _) _ _; refine msT.load (op := ⟨some 66, .load _ _, _, _, _, _⟩) (by rfl) _ (by rfl) gc 0 (by rfl) (answM m me at' sq) hC.rangeK ?_))
    refine (place_in kd 6 _ (by decide) (by decide)).mono ?_
    rintro e w0 ⟨k, rfl, hk0, hk1, -, rfl⟩
    clear o0 sm hA hC
    by_cases h0 : k = 0
    case pos =>
      subst h0
      go_upto_region 25 with fail
      refine wp_region_held_drew (S := fun w' => Box w' go (op7K.enc (kd, sq, at', m, mine)) 36) (by kernel_rfl) (hO.below (Below.drew (Below.refl _ _))) ?_
      intro hS
      have bq := Below.drew (Below.refl w15.heap.size w15)
      generalize w15.drew = w16 at *
      clear hS
      replace hX := hX.below bq
      replace hY := hY.below bq
      replace hP := hP.below bq
      replace hO := hO.below bq
      replace hb := bnext hb bq
      clear bq
      refine rtake 0 rfl (by rfl) (by kernel_rfl) (by kernel_rfl) (by kernel_rfl) (fun _ _ _ h => h) hO (fun wx hwx => by go_simp; try with_reducible rfl) ?_
      try simp only [Act.put, List.setIfInBounds_toArray, List.set_cons_zero, List.set_cons_succ]
      refine rtake 1 rfl (by rfl) (by kernel_rfl) (by kernel_rfl) (by kernel_rfl) (fun _ _ _ h => h) hO (fun wx hwx => by go_simp; try with_reducible rfl) ?_
      try simp only [Act.put, List.setIfInBounds_toArray, List.set_cons_zero, List.set_cons_succ]
      refine rtake 2 rfl (by rfl) (by kernel_rfl) (by kernel_rfl) (by kernel_rfl) (fun _ _ _ h => h) hO (fun wx hwx => by have q1 : wx.cell? ⟨go, 1, none⟩ = some (.int .i64 sq) := hwx.cell 1 _ rfl; go_simp; try with_reducible rfl) ?_
      try simp only [Act.put, List.setIfInBounds_toArray, List.set_cons_zero, List.set_cons_succ]
      refine rtake 3 rfl (by rfl) (by kernel_rfl) (by kernel_rfl) (by kernel_rfl) (fun _ _ _ h => h) hO (fun wx hwx => by go_simp; try with_reducible rfl) ?_
      try simp only [Act.put, List.setIfInBounds_toArray, List.set_cons_zero, List.set_cons_succ]
      refine rtake 4 rfl (by rfl) (by kernel_rfl) (by kernel_rfl) (by kernel_rfl) (fun _ _ _ h => h) hO (fun wx hwx => by have q2 : wx.cell? ⟨go, 2, none⟩ = some (.int .i64 at') := hwx.cell 2 _ rfl; go_simp; try with_reducible rfl) ?_
      try simp only [Act.put, List.setIfInBounds_toArray, List.set_cons_zero, List.set_cons_succ]
      refine rtake 6 rfl (by rfl) (by kernel_rfl) (by kernel_rfl) (by kernel_rfl) (fun _ _ _ h => h) hO (fun wx hwx => by go_simp; try with_reducible rfl) ?_
      try simp only [Act.put, List.setIfInBounds_toArray, List.set_cons_zero, List.set_cons_succ]
      refine rtake 7 rfl (by rfl) (by kernel_rfl) (by kernel_rfl) (by kernel_rfl) (fun _ _ _ h => h) hO (fun wx hwx => by go_simp; try with_reducible rfl) ?_
      try simp only [Act.put, List.setIfInBounds_toArray, List.set_cons_zero, List.set_cons_succ]
      refine rtake 8 rfl (by rfl) (by kernel_rfl) (by kernel_rfl) (by kernel_rfl) (fun _ _ _ h => h) hO (fun wx hwx => by have q1 : wx.cell? ⟨go, 1, none⟩ = some (.int .i64 sq) := hwx.cell 1 _ rfl; go_simp; try with_reducible rfl) ?_
      try simp only [Act.put, List.setIfInBounds_toArray, List.set_cons_zero, List.set_cons_succ]
      refine rcall 5 rfl (by kernel_rfl) (by rfl) (fun K' hK => ?_)
      go_simp
      refine (HR gx x sq at' w16 hX hsq).mono ?_
      rintro e w17 ⟨rfl, h9, oq⟩
      refine hK.out _ _ (hO.only oq (Ne.symm n_hX_hO)) ?_
      clear hK K'
      try simp only [Act.put, List.setIfInBounds_toArray, List.set_cons_zero, List.set_cons_succ]
      replace hY := hY.only oq (Ne.symm n_hX_hY)
      replace hP := hP.only oq n_hP_hX
      replace hO := hO.only oq (Ne.symm n_hX_hO)
      replace hb := Only.below hb oq l_hX hb.size
      replace hX := h9
      clear h9 oq
      refine rcall 9 rfl (by kernel_rfl) (by rfl) (fun K' hK => ?_)
      go_simp
      refine (refReq_any gr x sq w17 hY).mono ?_
      rintro e w18 ⟨rfl, h9, oq⟩
      refine hK.out _ _ (hO.only oq (Ne.symm n_hY_hO)) ?_
      clear hK K'
      try simp only [Act.put, List.setIfInBounds_toArray, List.set_cons_zero, List.set_cons_succ]
      replace hX := hX.only oq n_hX_hY
      replace hP := hP.only oq n_hP_hY
      replace hO := hO.only oq (Ne.symm n_hY_hO)
      replace hb := Only.below hb oq l_hY hb.size
      replace hY := h9
      clear h9 oq
      have sm := same_ms (reqM x sq)
      refine rtake 10 rfl (by rfl) (by kernel_rfl) (by kernel_rfl) (by kernel_rfl) (fun _ _ _ h => h) hO (fun wx hwx => by go_simp; try with_reducible rfl) ?_
      try simp only [Act.put, List.setIfInBounds_toArray, List.set_cons_zero, List.set_cons_succ]
      clear sm
      refine wpAnyH_done (by kernel_rfl) ?_ _
      go_wp2_with fail
      go_roundw
      case rel => exact ⟨j + 1, reqS x sq, by omega, by omega, by go_num, hX, hY, hP, hb⟩
      case measure => simp [intOf]; omega
    by_cases h1 : k = 1
    case pos =>
      subst h1
      go_upto_region 25 with fail
      refine wp_region_held_drew (S := fun w' => Box w' go (op7K.enc (kd, sq, at', m, mine)) 36) (by kernel_rfl) (hO.below (Below.drew (Below.refl _ _))) ?_
      intro hS
      have bq := Below.drew (Below.refl w15.heap.size w15)
      generalize w15.drew = w16 at *
      clear hS
      replace hX := hX.below bq
      replace hY := hY.below bq
      replace hP := hP.below bq
      replace hO := hO.below bq
      replace hb := bnext hb bq
      clear bq
      refine rtake 0 rfl (by rfl) (by kernel_rfl) (by kernel_rfl) (by kernel_rfl) (fun _ _ _ h => h) hO (fun wx hwx => by go_simp; try with_reducible rfl) ?_
      try simp only [Act.put, List.setIfInBounds_toArray, List.set_cons_zero, List.set_cons_succ]
      refine rtake 1 rfl (by rfl) (by kernel_rfl) (by kernel_rfl) (by kernel_rfl) (fun _ _ _ h => h) hO (fun wx hwx => by go_simp; try with_reducible rfl) ?_
      try simp only [Act.put, List.setIfInBounds_toArray, List.set_cons_zero, List.set_cons_succ]
      refine rtake 2 rfl (by rfl) (by kernel_rfl) (by kernel_rfl) (by kernel_rfl) (fun _ _ _ h => h) hO (fun wx hwx => by have q1 : wx.cell? ⟨go, 1, none⟩ = some (.int .i64 sq) := hwx.cell 1 _ rfl; go_simp; try with_reducible rfl) ?_
      try simp only [Act.put, List.setIfInBounds_toArray, List.set_cons_zero, List.set_cons_succ]
      refine rtake 3 rfl (by rfl) (by kernel_rfl) (by kernel_rfl) (by kernel_rfl) (fun _ _ _ h => h) hO (fun wx hwx => by go_simp; try with_reducible rfl) ?_
      try simp only [Act.put, List.setIfInBounds_toArray, List.set_cons_zero, List.set_cons_succ]
      refine rtake 4 rfl (by rfl) (by kernel_rfl) (by kernel_rfl) (by kernel_rfl) (fun _ _ _ h => h) hO (fun wx hwx => by have q2 : wx.cell? ⟨go, 2, none⟩ = some (.int .i64 at') := hwx.cell 2 _ rfl; go_simp; try with_reducible rfl) ?_
      try simp only [Act.put, List.setIfInBounds_toArray, List.set_cons_zero, List.set_cons_succ]
      refine rtake 6 rfl (by rfl) (by kernel_rfl) (by kernel_rfl) (by kernel_rfl) (fun _ _ _ h => h) hO (fun wx hwx => by go_simp; try with_reducible rfl) ?_
      try simp only [Act.put, List.setIfInBounds_toArray, List.set_cons_zero, List.set_cons_succ]
      refine rtake 7 rfl (by rfl) (by kernel_rfl) (by kernel_rfl) (by kernel_rfl) (fun _ _ _ h => h) hO (fun wx hwx => by go_simp; try with_reducible rfl) ?_
      try simp only [Act.put, List.setIfInBounds_toArray, List.set_cons_zero, List.set_cons_succ]
      refine rtake 8 rfl (by rfl) (by kernel_rfl) (by kernel_rfl) (by kernel_rfl) (fun _ _ _ h => h) hO (fun wx hwx => by have q1 : wx.cell? ⟨go, 1, none⟩ = some (.int .i64 sq) := hwx.cell 1 _ rfl; go_simp; try with_reducible rfl) ?_
      try simp only [Act.put, List.setIfInBounds_toArray, List.set_cons_zero, List.set_cons_succ]
      refine rcall 5 rfl (by kernel_rfl) (by rfl) (fun K' hK => ?_)
      go_simp
      refine (HR gx x sq at' w16 hX hsq).mono ?_
      rintro e w17 ⟨rfl, h9, oq⟩
      refine hK.out _ _ (hO.only oq (Ne.symm n_hX_hO)) ?_
      clear hK K'
      try simp only [Act.put, List.setIfInBounds_toArray, List.set_cons_zero, List.set_cons_succ]
      replace hY := hY.only oq (Ne.symm n_hX_hY)
      replace hP := hP.only oq n_hP_hX
      replace hO := hO.only oq (Ne.symm n_hX_hO)
      replace hb := Only.below hb oq l_hX hb.size
      replace hX := h9
      clear h9 oq
      refine rcall 9 rfl (by kernel_rfl) (by rfl) (fun K' hK => ?_)
      go_simp
      refine (refReq_any gr x sq w17 hY).mono ?_
      rintro e w18 ⟨rfl, h9, oq⟩
      refine hK.out _ _ (hO.only oq (Ne.symm n_hY_hO)) ?_
      clear hK K'
      try simp only [Act.put, List.setIfInBounds_toArray, List.set_cons_zero, List.set_cons_succ]
      replace hX := hX.only oq n_hX_hY
      replace hP := hP.only oq n_hP_hY
      replace hO := hO.only oq (Ne.symm n_hY_hO)
      replace hb := Only.below hb oq l_hY hb.size
      replace hY := h9
      clear h9 oq
      have sm := same_ms (reqM x sq)
      refine rtake 10 rfl (by rfl) (by kernel_rfl) (by kernel_rfl) (by kernel_rfl) (fun _ _ _ h => h) hO (fun wx hwx => by go_simp; try with_reducible rfl) ?_
      try simp only [Act.put, List.setIfInBounds_toArray, List.set_cons_zero, List.set_cons_succ]
      clear sm
      refine wpAnyH_done (by kernel_rfl) ?_ _
      go_wp2_with fail
      go_roundw
      case rel => exact ⟨j + 1, reqS x sq, by omega, by omega, by go_num, hX, hY, hP, hb⟩
      case measure => simp [intOf]; omega
    by_cases h2 : k = 2
    case pos =>
      subst h2
      go_upto_region 28 with fail
      refine wp_region_held_drew (S := fun w' => Box w' go (op7K.enc (kd, sq, at', m, mine)) 36) (by kernel_rfl) (hO.below (Below.drew (Below.refl _ _))) ?_
      intro hS
      have bq := Below.drew (Below.refl w15.heap.size w15)
      generalize w15.drew = w16 at *
      clear hS
      replace hX := hX.below bq
      replace hY := hY.below bq
      replace hP := hP.below bq
      replace hO := hO.below bq
      replace hb := bnext hb bq
      clear bq
      refine rtake 0 rfl (by rfl) (by kernel_rfl) (by kernel_rfl) (by kernel_rfl) (fun _ _ _ h => h) hO (fun wx hwx => by go_simp; try with_reducible rfl) ?_
      try simp only [Act.put, List.setIfInBounds_toArray, List.set_cons_zero, List.set_cons_succ]
      refine rtake 1 rfl (by rfl) (by kernel_rfl) (by kernel_rfl) (by kernel_rfl) (fun _ _ _ h => h) hO (fun wx hwx => by go_simp; try with_reducible rfl) ?_
      try simp only [Act.put, List.setIfInBounds_toArray, List.set_cons_zero, List.set_cons_succ]
      refine rtake 2 rfl (by rfl) (by kernel_rfl) (by kernel_rfl) (by kernel_rfl) (fun _ _ _ h => h) hO (fun wx hwx => by have q1 : wx.cell? ⟨go, 1, none⟩ = some (.int .i64 sq) := hwx.cell 1 _ rfl; go_simp; try with_reducible rfl) ?_
      try simp only [Act.put, List.setIfInBounds_toArray, List.set_cons_zero, List.set_cons_succ]
      refine rtake 3 rfl (by rfl) (by kernel_rfl) (by kernel_rfl) (by kernel_rfl) (fun _ _ _ h => h) hO (fun wx hwx => by go_simp; try with_reducible rfl) ?_
      try simp only [Act.put, List.setIfInBounds_toArray, List.set_cons_zero, List.set_cons_succ]
      refine rtake 4 rfl (by rfl) (by kernel_rfl) (by kernel_rfl) (by kernel_rfl) (fun _ _ _ h => h) hO (fun wx hwx => by have q2 : wx.cell? ⟨go, 2, none⟩ = some (.int .i64 at') := hwx.cell 2 _ rfl; go_simp; try with_reducible rfl) ?_
      try simp only [Act.put, List.setIfInBounds_toArray, List.set_cons_zero, List.set_cons_succ]
      refine rtake 6 rfl (by rfl) (by kernel_rfl) (by kernel_rfl) (by kernel_rfl) (fun _ _ _ h => h) hO (fun wx hwx => by go_simp; try with_reducible rfl) ?_
      try simp only [Act.put, List.setIfInBounds_toArray, List.set_cons_zero, List.set_cons_succ]
      refine rtake 7 rfl (by rfl) (by kernel_rfl) (by kernel_rfl) (by kernel_rfl) (fun _ _ _ h => h) hO (fun wx hwx => by go_simp; try with_reducible rfl) ?_
      try simp only [Act.put, List.setIfInBounds_toArray, List.set_cons_zero, List.set_cons_succ]
      refine rtake 8 rfl (by rfl) (by kernel_rfl) (by kernel_rfl) (by kernel_rfl) (fun _ _ _ h => h) hO (fun wx hwx => by have q1 : wx.cell? ⟨go, 1, none⟩ = some (.int .i64 sq) := hwx.cell 1 _ rfl; go_simp; try with_reducible rfl) ?_
      try simp only [Act.put, List.setIfInBounds_toArray, List.set_cons_zero, List.set_cons_succ]
      refine rtake 9 rfl (by rfl) (by kernel_rfl) (by kernel_rfl) (by kernel_rfl) (fun _ _ _ h => h) hO (fun wx hwx => by go_simp; try with_reducible rfl) ?_
      try simp only [Act.put, List.setIfInBounds_toArray, List.set_cons_zero, List.set_cons_succ]
      refine rtake 10 rfl (by rfl) (by kernel_rfl) (by kernel_rfl) (by kernel_rfl) (fun _ _ _ h => h) hO (fun wx hwx => by have q2 : wx.cell? ⟨go, 2, none⟩ = some (.int .i64 at') := hwx.cell 2 _ rfl; go_simp; try with_reducible rfl) ?_
      try simp only [Act.put, List.setIfInBounds_toArray, List.set_cons_zero, List.set_cons_succ]
      refine rcall 5 rfl (by kernel_rfl) (by rfl) (fun K' hK => ?_)
      go_simp
      refine (HS gx x sq at' w16 hX).mono ?_
      rintro e w17 ⟨rfl, h9, oq⟩
      refine hK.out _ _ (hO.only oq (Ne.symm n_hX_hO)) ?_
      clear hK K'
      try simp only [Act.put, List.setIfInBounds_toArray, List.set_cons_zero, List.set_cons_succ]
      replace hY := hY.only oq (Ne.symm n_hX_hY)
      replace hP := hP.only oq n_hP_hX
      replace hO := hO.only oq (Ne.symm n_hX_hO)
      replace hb := Only.below hb oq l_hX hb.size
      replace hX := h9
      clear h9 oq
      refine rcall 11 rfl (by kernel_rfl) (by rfl) (fun K' hK => ?_)
      go_simp
      refine (refSent_any gr x sq at' w17 hY).mono ?_
      rintro e w18 ⟨rfl, h9, oq⟩
      refine hK.out _ _ (hO.only oq (Ne.symm n_hY_hO)) ?_
      clear hK K'
      try simp only [Act.put, List.setIfInBounds_toArray, List.set_cons_zero, List.set_cons_succ]
      replace hX := hX.only oq n_hX_hY
      replace hP := hP.only oq n_hP_hY
      replace hO := hO.only oq (Ne.symm n_hY_hO)
      replace hb := Only.below hb oq l_hY hb.size
      replace hY := h9
      clear h9 oq
      refine rtake 12 rfl (by rfl) (by kernel_rfl) (by kernel_rfl) (by kernel_rfl) (fun _ _ _ h => h) hO (fun wx hwx => by go_simp; try with_reducible rfl) ?_
      try simp only [Act.put, List.setIfInBounds_toArray, List.set_cons_zero, List.set_cons_succ]
      refine wpAnyH_done (by kernel_rfl) ?_ _
      go_wp2_with fail
      go_roundw
      case rel => exact ⟨j + 1, sentS x sq at', by omega, by omega, by go_num, hX, hY, hP, hb⟩
      case measure => simp [intOf]; omega
    by_cases h5 : k = 5
    case pos =>
      subst h5
      go_wp2_with fail
      refine (HC gx x w15 hX).mono ?_
      rintro e w16 ⟨rfl, h9, oq⟩
      replace hY := hY.only oq (Ne.symm n_hX_hY)
      replace hP := hP.only oq n_hP_hX
      replace hO := hO.only oq (Ne.symm n_hX_hO)
      replace hb := Only.below hb oq l_hX hb.size
      replace hX := h9
      clear h9 oq
      go_wp2_with fail
      refine (refClrX_any gr x w16 hY).mono ?_
      rintro e w17 ⟨rfl, h9, oq⟩
      replace hX := hX.only oq n_hX_hY
      replace hP := hP.only oq n_hP_hY
      replace hO := hO.only oq (Ne.symm n_hY_hO)
      replace hb := Only.below hb oq l_hY hb.size
      replace hY := h9
      clear h9 oq
      go_wp2_with fail
      go_roundw
      case rel => exact ⟨j + 1, { x with out := none }, by omega, by omega, by go_num, hX, hY, hP, hb⟩
      case measure => simp [intOf]; omega
    have hn1 := bnew w15 (Obj.cells (msK.enc (zeroM)).toArray 34)
    have hM0 := Box.new w15 (msK.enc (zeroM)) 34
    go_upto_region 15 with (first | (guard_target =~ wpList _ _ _ (⟨some 77, _, _, _, _, _⟩ :: _) _ _; refine msT.load (op := ⟨some 77, .load _ _, _, _, _, _⟩) (by rfl) _ (by rfl) go 3 (by rfl) (m) (Box.range_mid [.int .i64 kd, .int .i64 sq, .int .i64 at'] (msK.enc m) [.bool mine] hO) ?_) | (guard_target =~ wpList _ _ _ (⟨none, _, _, _, _, _⟩ :: _) _ _; refine msT.store (op := ⟨none, .store _ _ _, _, _, _, _⟩) (by rfl) _ _ (by rfl) (w15.heap.size) (m) (zeroM) _ (by rfl) (by rfl) hM0 ?_))
    have n_hX_hN : gx ≠ w15.heap.size := by have h1 := hX.lt; have h2 := Nat.le_refl w15.heap.size; omega
    have n_hY_hN : gr ≠ w15.heap.size := by have h1 := hY.lt; have h2 := Nat.le_refl w15.heap.size; omega
    have n_hP_hN : G ≠ w15.heap.size := by have h1 := hP.lt; have h2 := Nat.le_refl w15.heap.size; omega
    have n_hO_hN : go ≠ w15.heap.size := by have h1 := hO.lt; have h2 := Nat.le_refl w15.heap.size; omega
    have l_hN : w.heap.size ≤ w15.heap.size := Nat.le_trans hb.size (Nat.le_refl w15.heap.size)
    have hN := hM0.rowK (msK.enc (m))
    replace hX := (hX.below hn1).row (k := w15.heap.size) n_hX_hN (msK.enc (m)).toArray
    replace hY := (hY.below hn1).row (k := w15.heap.size) n_hY_hN (msK.enc (m)).toArray
    replace hP := (hP.below hn1).rowK_other (k := w15.heap.size) n_hP_hN (msK.enc (m)).toArray
    replace hO := (hO.below hn1).rowK_other (k := w15.heap.size) n_hO_hN (msK.enc (m)).toArray
    have hW := below_setRow hn1 (Nat.le_refl _) (msK.enc (m)).toArray
    replace hb := bnext hb hW
    change Code.wp Try.prog _ _ _ ((w15.alloc (Obj.cells (msK.enc (zeroM)).toArray 34)).setRow w15.heap.size (msK.enc (m)).toArray)
    generalize (w15.alloc (Obj.cells (msK.enc (zeroM)).toArray 34)).setRow w15.heap.size (msK.enc (m)).toArray = w16 at *
    clear hn1 hM0 hW
    generalize w15.heap.size = gn at *
    have om : w16.cell? ⟨go, 26, none⟩ = some (.bool mine) := hO.cell 26 _ rfl
    cases mine
    · skip
      go_wp2_with (guard_target =~ wpList _ _ _ (⟨some 90, _, _, _, _, _⟩ :: _) _ _; refine msT.load (op := ⟨some 90, .load _ _, _, _, _, _⟩) (by rfl) _ (by rfl) gn 0 (by rfl) (m) hN.rangeK ?_)
      refine (HP gx x (m) w16 hX hok).mono ?_
      rintro e w17 ⟨rfl, h9, oq⟩
      replace hY := hY.only oq (Ne.symm n_hX_hY)
      replace hP := hP.only oq n_hP_hX
      replace hO := hO.only oq (Ne.symm n_hX_hO)
      replace hN := hN.only oq (Ne.symm n_hX_hN)
      replace hb := Only.below hb oq l_hX hb.size
      replace hX := h9
      clear h9 oq
      go_wp2_with (guard_target =~ wpList _ _ _ (⟨some 96, _, _, _, _, _⟩ :: _) _ _; refine msT.load (op := ⟨some 96, .load _ _, _, _, _, _⟩) (by rfl) _ (by rfl) gn 0 (by rfl) (m) hN.rangeK ?_)
      refine (refResp_any gr x (m) w17 hY hok).mono ?_
      rintro e w18 ⟨rfl, h9, oq⟩
      replace hX := hX.only oq n_hX_hY
      replace hP := hP.only oq n_hP_hY
      replace hO := hO.only oq (Ne.symm n_hY_hO)
      replace hN := hN.only oq (Ne.symm n_hY_hN)
      replace hb := Only.below hb oq l_hY hb.size
      replace hY := h9
      clear h9 oq
      go_wp2_with fail
      go_roundw
      case rel => exact ⟨j + 1, respS x (m), by omega, by omega, by go_num, hX, hY, hP, hb⟩
      case measure => simp [intOf]; omega
    · skip
      have hc := hN.cell 0 _ rfl
      have hf := hN.free 0
      go_upto_region 17 with fail
      replace hN := hN.set 0 (.int .i64 9)
      replace hX := hX.setCell n_hX_hN 0 (.int .i64 9)
      replace hY := hY.setCell n_hY_hN 0 (.int .i64 9)
      replace hP := hP.other n_hP_hN 0 (.int .i64 9)
      replace hO := hO.other n_hO_hN 0 (.int .i64 9)
      replace hb := hb.setCell (p := ⟨gn, 0, none⟩) l_hN (.int .i64 9)
      generalize World.setCell _ _ _ = w17 at *
      clear hc hf
      replace hN : Box w17 gn (msK.enc (({ m.1 with ty := 9 }, m.2) : Hd × Bd)) _ := hN
      have p0 : w17.cell? ⟨G, 0, none⟩ = some (.int .u64 me.1) := hP.cell 0 _ rfl
      have p1 : w17.cell? ⟨G, 1, none⟩ = some (.int .i64 me.2) := hP.cell 1 _ rfl
      have c9 := hN.cell 9 _ rfl
      have f9 := hN.free 9
      have c10 := hN.cell 10 _ rfl
      have f10 := hN.free 10
      go_upto_region 18 with fail
      clear p0 p1 c9 f9 c10 f10
      replace hN := (hN.set 9 (.int .u64 me.1)).set 10 (.int .i64 me.2)
      replace hX := (hX.setCell n_hX_hN 9 (.int .u64 me.1)).setCell n_hX_hN 10 (.int .i64 me.2)
      replace hY := (hY.setCell n_hY_hN 9 (.int .u64 me.1)).setCell n_hY_hN 10 (.int .i64 me.2)
      replace hP := (hP.other n_hP_hN 9 (.int .u64 me.1)).other n_hP_hN 10 (.int .i64 me.2)
      replace hO := (hO.other n_hO_hN 9 (.int .u64 me.1)).other n_hO_hN 10 (.int .i64 me.2)
      replace hb := (hb.setCell (p := ⟨gn, 9, none⟩) l_hN (.int .u64 me.1)).setCell (p := ⟨gn, 10, none⟩) l_hN (.int .i64 me.2)
      generalize World.setCell _ _ _ = w18 at *
      replace hN : Box w18 gn (msK.enc (({ m.1 with ty := 9 }, { m.2 with tc := me.1, tp := me.2 }) : Hd × Bd)) _ := hN
      obtain ⟨xs, hQ, q, rfl, hxq, hq⟩ := id hY
      have s5 : w18.cell? ⟨gr, 5, none⟩ = some (.int .i64 q.sq) := hQ.cell 5 _ rfl
      clear hQ hxq hq
      have hc := hN.cell 6 _ rfl
      have hf := hN.free 6
      go_upto_region 19 with fail
      replace hN := hN.set 6 (.int .i64 q.sq)
      replace hX := hX.setCell n_hX_hN 6 (.int .i64 q.sq)
      replace hY := hY.setCell n_hY_hN 6 (.int .i64 q.sq)
      replace hP := hP.other n_hP_hN 6 (.int .i64 q.sq)
      replace hO := hO.other n_hO_hN 6 (.int .i64 q.sq)
      replace hb := hb.setCell (p := ⟨gn, 6, none⟩) l_hN (.int .i64 q.sq)
      generalize World.setCell _ _ _ = w19 at *
      clear hc hf
      replace hN : Box w19 gn (msK.enc (({ m.1 with ty := 9, sq := q.sq }, { m.2 with tc := me.1, tp := me.2 }) : Hd × Bd)) _ := hN
      obtain ⟨m2, hm2⟩ : ∃ m2 : Hd × Bd, m2 = ({ m.1 with ty := 9, sq := q.sq }, { m.2 with tc := me.1, tp := me.2 }) := ⟨_, rfl⟩
      rw [← hm2] at hN
      replace hok : HdOk m2.1 := by rw [hm2]; exact hok
      clear hm2
      go_wp2_with (guard_target =~ wpList _ _ _ (⟨some 90, _, _, _, _, _⟩ :: _) _ _; refine msT.load (op := ⟨some 90, .load _ _, _, _, _, _⟩) (by rfl) _ (by rfl) gn 0 (by rfl) (m2) hN.rangeK ?_)
      refine (HP gx x (m2) w19 hX hok).mono ?_
      rintro e w20 ⟨rfl, h9, oq⟩
      replace hY := hY.only oq (Ne.symm n_hX_hY)
      replace hP := hP.only oq n_hP_hX
      replace hO := hO.only oq (Ne.symm n_hX_hO)
      replace hN := hN.only oq (Ne.symm n_hX_hN)
      replace hb := Only.below hb oq l_hX hb.size
      replace hX := h9
      clear h9 oq
      go_wp2_with (guard_target =~ wpList _ _ _ (⟨some 96, _, _, _, _, _⟩ :: _) _ _; refine msT.load (op := ⟨some 96, .load _ _, _, _, _, _⟩) (by rfl) _ (by rfl) gn 0 (by rfl) (m2) hN.rangeK ?_)
      refine (refResp_any gr x (m2) w20 hY hok).mono ?_
      rintro e w21 ⟨rfl, h9, oq⟩
      replace hX := hX.only oq n_hX_hY
      replace hP := hP.only oq n_hP_hY
      replace hO := hO.only oq (Ne.symm n_hY_hO)
      replace hN := hN.only oq (Ne.symm n_hY_hN)
      replace hb := Only.below hb oq l_hY hb.size
      replace hY := h9
      clear h9 oq
      go_wp2_with fail
      go_roundw
      case rel => exact ⟨j + 1, respS x (m2), by omega, by omega, by go_num, hX, hY, hP, hb⟩
      case measure => simp [intOf]; omega
end Go.Proofs.Ytnlmncpiccehjaa
