/- The document's own Check of chapter 7: the walk (gen_body.py). -/
import Derived.Test.YtohgpnlihfcecaaBodyChk
import Derived.Test.YtohgpnlihfcecaaMsg3
namespace Go.Proofs.Ytohgpnlihfcecaa
open Go.RowKit Go.Proofs
set_option maxRecDepth 50000
set_option linter.unusedVariables false
set_option linter.unusedSimpArgs false

set_option maxRecDepth 100000 in
set_option maxHeartbeats 4000000 in
theorem refCheckM_no (h : Hd) (d : Bd) (w : World) (hc : checkB h = false) :
    Calls Try.prog 24 #[.agg (msgF h d).toArray] w fun e w' => e = .returned (.bool false) ∧ Below w.heap.size w w' := by
  go_enter Try.func24, Try.ntmps24
  go_upto_region 1 with fail
  obtain ⟨W, hWe, hbw, hBox⟩ := box_msg w (msgF h d)
  rw [← hWe]
  clear hWe
  go_wp2_with (refine wpList_load_msg (op := ⟨some 5, .load _ _, _, _, _, _⟩) rfl _ rfl w.heap.size rfl (msgF h d) _ hBox (msgF_length _ _) ?_)
  refine (refCheck_any h _ _).mono ?_
  rintro e w1 ⟨rfl, hb1⟩
  rw [hc]
  go_wp2_with fail
  go_ret
  exact ⟨rfl, bnext hbw hb1⟩

set_option maxRecDepth 100000 in
set_option maxHeartbeats 8000000 in
theorem refCheckM_S (h : Hd) (d : Bd) (w : World) (hc : checkB h = true) (hs : stB h.ty = true) (hg : tgB h.ty = false) (h11 : h.ty ≠ 11) (h13 : h.ty ≠ 13) :
    Calls Try.prog 24 #[.agg (msgF h d).toArray] w fun e w' => e = .returned (.bool (checkM h d)) ∧ Below w.heap.size w w' := by
  have hcm := checkM_S h d hc hs hg h11 h13
  have HK : Hid (knownB h.ty = true) := hid (check_of hc).1
  have e11 : (h.ty == 11) = false := by rw [beq_eq_false_iff_ne]; omega
  have e13 : (h.ty == 13) = false := by rw [beq_eq_false_iff_ne]; omega
  have hE := fun w' => equal_msg h ⟨d.st, 0, 0, 0, 0, 0, 0, 0, 0, 0, 0, 0, 0, 0, 0⟩ h d w'
  generalize hsm : sameM h ⟨d.st, 0, 0, 0, 0, 0, 0, 0, 0, 0, 0, 0, 0, 0, 0⟩ h d = sm at *
  generalize hcmm : checkM h d = cm at *
  have HC := hid hcm
  clear hcm hsm hcmm h11 h13
  go_enter Try.func24, Try.ntmps24
  go_upto_region 1 with fail
  obtain ⟨W, hWe, hb, hM⟩ := box_msg w (msgF h d)
  rw [← hWe]
  clear hWe
  go_wp2_with (refine wpList_load_msg (op := ⟨some 5, .load _ _, _, _, _, _⟩) rfl _ rfl w.heap.size rfl (msgF h d) _ hM (msgF_length _ _) ?_)
  refine (refCheck_any h _ _).mono ?_
  rintro e w1 ⟨rfl, hb1⟩
  rw [hc]
  replace hM := hM.below hb1
  replace hb := bnext hb hb1
  clear hb1 hc
  obtain ⟨c0, c1, c2, c3, c4, c5, c6, c7⟩ := hM.hd w1 (Below.refl _ _)
  go_upto_region 4 with (first | (guard_target =~ wpList _ _ _ (⟨some 22, _, _, _, _, _⟩ :: _) _ _; refine wpList_build_head (op := ⟨some 22, .build _ _, _, _, _, _⟩) (by rfl) _ _ _ _ _ _ _ (by rfl) h (by rfl) (by rfl) (by rfl) (by rfl) (by rfl) (by rfl) (by rfl) ?_) | (guard_target =~ wpList _ _ _ (⟨none, _, _, _, _, _⟩ :: _) _ _; refine wpList_store_msg (op := ⟨none, .store _ _ _, _, _, _, _⟩) (by rfl) _ _ (by rfl) w1.heap.size (msgF h bd0) (msgL hd0 zr) _ (by rfl) (by rfl) (Box.new w1 _ _) (msgF_length _ _) (msgL_length _ _ zr_length) (msgL_one _ _ (bdL_one _)) ?_))
  have hn1 := bnew w1 (Obj.cells (msgL hd0 zr).toArray 28)
  have hne : w.heap.size ≠ w1.heap.size := by have := hM.lt; omega
  have hG : w.heap.size ≤ w1.heap.size := hb.size
  have hZ := (Box.new w1 (msgL hd0 zr) 28).row (msgF h bd0)
  replace hM := (hM.below hn1).row_other hne (msgF h bd0).toArray
  replace hb := below_setRow (bnext hb hn1) hG (msgF h bd0).toArray
  clear hn1 c0 c1 c2 c3 c4 c5 c6 c7
  change Code.wp Try.prog _ _ _ ((w1.alloc (Obj.cells (msgL hd0 zr).toArray 28)).setRow w1.heap.size (msgF h bd0).toArray)
  generalize (w1.alloc (Obj.cells (msgL hd0 zr).toArray 28)).setRow w1.heap.size (msgF h bd0).toArray = W at *
  generalize w1.heap.size = G at *
  have c0 := hM.cell 0 _ rfl
  go_wp2_with fail
  refine (stamped_known _ _ HK.out).mono ?_
  rintro e w' ⟨rfl, rfl⟩
  rw [hs]
  have m8 := hM.cell 8 _ rfl
  have hc8 := hZ.cell 8 _ rfl
  have hf8 := hZ.free 8
  go_upto_region 7 with fail
  clear c0 m8
  replace hM := (hM.other hne 8 (.int .i64 d.st))
  replace hb := (hb.setCell (p := ⟨G, 8, none⟩) hG (.int .i64 d.st))
  replace hZ : Box _ G (msgF h ⟨d.st, 0, 0, 0, 0, 0, 0, 0, 0, 0, 0, 0, 0, 0, 0⟩) _ := (hZ.set 8 (.int .i64 d.st))
  clear hc8 hf8
  generalize World.setCell _ _ _ = W at *
  have c0 := hM.cell 0 _ rfl
  have m8 := hM.cell 8 _ rfl
  go_wp2_with fail
  refine (refMay_any _ _).mono ?_
  rintro e w' ⟨rfl, rfl⟩
  generalize hk0 : mayB d.st = k0 at *
  clear hk0
  go_wp2_with fail
  refine (targeted_known _ _ HK.out).mono ?_
  rintro e w' ⟨rfl, rfl⟩
  rw [hg]
  cases k0
  case false =>
    go_wp2_with fail
    go_ret
    exact ⟨by rw [HC.out]; rfl, hb⟩
  rw [Bool.true_and] at HC
  go_wp2_with (first | (guard_target =~ wpList _ _ _ (⟨some 132, _, _, _, _, _⟩ :: _) _ _; refine wpList_load_msg_g (op := ⟨some 132, .load _ _, _, _, _, _⟩) (by rfl) _ (by rfl) G (by rfl) (msgF h ⟨d.st, 0, 0, 0, 0, 0, 0, 0, 0, 0, 0, 0, 0, 0, 0⟩) _ hZ (msgF_length _ _) ?_) | (guard_target =~ wpList _ _ _ (⟨some 133, _, _, _, _, _⟩ :: _) _ _; refine wpList_load_msg_g (op := ⟨some 133, .load _ _, _, _, _, _⟩) (by rfl) _ (by rfl) w.heap.size (by rfl) (msgF h d) _ hM (msgF_length _ _) ?_))
  go_ret
  exact ⟨by rw [HC.out]; rfl, hb⟩

set_option maxRecDepth 100000 in
set_option maxHeartbeats 8000000 in
theorem refCheckM_B (h : Hd) (d : Bd) (w : World) (hc : checkB h = true) (hs : stB h.ty = true) (hg : tgB h.ty = true) (h11 : h.ty ≠ 11) (h13 : h.ty ≠ 13) :
    Calls Try.prog 24 #[.agg (msgF h d).toArray] w fun e w' => e = .returned (.bool (checkM h d)) ∧ Below w.heap.size w w' := by
  have hcm := checkM_B h d hc hs hg h11 h13
  have HK : Hid (knownB h.ty = true) := hid (check_of hc).1
  have e11 : (h.ty == 11) = false := by rw [beq_eq_false_iff_ne]; omega
  have e13 : (h.ty == 13) = false := by rw [beq_eq_false_iff_ne]; omega
  have hE := fun w' => equal_msg h ⟨d.st, d.tc, d.tp, 0, 0, 0, 0, 0, 0, 0, 0, 0, 0, 0, 0⟩ h d w'
  generalize hsm : sameM h ⟨d.st, d.tc, d.tp, 0, 0, 0, 0, 0, 0, 0, 0, 0, 0, 0, 0⟩ h d = sm at *
  generalize hcmm : checkM h d = cm at *
  have HC := hid hcm
  clear hcm hsm hcmm h11 h13
  go_enter Try.func24, Try.ntmps24
  go_upto_region 1 with fail
  obtain ⟨W, hWe, hb, hM⟩ := box_msg w (msgF h d)
  rw [← hWe]
  clear hWe
  go_wp2_with (refine wpList_load_msg (op := ⟨some 5, .load _ _, _, _, _, _⟩) rfl _ rfl w.heap.size rfl (msgF h d) _ hM (msgF_length _ _) ?_)
  refine (refCheck_any h _ _).mono ?_
  rintro e w1 ⟨rfl, hb1⟩
  rw [hc]
  replace hM := hM.below hb1
  replace hb := bnext hb hb1
  clear hb1 hc
  obtain ⟨c0, c1, c2, c3, c4, c5, c6, c7⟩ := hM.hd w1 (Below.refl _ _)
  go_upto_region 4 with (first | (guard_target =~ wpList _ _ _ (⟨some 22, _, _, _, _, _⟩ :: _) _ _; refine wpList_build_head (op := ⟨some 22, .build _ _, _, _, _, _⟩) (by rfl) _ _ _ _ _ _ _ (by rfl) h (by rfl) (by rfl) (by rfl) (by rfl) (by rfl) (by rfl) (by rfl) ?_) | (guard_target =~ wpList _ _ _ (⟨none, _, _, _, _, _⟩ :: _) _ _; refine wpList_store_msg (op := ⟨none, .store _ _ _, _, _, _, _⟩) (by rfl) _ _ (by rfl) w1.heap.size (msgF h bd0) (msgL hd0 zr) _ (by rfl) (by rfl) (Box.new w1 _ _) (msgF_length _ _) (msgL_length _ _ zr_length) (msgL_one _ _ (bdL_one _)) ?_))
  have hn1 := bnew w1 (Obj.cells (msgL hd0 zr).toArray 28)
  have hne : w.heap.size ≠ w1.heap.size := by have := hM.lt; omega
  have hG : w.heap.size ≤ w1.heap.size := hb.size
  have hZ := (Box.new w1 (msgL hd0 zr) 28).row (msgF h bd0)
  replace hM := (hM.below hn1).row_other hne (msgF h bd0).toArray
  replace hb := below_setRow (bnext hb hn1) hG (msgF h bd0).toArray
  clear hn1 c0 c1 c2 c3 c4 c5 c6 c7
  change Code.wp Try.prog _ _ _ ((w1.alloc (Obj.cells (msgL hd0 zr).toArray 28)).setRow w1.heap.size (msgF h bd0).toArray)
  generalize (w1.alloc (Obj.cells (msgL hd0 zr).toArray 28)).setRow w1.heap.size (msgF h bd0).toArray = W at *
  generalize w1.heap.size = G at *
  have c0 := hM.cell 0 _ rfl
  go_wp2_with fail
  refine (stamped_known _ _ HK.out).mono ?_
  rintro e w' ⟨rfl, rfl⟩
  rw [hs]
  have m8 := hM.cell 8 _ rfl
  have hc8 := hZ.cell 8 _ rfl
  have hf8 := hZ.free 8
  go_upto_region 7 with fail
  clear c0 m8
  replace hM := (hM.other hne 8 (.int .i64 d.st))
  replace hb := (hb.setCell (p := ⟨G, 8, none⟩) hG (.int .i64 d.st))
  replace hZ : Box _ G (msgF h ⟨d.st, 0, 0, 0, 0, 0, 0, 0, 0, 0, 0, 0, 0, 0, 0⟩) _ := (hZ.set 8 (.int .i64 d.st))
  clear hc8 hf8
  generalize World.setCell _ _ _ = W at *
  have c0 := hM.cell 0 _ rfl
  have m8 := hM.cell 8 _ rfl
  go_wp2_with fail
  refine (refMay_any _ _).mono ?_
  rintro e w' ⟨rfl, rfl⟩
  generalize hk0 : mayB d.st = k0 at *
  clear hk0
  go_wp2_with fail
  refine (targeted_known _ _ HK.out).mono ?_
  rintro e w' ⟨rfl, rfl⟩
  rw [hg]
  cases k0
  case false =>
    have m9 := hM.cell 9 _ rfl
    have hc9 := hZ.cell 9 _ rfl
    have hf9 := hZ.free 9
    have m10 := hM.cell 10 _ rfl
    have hc10 := hZ.cell 10 _ rfl
    have hf10 := hZ.free 10
    go_upto_region 10 with fail
    have hb2 := ((hb.setCell (p := ⟨G, 9, none⟩) hG (.int .u64 d.tc)).setCell (p := ⟨G, 10, none⟩) hG (.int .i64 d.tp))
    have hM2 := ((hM.other hne 9 (.int .u64 d.tc)).other hne 10 (.int .i64 d.tp))
    clear c0 m8 m9 m10 hc9 hf9 hc10 hf10 hM hb hZ
    generalize World.setCell _ _ _ = W at *
    have c0 := hM2.cell 0 _ rfl
    go_wp2_with fail
    go_ret
    exact ⟨by rw [HC.out]; rfl, hb2⟩
  rw [Bool.true_and] at HC
  have c0 := hM.cell 0 _ rfl
  have m9 := hM.cell 9 _ rfl
  have hc9 := hZ.cell 9 _ rfl
  have hf9 := hZ.free 9
  have m10 := hM.cell 10 _ rfl
  have hc10 := hZ.cell 10 _ rfl
  have hf10 := hZ.free 10
  go_upto_region 10 with fail
  clear c0 m9 m10
  replace hM := ((hM.other hne 9 (.int .u64 d.tc)).other hne 10 (.int .i64 d.tp))
  replace hb := ((hb.setCell (p := ⟨G, 9, none⟩) hG (.int .u64 d.tc)).setCell (p := ⟨G, 10, none⟩) hG (.int .i64 d.tp))
  replace hZ : Box _ G (msgF h ⟨d.st, d.tc, d.tp, 0, 0, 0, 0, 0, 0, 0, 0, 0, 0, 0, 0⟩) _ := ((hZ.set 9 (.int .u64 d.tc)).set 10 (.int .i64 d.tp))
  clear hc9 hf9 hc10 hf10
  generalize World.setCell _ _ _ = W at *
  have c0 := hM.cell 0 _ rfl
  have m9 := hM.cell 9 _ rfl
  have m10 := hM.cell 10 _ rfl
  go_wp2_with fail
  refine (refIdentMay_any _ _ _).mono ?_
  rintro e w2 ⟨rfl, hb2⟩
  replace hM := hM.below hb2
  replace hZ := hZ.below hb2
  replace hb := bnext hb hb2
  clear hb2 c0 m9 m10
  have c0 := hM.cell 0 _ rfl
  cases k1 : mayP d.tp
  · rw [k1] at HC
    go_wp2_with fail
    go_ret
    exact ⟨by rw [HC.out]; rfl, hb⟩
  rw [k1] at HC
  go_wp2_with (first | (guard_target =~ wpList _ _ _ (⟨some 132, _, _, _, _, _⟩ :: _) _ _; refine wpList_load_msg_g (op := ⟨some 132, .load _ _, _, _, _, _⟩) (by rfl) _ (by rfl) G (by rfl) (msgF h ⟨d.st, d.tc, d.tp, 0, 0, 0, 0, 0, 0, 0, 0, 0, 0, 0, 0⟩) _ hZ (msgF_length _ _) ?_) | (guard_target =~ wpList _ _ _ (⟨some 133, _, _, _, _, _⟩ :: _) _ _; refine wpList_load_msg_g (op := ⟨some 133, .load _ _, _, _, _, _⟩) (by rfl) _ (by rfl) w.heap.size (by rfl) (msgF h d) _ hM (msgF_length _ _) ?_))
  go_ret
  exact ⟨by rw [HC.out]; rfl, hb⟩

set_option maxRecDepth 100000 in
set_option maxHeartbeats 8000000 in
theorem refCheckM_A (h : Hd) (d : Bd) (w : World) (hc : checkB h = true) (h11 : h.ty = 11) :
    Calls Try.prog 24 #[.agg (msgF h d).toArray] w fun e w' => e = .returned (.bool (checkM h d)) ∧ Below w.heap.size w w' := by
  have hcm := checkM_A h d hc h11
  have HK : Hid (knownB h.ty = true) := hid (check_of hc).1
  have hs : stB h.ty = true := by rw [h11]; decide
  have hg : tgB h.ty = false := by rw [h11]; decide
  have h13 : h.ty ≠ 13 := by omega
  have e11 : (h.ty == 11) = true := by rw [beq_iff_eq]; omega
  have e13 : (h.ty == 13) = false := by rw [beq_eq_false_iff_ne]; omega
  have hE := fun w' => equal_msg h ⟨d.st, 0, 0, d.ut, d.p1, d.qc, d.qa, d.qv, d.p2, d.gr, d.sr, d.og, 0, 0, 0⟩ h d w'
  generalize hsm : sameM h ⟨d.st, 0, 0, d.ut, d.p1, d.qc, d.qa, d.qv, d.p2, d.gr, d.sr, d.og, 0, 0, 0⟩ h d = sm at *
  generalize hcmm : checkM h d = cm at *
  have HC := hid hcm
  clear hcm hsm hcmm h11 h13
  go_enter Try.func24, Try.ntmps24
  go_upto_region 1 with fail
  obtain ⟨W, hWe, hb, hM⟩ := box_msg w (msgF h d)
  rw [← hWe]
  clear hWe
  go_wp2_with (refine wpList_load_msg (op := ⟨some 5, .load _ _, _, _, _, _⟩) rfl _ rfl w.heap.size rfl (msgF h d) _ hM (msgF_length _ _) ?_)
  refine (refCheck_any h _ _).mono ?_
  rintro e w1 ⟨rfl, hb1⟩
  rw [hc]
  replace hM := hM.below hb1
  replace hb := bnext hb hb1
  clear hb1 hc
  obtain ⟨c0, c1, c2, c3, c4, c5, c6, c7⟩ := hM.hd w1 (Below.refl _ _)
  go_upto_region 4 with (first | (guard_target =~ wpList _ _ _ (⟨some 22, _, _, _, _, _⟩ :: _) _ _; refine wpList_build_head (op := ⟨some 22, .build _ _, _, _, _, _⟩) (by rfl) _ _ _ _ _ _ _ (by rfl) h (by rfl) (by rfl) (by rfl) (by rfl) (by rfl) (by rfl) (by rfl) ?_) | (guard_target =~ wpList _ _ _ (⟨none, _, _, _, _, _⟩ :: _) _ _; refine wpList_store_msg (op := ⟨none, .store _ _ _, _, _, _, _⟩) (by rfl) _ _ (by rfl) w1.heap.size (msgF h bd0) (msgL hd0 zr) _ (by rfl) (by rfl) (Box.new w1 _ _) (msgF_length _ _) (msgL_length _ _ zr_length) (msgL_one _ _ (bdL_one _)) ?_))
  have hn1 := bnew w1 (Obj.cells (msgL hd0 zr).toArray 28)
  have hne : w.heap.size ≠ w1.heap.size := by have := hM.lt; omega
  have hG : w.heap.size ≤ w1.heap.size := hb.size
  have hZ := (Box.new w1 (msgL hd0 zr) 28).row (msgF h bd0)
  replace hM := (hM.below hn1).row_other hne (msgF h bd0).toArray
  replace hb := below_setRow (bnext hb hn1) hG (msgF h bd0).toArray
  clear hn1 c0 c1 c2 c3 c4 c5 c6 c7
  change Code.wp Try.prog _ _ _ ((w1.alloc (Obj.cells (msgL hd0 zr).toArray 28)).setRow w1.heap.size (msgF h bd0).toArray)
  generalize (w1.alloc (Obj.cells (msgL hd0 zr).toArray 28)).setRow w1.heap.size (msgF h bd0).toArray = W at *
  generalize w1.heap.size = G at *
  have c0 := hM.cell 0 _ rfl
  go_wp2_with fail
  refine (stamped_known _ _ HK.out).mono ?_
  rintro e w' ⟨rfl, rfl⟩
  rw [hs]
  have m8 := hM.cell 8 _ rfl
  have hc8 := hZ.cell 8 _ rfl
  have hf8 := hZ.free 8
  go_upto_region 7 with fail
  clear c0 m8
  replace hM := (hM.other hne 8 (.int .i64 d.st))
  replace hb := (hb.setCell (p := ⟨G, 8, none⟩) hG (.int .i64 d.st))
  replace hZ : Box _ G (msgF h ⟨d.st, 0, 0, 0, 0, 0, 0, 0, 0, 0, 0, 0, 0, 0, 0⟩) _ := (hZ.set 8 (.int .i64 d.st))
  clear hc8 hf8
  generalize World.setCell _ _ _ = W at *
  have c0 := hM.cell 0 _ rfl
  have m8 := hM.cell 8 _ rfl
  go_wp2_with fail
  refine (refMay_any _ _).mono ?_
  rintro e w' ⟨rfl, rfl⟩
  generalize hk0 : mayB d.st = k0 at *
  clear hk0
  go_wp2_with fail
  refine (targeted_known _ _ HK.out).mono ?_
  rintro e w' ⟨rfl, rfl⟩
  rw [hg]
  clear c0 m8
  have c0 := hM.cell 0 _ rfl
  go_upto_region 13 with fail
  clear c0
  refine wp_region_held_drew (S := fun w' => Box w' w.heap.size (msgF h d) 28) (by kernel_rfl) (hM.below (Below.drew (Below.refl _ _))) ?_
  intro hM
  replace hZ := hZ.below (Below.drew (Below.refl W.heap.size W))
  replace hb := bnext hb (Below.drew (Below.refl W.heap.size W))
  generalize W.drew = W at *
  refine rtake 0 rfl (by rfl) (by kernel_rfl) (by kernel_rfl) (by kernel_rfl) (fun _ _ _ h => h) hM (fun wx hwx => by go_simp; try with_reducible rfl) ?_
  try simp only [Act.put, List.setIfInBounds_toArray, List.set_cons_zero, List.set_cons_succ]
  refine rtake 1 rfl (by rfl) (by kernel_rfl) (by kernel_rfl) (by kernel_rfl) (fun _ _ _ h => h) hM (fun wx hwx => by have hc11 := hwx.cell 11 _ rfl; go_simp; try with_reducible rfl) ?_
  try simp only [Act.put, List.setIfInBounds_toArray, List.set_cons_zero, List.set_cons_succ]
  refine rtake 2 rfl (by rfl) (by kernel_rfl) (by kernel_rfl) (by kernel_rfl) (fun _ _ _ h => h) hM (fun wx hwx => by go_simp; try with_reducible rfl) ?_
  try simp only [Act.put, List.setIfInBounds_toArray, List.set_cons_zero, List.set_cons_succ]
  refine rtake 3 rfl (by rfl) (by kernel_rfl) (by kernel_rfl) (by kernel_rfl) (fun _ _ _ h => h) hM (fun wx hwx => by have hc12 := hwx.cell 12 _ rfl; go_simp; try with_reducible rfl) ?_
  try simp only [Act.put, List.setIfInBounds_toArray, List.set_cons_zero, List.set_cons_succ]
  refine rtake 4 rfl (by rfl) (by kernel_rfl) (by kernel_rfl) (by kernel_rfl) (fun _ _ _ h => h) hM (fun wx hwx => by go_simp; try with_reducible rfl) ?_
  try simp only [Act.put, List.setIfInBounds_toArray, List.set_cons_zero, List.set_cons_succ]
  refine rtake 5 rfl (by rfl) (by kernel_rfl) (by kernel_rfl) (by kernel_rfl) (fun _ _ _ h => h) hM (fun wx hwx => by have hc13 := hwx.cell 13 _ rfl; have hc14 := hwx.cell 14 _ rfl; have hc15 := hwx.cell 15 _ rfl; go_simp; try with_reducible rfl) ?_
  try simp only [Act.put, List.setIfInBounds_toArray, List.set_cons_zero, List.set_cons_succ]
  refine rtake 6 rfl (by rfl) (by kernel_rfl) (by kernel_rfl) (by kernel_rfl) (fun _ _ _ h => h) hM (fun wx hwx => by go_simp; try with_reducible rfl) ?_
  try simp only [Act.put, List.setIfInBounds_toArray, List.set_cons_zero, List.set_cons_succ]
  refine rtake 7 rfl (by rfl) (by kernel_rfl) (by kernel_rfl) (by kernel_rfl) (fun _ _ _ h => h) hM (fun wx hwx => by have hc16 := hwx.cell 16 _ rfl; go_simp; try with_reducible rfl) ?_
  try simp only [Act.put, List.setIfInBounds_toArray, List.set_cons_zero, List.set_cons_succ]
  refine rtake 8 rfl (by rfl) (by kernel_rfl) (by kernel_rfl) (by kernel_rfl) (fun _ _ _ h => h) hM (fun wx hwx => by go_simp; try with_reducible rfl) ?_
  try simp only [Act.put, List.setIfInBounds_toArray, List.set_cons_zero, List.set_cons_succ]
  refine rtake 9 rfl (by rfl) (by kernel_rfl) (by kernel_rfl) (by kernel_rfl) (fun _ _ _ h => h) hM (fun wx hwx => by have hc17 := hwx.cell 17 _ rfl; go_simp; try with_reducible rfl) ?_
  try simp only [Act.put, List.setIfInBounds_toArray, List.set_cons_zero, List.set_cons_succ]
  refine rtake 10 rfl (by rfl) (by kernel_rfl) (by kernel_rfl) (by kernel_rfl) (fun _ _ _ h => h) hM (fun wx hwx => by go_simp; try with_reducible rfl) ?_
  try simp only [Act.put, List.setIfInBounds_toArray, List.set_cons_zero, List.set_cons_succ]
  refine rtake 11 rfl (by rfl) (by kernel_rfl) (by kernel_rfl) (by kernel_rfl) (fun _ _ _ h => h) hM (fun wx hwx => by have hc18 := hwx.cell 18 _ rfl; go_simp; try with_reducible rfl) ?_
  try simp only [Act.put, List.setIfInBounds_toArray, List.set_cons_zero, List.set_cons_succ]
  refine rtake 12 rfl (by rfl) (by kernel_rfl) (by kernel_rfl) (by kernel_rfl) (fun _ _ _ h => h) hM (fun wx hwx => by go_simp; try with_reducible rfl) ?_
  try simp only [Act.put, List.setIfInBounds_toArray, List.set_cons_zero, List.set_cons_succ]
  refine rtake 13 rfl (by rfl) (by kernel_rfl) (by kernel_rfl) (by kernel_rfl) (fun _ _ _ h => h) hM (fun wx hwx => by have hc19 := hwx.cell 19 _ rfl; go_simp; try with_reducible rfl) ?_
  try simp only [Act.put, List.setIfInBounds_toArray, List.set_cons_zero, List.set_cons_succ]
  refine rtake 14 rfl (by rfl) (by kernel_rfl) (by kernel_rfl) (by kernel_rfl) (fun _ _ _ h => h) hM (fun wx hwx => by go_simp; try with_reducible rfl) ?_
  try simp only [Act.put, List.setIfInBounds_toArray, List.set_cons_zero, List.set_cons_succ]
  have hc11 := hZ.cell 11 _ rfl
  have hf11 := hZ.free 11
  refine rcall 15 rfl (by kernel_rfl) (by rfl) (fun K hK => ?_)
  go_simp
  replace hM := (hM.other hne 11 (.int .i64 d.ut))
  replace hb := (hb.setCell (p := ⟨G, 11, none⟩) hG (.int .i64 d.ut))
  replace hZ : Box _ G (msgF h ⟨d.st, 0, 0, d.ut, 0, 0, 0, 0, 0, 0, 0, 0, 0, 0, 0⟩) _ := (hZ.set 11 (.int .i64 d.ut))
  clear hc11 hf11
  generalize World.setCell _ _ _ = W at *
  refine hK.out _ _ hM ?_
  clear hK K
  try simp only [Act.put, List.setIfInBounds_toArray, List.set_cons_zero, List.set_cons_succ]
  refine rtake 16 rfl (by rfl) (by kernel_rfl) (by kernel_rfl) (by kernel_rfl) (fun _ _ _ h => h) hM (fun wx hwx => by go_simp; try with_reducible rfl) ?_
  try simp only [Act.put, List.setIfInBounds_toArray, List.set_cons_zero, List.set_cons_succ]
  have hc12 := hZ.cell 12 _ rfl
  have hf12 := hZ.free 12
  refine rcall 17 rfl (by kernel_rfl) (by rfl) (fun K hK => ?_)
  go_simp
  replace hM := (hM.other hne 12 (.int .i64 d.p1))
  replace hb := (hb.setCell (p := ⟨G, 12, none⟩) hG (.int .i64 d.p1))
  replace hZ : Box _ G (msgF h ⟨d.st, 0, 0, d.ut, d.p1, 0, 0, 0, 0, 0, 0, 0, 0, 0, 0⟩) _ := (hZ.set 12 (.int .i64 d.p1))
  clear hc12 hf12
  generalize World.setCell _ _ _ = W at *
  refine hK.out _ _ hM ?_
  clear hK K
  try simp only [Act.put, List.setIfInBounds_toArray, List.set_cons_zero, List.set_cons_succ]
  refine rtake 18 rfl (by rfl) (by kernel_rfl) (by kernel_rfl) (by kernel_rfl) (fun _ _ _ h => h) hM (fun wx hwx => by go_simp; try with_reducible rfl) ?_
  try simp only [Act.put, List.setIfInBounds_toArray, List.set_cons_zero, List.set_cons_succ]
  have hc13 := hZ.cell 13 _ rfl
  have hf13 := hZ.free 13
  have hc14 := hZ.cell 14 _ rfl
  have hf14 := hZ.free 14
  have hc15 := hZ.cell 15 _ rfl
  have hf15 := hZ.free 15
  refine rcall 19 rfl (by kernel_rfl) (by rfl) (fun K hK => ?_)
  go_simp
  replace hM := (((hM.other hne 13 (.int .i64 d.qc)).other hne 14 (.int .i64 d.qa)).other hne 15 (.int .i64 d.qv))
  replace hb := (((hb.setCell (p := ⟨G, 13, none⟩) hG (.int .i64 d.qc)).setCell (p := ⟨G, 14, none⟩) hG (.int .i64 d.qa)).setCell (p := ⟨G, 15, none⟩) hG (.int .i64 d.qv))
  replace hZ : Box _ G (msgF h ⟨d.st, 0, 0, d.ut, d.p1, d.qc, d.qa, d.qv, 0, 0, 0, 0, 0, 0, 0⟩) _ := (((hZ.set 13 (.int .i64 d.qc)).set 14 (.int .i64 d.qa)).set 15 (.int .i64 d.qv))
  clear hc13 hf13 hc14 hf14 hc15 hf15
  generalize World.setCell _ _ _ = W at *
  refine hK.out _ _ hM ?_
  clear hK K
  try simp only [Act.put, List.setIfInBounds_toArray, List.set_cons_zero, List.set_cons_succ]
  refine rtake 20 rfl (by rfl) (by kernel_rfl) (by kernel_rfl) (by kernel_rfl) (fun _ _ _ h => h) hM (fun wx hwx => by go_simp; try with_reducible rfl) ?_
  try simp only [Act.put, List.setIfInBounds_toArray, List.set_cons_zero, List.set_cons_succ]
  have hc16 := hZ.cell 16 _ rfl
  have hf16 := hZ.free 16
  refine rcall 21 rfl (by kernel_rfl) (by rfl) (fun K hK => ?_)
  go_simp
  replace hM := (hM.other hne 16 (.int .i64 d.p2))
  replace hb := (hb.setCell (p := ⟨G, 16, none⟩) hG (.int .i64 d.p2))
  replace hZ : Box _ G (msgF h ⟨d.st, 0, 0, d.ut, d.p1, d.qc, d.qa, d.qv, d.p2, 0, 0, 0, 0, 0, 0⟩) _ := (hZ.set 16 (.int .i64 d.p2))
  clear hc16 hf16
  generalize World.setCell _ _ _ = W at *
  refine hK.out _ _ hM ?_
  clear hK K
  try simp only [Act.put, List.setIfInBounds_toArray, List.set_cons_zero, List.set_cons_succ]
  refine rtake 22 rfl (by rfl) (by kernel_rfl) (by kernel_rfl) (by kernel_rfl) (fun _ _ _ h => h) hM (fun wx hwx => by go_simp; try with_reducible rfl) ?_
  try simp only [Act.put, List.setIfInBounds_toArray, List.set_cons_zero, List.set_cons_succ]
  have hc17 := hZ.cell 17 _ rfl
  have hf17 := hZ.free 17
  refine rcall 23 rfl (by kernel_rfl) (by rfl) (fun K hK => ?_)
  go_simp
  replace hM := (hM.other hne 17 (.int .u64 d.gr))
  replace hb := (hb.setCell (p := ⟨G, 17, none⟩) hG (.int .u64 d.gr))
  replace hZ : Box _ G (msgF h ⟨d.st, 0, 0, d.ut, d.p1, d.qc, d.qa, d.qv, d.p2, d.gr, 0, 0, 0, 0, 0⟩) _ := (hZ.set 17 (.int .u64 d.gr))
  clear hc17 hf17
  generalize World.setCell _ _ _ = W at *
  refine hK.out _ _ hM ?_
  clear hK K
  try simp only [Act.put, List.setIfInBounds_toArray, List.set_cons_zero, List.set_cons_succ]
  refine rtake 24 rfl (by rfl) (by kernel_rfl) (by kernel_rfl) (by kernel_rfl) (fun _ _ _ h => h) hM (fun wx hwx => by go_simp; try with_reducible rfl) ?_
  try simp only [Act.put, List.setIfInBounds_toArray, List.set_cons_zero, List.set_cons_succ]
  have hc18 := hZ.cell 18 _ rfl
  have hf18 := hZ.free 18
  refine rcall 25 rfl (by kernel_rfl) (by rfl) (fun K hK => ?_)
  go_simp
  replace hM := (hM.other hne 18 (.int .i64 d.sr))
  replace hb := (hb.setCell (p := ⟨G, 18, none⟩) hG (.int .i64 d.sr))
  replace hZ : Box _ G (msgF h ⟨d.st, 0, 0, d.ut, d.p1, d.qc, d.qa, d.qv, d.p2, d.gr, d.sr, 0, 0, 0, 0⟩) _ := (hZ.set 18 (.int .i64 d.sr))
  clear hc18 hf18
  generalize World.setCell _ _ _ = W at *
  refine hK.out _ _ hM ?_
  clear hK K
  try simp only [Act.put, List.setIfInBounds_toArray, List.set_cons_zero, List.set_cons_succ]
  refine rtake 26 rfl (by rfl) (by kernel_rfl) (by kernel_rfl) (by kernel_rfl) (fun _ _ _ h => h) hM (fun wx hwx => by go_simp; try with_reducible rfl) ?_
  try simp only [Act.put, List.setIfInBounds_toArray, List.set_cons_zero, List.set_cons_succ]
  have hc19 := hZ.cell 19 _ rfl
  have hf19 := hZ.free 19
  refine rcall 27 rfl (by kernel_rfl) (by rfl) (fun K hK => ?_)
  go_simp
  replace hM := (hM.other hne 19 (.int .i64 d.og))
  replace hb := (hb.setCell (p := ⟨G, 19, none⟩) hG (.int .i64 d.og))
  replace hZ : Box _ G (msgF h ⟨d.st, 0, 0, d.ut, d.p1, d.qc, d.qa, d.qv, d.p2, d.gr, d.sr, d.og, 0, 0, 0⟩) _ := (hZ.set 19 (.int .i64 d.og))
  clear hc19 hf19
  generalize World.setCell _ _ _ = W at *
  refine hK.out _ _ hM ?_
  clear hK K
  try simp only [Act.put, List.setIfInBounds_toArray, List.set_cons_zero, List.set_cons_succ]
  refine wpAnyH_done (by kernel_rfl) ?_ _
  have c0 := hM.cell 0 _ rfl
  have m11 := hM.cell 11 _ rfl
  have m12 := hM.cell 12 _ rfl
  have m13 := hM.cell 13 _ rfl
  have m14 := hM.cell 14 _ rfl
  have m15 := hM.cell 15 _ rfl
  have m16 := hM.cell 16 _ rfl
  have m17 := hM.cell 17 _ rfl
  have m18 := hM.cell 18 _ rfl
  have m19 := hM.cell 19 _ rfl
  cases k0
  case false =>
    go_wp2_with fail
    go_ret
    exact ⟨by rw [HC.out]; rfl, hb⟩
  rw [Bool.true_and] at HC
  go_wp2_with fail
  refine (in05_any _ _ _ _).mono ?_
  rintro e w' ⟨rfl, rfl⟩
  cases k1 : inB d.ut (-32768) 32767
  · rw [k1] at HC
    go_wp2_with fail
    go_ret
    exact ⟨by rw [HC.out]; rfl, hb⟩
  rw [k1] at HC
  go_wp2_with fail
  refine (in05_any _ _ _ _).mono ?_
  rintro e w' ⟨rfl, rfl⟩
  cases k2 : inB d.p1 0 255
  · rw [k2] at HC
    go_wp2_with fail
    go_ret
    exact ⟨by rw [HC.out]; rfl, hb⟩
  rw [k2] at HC
  go_wp2_with fail
  refine (in05_any _ _ _ _).mono ?_
  rintro e w' ⟨rfl, rfl⟩
  cases k3 : inB d.p2 0 255
  · rw [k3] at HC
    go_wp2_with fail
    go_ret
    exact ⟨by rw [HC.out]; rfl, hb⟩
  rw [k3] at HC
  go_wp2_with fail
  refine (in05_any _ _ _ _).mono ?_
  rintro e w' ⟨rfl, rfl⟩
  cases k4 : inB d.og 0 255
  · rw [k4] at HC
    go_wp2_with fail
    go_ret
    exact ⟨by rw [HC.out]; rfl, hb⟩
  rw [k4] at HC
  go_wp2_with fail
  refine (refMayQ_any _ _ _ _).mono ?_
  rintro e w2 ⟨rfl, hb2⟩
  replace hM := hM.below hb2
  replace hZ := hZ.below hb2
  replace hb := bnext hb hb2
  clear hb2 m11 m12 m13 m14 m15 m16 m17 m18 m19
  have m11 := hM.cell 11 _ rfl
  have m12 := hM.cell 12 _ rfl
  have m13 := hM.cell 13 _ rfl
  have m14 := hM.cell 14 _ rfl
  have m15 := hM.cell 15 _ rfl
  have m16 := hM.cell 16 _ rfl
  have m17 := hM.cell 17 _ rfl
  have m18 := hM.cell 18 _ rfl
  have m19 := hM.cell 19 _ rfl
  clear c0
  have c0 := hM.cell 0 _ rfl
  cases k5 : mayQ d.qc d.qa d.qv
  · rw [k5] at HC
    go_wp2_with fail
    go_ret
    exact ⟨by rw [HC.out]; rfl, hb⟩
  rw [k5] at HC
  go_wp2_with fail
  refine (in05_any _ _ _ _).mono ?_
  rintro e w' ⟨rfl, rfl⟩
  cases k6 : inB d.sr 0 65535
  · rw [k6] at HC
    go_wp2_with fail
    go_ret
    exact ⟨by rw [HC.out]; rfl, hb⟩
  rw [k6] at HC
  go_wp2_with (first | (guard_target =~ wpList _ _ _ (⟨some 132, _, _, _, _, _⟩ :: _) _ _; refine wpList_load_msg_g (op := ⟨some 132, .load _ _, _, _, _, _⟩) (by rfl) _ (by rfl) G (by rfl) (msgF h ⟨d.st, 0, 0, d.ut, d.p1, d.qc, d.qa, d.qv, d.p2, d.gr, d.sr, d.og, 0, 0, 0⟩) _ hZ (msgF_length _ _) ?_) | (guard_target =~ wpList _ _ _ (⟨some 133, _, _, _, _, _⟩ :: _) _ _; refine wpList_load_msg_g (op := ⟨some 133, .load _ _, _, _, _, _⟩) (by rfl) _ (by rfl) w.heap.size (by rfl) (msgF h d) _ hM (msgF_length _ _) ?_))
  go_ret
  exact ⟨by rw [HC.out]; rfl, hb⟩

set_option maxRecDepth 100000 in
set_option maxHeartbeats 8000000 in
theorem refCheckM_G (h : Hd) (d : Bd) (w : World) (hc : checkB h = true) (hs : stB h.ty = false) (hg : tgB h.ty = true) (h11 : h.ty ≠ 11) (h13 : h.ty ≠ 13) :
    Calls Try.prog 24 #[.agg (msgF h d).toArray] w fun e w' => e = .returned (.bool (checkM h d)) ∧ Below w.heap.size w w' := by
  have hcm := checkM_G h d hc hs hg h11 h13
  have HK : Hid (knownB h.ty = true) := hid (check_of hc).1
  have e11 : (h.ty == 11) = false := by rw [beq_eq_false_iff_ne]; omega
  have e13 : (h.ty == 13) = false := by rw [beq_eq_false_iff_ne]; omega
  have hE := fun w' => equal_msg h ⟨0, d.tc, d.tp, 0, 0, 0, 0, 0, 0, 0, 0, 0, 0, 0, 0⟩ h d w'
  generalize hsm : sameM h ⟨0, d.tc, d.tp, 0, 0, 0, 0, 0, 0, 0, 0, 0, 0, 0, 0⟩ h d = sm at *
  generalize hcmm : checkM h d = cm at *
  have HC := hid hcm
  clear hcm hsm hcmm h11 h13
  go_enter Try.func24, Try.ntmps24
  go_upto_region 1 with fail
  obtain ⟨W, hWe, hb, hM⟩ := box_msg w (msgF h d)
  rw [← hWe]
  clear hWe
  go_wp2_with (refine wpList_load_msg (op := ⟨some 5, .load _ _, _, _, _, _⟩) rfl _ rfl w.heap.size rfl (msgF h d) _ hM (msgF_length _ _) ?_)
  refine (refCheck_any h _ _).mono ?_
  rintro e w1 ⟨rfl, hb1⟩
  rw [hc]
  replace hM := hM.below hb1
  replace hb := bnext hb hb1
  clear hb1 hc
  obtain ⟨c0, c1, c2, c3, c4, c5, c6, c7⟩ := hM.hd w1 (Below.refl _ _)
  go_upto_region 4 with (first | (guard_target =~ wpList _ _ _ (⟨some 22, _, _, _, _, _⟩ :: _) _ _; refine wpList_build_head (op := ⟨some 22, .build _ _, _, _, _, _⟩) (by rfl) _ _ _ _ _ _ _ (by rfl) h (by rfl) (by rfl) (by rfl) (by rfl) (by rfl) (by rfl) (by rfl) ?_) | (guard_target =~ wpList _ _ _ (⟨none, _, _, _, _, _⟩ :: _) _ _; refine wpList_store_msg (op := ⟨none, .store _ _ _, _, _, _, _⟩) (by rfl) _ _ (by rfl) w1.heap.size (msgF h bd0) (msgL hd0 zr) _ (by rfl) (by rfl) (Box.new w1 _ _) (msgF_length _ _) (msgL_length _ _ zr_length) (msgL_one _ _ (bdL_one _)) ?_))
  have hn1 := bnew w1 (Obj.cells (msgL hd0 zr).toArray 28)
  have hne : w.heap.size ≠ w1.heap.size := by have := hM.lt; omega
  have hG : w.heap.size ≤ w1.heap.size := hb.size
  have hZ := (Box.new w1 (msgL hd0 zr) 28).row (msgF h bd0)
  replace hM := (hM.below hn1).row_other hne (msgF h bd0).toArray
  replace hb := below_setRow (bnext hb hn1) hG (msgF h bd0).toArray
  clear hn1 c0 c1 c2 c3 c4 c5 c6 c7
  change Code.wp Try.prog _ _ _ ((w1.alloc (Obj.cells (msgL hd0 zr).toArray 28)).setRow w1.heap.size (msgF h bd0).toArray)
  generalize (w1.alloc (Obj.cells (msgL hd0 zr).toArray 28)).setRow w1.heap.size (msgF h bd0).toArray = W at *
  generalize w1.heap.size = G at *
  have c0 := hM.cell 0 _ rfl
  go_wp2_with fail
  refine (stamped_known _ _ HK.out).mono ?_
  rintro e w' ⟨rfl, rfl⟩
  rw [hs]
  go_wp2_with fail
  refine (targeted_known _ _ HK.out).mono ?_
  rintro e w' ⟨rfl, rfl⟩
  rw [hg]
  have c0 := hM.cell 0 _ rfl
  have m9 := hM.cell 9 _ rfl
  have hc9 := hZ.cell 9 _ rfl
  have hf9 := hZ.free 9
  have m10 := hM.cell 10 _ rfl
  have hc10 := hZ.cell 10 _ rfl
  have hf10 := hZ.free 10
  go_upto_region 10 with fail
  clear c0 m9 m10
  replace hM := ((hM.other hne 9 (.int .u64 d.tc)).other hne 10 (.int .i64 d.tp))
  replace hb := ((hb.setCell (p := ⟨G, 9, none⟩) hG (.int .u64 d.tc)).setCell (p := ⟨G, 10, none⟩) hG (.int .i64 d.tp))
  replace hZ : Box _ G (msgF h ⟨0, d.tc, d.tp, 0, 0, 0, 0, 0, 0, 0, 0, 0, 0, 0, 0⟩) _ := ((hZ.set 9 (.int .u64 d.tc)).set 10 (.int .i64 d.tp))
  clear hc9 hf9 hc10 hf10
  generalize World.setCell _ _ _ = W at *
  have c0 := hM.cell 0 _ rfl
  have m9 := hM.cell 9 _ rfl
  have m10 := hM.cell 10 _ rfl
  go_wp2_with fail
  refine (refIdentMay_any _ _ _).mono ?_
  rintro e w2 ⟨rfl, hb2⟩
  replace hM := hM.below hb2
  replace hZ := hZ.below hb2
  replace hb := bnext hb hb2
  clear hb2 c0 m9 m10
  have c0 := hM.cell 0 _ rfl
  cases k0 : mayP d.tp
  · rw [k0] at HC
    go_wp2_with fail
    go_ret
    exact ⟨by rw [HC.out]; rfl, hb⟩
  rw [k0] at HC
  go_wp2_with (first | (guard_target =~ wpList _ _ _ (⟨some 132, _, _, _, _, _⟩ :: _) _ _; refine wpList_load_msg_g (op := ⟨some 132, .load _ _, _, _, _, _⟩) (by rfl) _ (by rfl) G (by rfl) (msgF h ⟨0, d.tc, d.tp, 0, 0, 0, 0, 0, 0, 0, 0, 0, 0, 0, 0⟩) _ hZ (msgF_length _ _) ?_) | (guard_target =~ wpList _ _ _ (⟨some 133, _, _, _, _, _⟩ :: _) _ _; refine wpList_load_msg_g (op := ⟨some 133, .load _ _, _, _, _, _⟩) (by rfl) _ (by rfl) w.heap.size (by rfl) (msgF h d) _ hM (msgF_length _ _) ?_))
  go_ret
  exact ⟨by rw [HC.out]; rfl, hb⟩

set_option maxRecDepth 100000 in
set_option maxHeartbeats 8000000 in
theorem refCheckM_M (h : Hd) (d : Bd) (w : World) (hc : checkB h = true) (h13 : h.ty = 13) :
    Calls Try.prog 24 #[.agg (msgF h d).toArray] w fun e w' => e = .returned (.bool (checkM h d)) ∧ Below w.heap.size w w' := by
  have hcm := checkM_M h d hc h13
  have HK : Hid (knownB h.ty = true) := hid (check_of hc).1
  have hs : stB h.ty = false := by rw [h13]; decide
  have hg : tgB h.ty = true := by rw [h13]; decide
  have h11 : h.ty ≠ 11 := by omega
  have e11 : (h.ty == 11) = false := by rw [beq_eq_false_iff_ne]; omega
  have e13 : (h.ty == 13) = true := by rw [beq_iff_eq]; omega
  have hE := fun w' => equal_msg h ⟨0, d.tc, d.tp, 0, 0, 0, 0, 0, 0, 0, 0, 0, d.sh, d.hp, d.ac⟩ h d w'
  generalize hsm : sameM h ⟨0, d.tc, d.tp, 0, 0, 0, 0, 0, 0, 0, 0, 0, d.sh, d.hp, d.ac⟩ h d = sm at *
  generalize hcmm : checkM h d = cm at *
  have HC := hid hcm
  clear hcm hsm hcmm h11 h13
  go_enter Try.func24, Try.ntmps24
  go_upto_region 1 with fail
  obtain ⟨W, hWe, hb, hM⟩ := box_msg w (msgF h d)
  rw [← hWe]
  clear hWe
  go_wp2_with (refine wpList_load_msg (op := ⟨some 5, .load _ _, _, _, _, _⟩) rfl _ rfl w.heap.size rfl (msgF h d) _ hM (msgF_length _ _) ?_)
  refine (refCheck_any h _ _).mono ?_
  rintro e w1 ⟨rfl, hb1⟩
  rw [hc]
  replace hM := hM.below hb1
  replace hb := bnext hb hb1
  clear hb1 hc
  obtain ⟨c0, c1, c2, c3, c4, c5, c6, c7⟩ := hM.hd w1 (Below.refl _ _)
  go_upto_region 4 with (first | (guard_target =~ wpList _ _ _ (⟨some 22, _, _, _, _, _⟩ :: _) _ _; refine wpList_build_head (op := ⟨some 22, .build _ _, _, _, _, _⟩) (by rfl) _ _ _ _ _ _ _ (by rfl) h (by rfl) (by rfl) (by rfl) (by rfl) (by rfl) (by rfl) (by rfl) ?_) | (guard_target =~ wpList _ _ _ (⟨none, _, _, _, _, _⟩ :: _) _ _; refine wpList_store_msg (op := ⟨none, .store _ _ _, _, _, _, _⟩) (by rfl) _ _ (by rfl) w1.heap.size (msgF h bd0) (msgL hd0 zr) _ (by rfl) (by rfl) (Box.new w1 _ _) (msgF_length _ _) (msgL_length _ _ zr_length) (msgL_one _ _ (bdL_one _)) ?_))
  have hn1 := bnew w1 (Obj.cells (msgL hd0 zr).toArray 28)
  have hne : w.heap.size ≠ w1.heap.size := by have := hM.lt; omega
  have hG : w.heap.size ≤ w1.heap.size := hb.size
  have hZ := (Box.new w1 (msgL hd0 zr) 28).row (msgF h bd0)
  replace hM := (hM.below hn1).row_other hne (msgF h bd0).toArray
  replace hb := below_setRow (bnext hb hn1) hG (msgF h bd0).toArray
  clear hn1 c0 c1 c2 c3 c4 c5 c6 c7
  change Code.wp Try.prog _ _ _ ((w1.alloc (Obj.cells (msgL hd0 zr).toArray 28)).setRow w1.heap.size (msgF h bd0).toArray)
  generalize (w1.alloc (Obj.cells (msgL hd0 zr).toArray 28)).setRow w1.heap.size (msgF h bd0).toArray = W at *
  generalize w1.heap.size = G at *
  have c0 := hM.cell 0 _ rfl
  go_wp2_with fail
  refine (stamped_known _ _ HK.out).mono ?_
  rintro e w' ⟨rfl, rfl⟩
  rw [hs]
  go_wp2_with fail
  refine (targeted_known _ _ HK.out).mono ?_
  rintro e w' ⟨rfl, rfl⟩
  rw [hg]
  have c0 := hM.cell 0 _ rfl
  have m9 := hM.cell 9 _ rfl
  have hc9 := hZ.cell 9 _ rfl
  have hf9 := hZ.free 9
  have m10 := hM.cell 10 _ rfl
  have hc10 := hZ.cell 10 _ rfl
  have hf10 := hZ.free 10
  go_upto_region 10 with fail
  clear c0 m9 m10
  replace hM := ((hM.other hne 9 (.int .u64 d.tc)).other hne 10 (.int .i64 d.tp))
  replace hb := ((hb.setCell (p := ⟨G, 9, none⟩) hG (.int .u64 d.tc)).setCell (p := ⟨G, 10, none⟩) hG (.int .i64 d.tp))
  replace hZ : Box _ G (msgF h ⟨0, d.tc, d.tp, 0, 0, 0, 0, 0, 0, 0, 0, 0, 0, 0, 0⟩) _ := ((hZ.set 9 (.int .u64 d.tc)).set 10 (.int .i64 d.tp))
  clear hc9 hf9 hc10 hf10
  generalize World.setCell _ _ _ = W at *
  have c0 := hM.cell 0 _ rfl
  have m9 := hM.cell 9 _ rfl
  have m10 := hM.cell 10 _ rfl
  go_wp2_with fail
  refine (refIdentMay_any _ _ _).mono ?_
  rintro e w2 ⟨rfl, hb2⟩
  replace hM := hM.below hb2
  replace hZ := hZ.below hb2
  replace hb := bnext hb hb2
  clear hb2 c0 m9 m10
  have c0 := hM.cell 0 _ rfl
  generalize hk0 : mayP d.tp = k0 at *
  clear hk0
  go_upto_region 16 with fail
  clear c0
  refine wp_region_held_drew (S := fun w' => Box w' w.heap.size (msgF h d) 28) (by kernel_rfl) (hM.below (Below.drew (Below.refl _ _))) ?_
  intro hM
  replace hZ := hZ.below (Below.drew (Below.refl w2.heap.size w2))
  replace hb := bnext hb (Below.drew (Below.refl w2.heap.size w2))
  generalize w2.drew = W at *
  refine rtake 0 rfl (by rfl) (by kernel_rfl) (by kernel_rfl) (by kernel_rfl) (fun _ _ _ h => h) hM (fun wx hwx => by go_simp; try with_reducible rfl) ?_
  try simp only [Act.put, List.setIfInBounds_toArray, List.set_cons_zero, List.set_cons_succ]
  refine rtake 1 rfl (by rfl) (by kernel_rfl) (by kernel_rfl) (by kernel_rfl) (fun _ _ _ h => h) hM (fun wx hwx => by have hc20 := hwx.cell 20 _ rfl; go_simp; try with_reducible rfl) ?_
  try simp only [Act.put, List.setIfInBounds_toArray, List.set_cons_zero, List.set_cons_succ]
  refine rtake 2 rfl (by rfl) (by kernel_rfl) (by kernel_rfl) (by kernel_rfl) (fun _ _ _ h => h) hM (fun wx hwx => by go_simp; try with_reducible rfl) ?_
  try simp only [Act.put, List.setIfInBounds_toArray, List.set_cons_zero, List.set_cons_succ]
  refine rtake 3 rfl (by rfl) (by kernel_rfl) (by kernel_rfl) (by kernel_rfl) (fun _ _ _ h => h) hM (fun wx hwx => by have hc21 := hwx.cell 21 _ rfl; go_simp; try with_reducible rfl) ?_
  try simp only [Act.put, List.setIfInBounds_toArray, List.set_cons_zero, List.set_cons_succ]
  refine rtake 4 rfl (by rfl) (by kernel_rfl) (by kernel_rfl) (by kernel_rfl) (fun _ _ _ h => h) hM (fun wx hwx => by go_simp; try with_reducible rfl) ?_
  try simp only [Act.put, List.setIfInBounds_toArray, List.set_cons_zero, List.set_cons_succ]
  refine rtake 5 rfl (by rfl) (by kernel_rfl) (by kernel_rfl) (by kernel_rfl) (fun _ _ _ h => h) hM (fun wx hwx => by have hc22 := hwx.cell 22 _ rfl; go_simp; try with_reducible rfl) ?_
  try simp only [Act.put, List.setIfInBounds_toArray, List.set_cons_zero, List.set_cons_succ]
  refine rtake 6 rfl (by rfl) (by kernel_rfl) (by kernel_rfl) (by kernel_rfl) (fun _ _ _ h => h) hM (fun wx hwx => by go_simp; try with_reducible rfl) ?_
  try simp only [Act.put, List.setIfInBounds_toArray, List.set_cons_zero, List.set_cons_succ]
  have hc20 := hZ.cell 20 _ rfl
  have hf20 := hZ.free 20
  refine rcall 7 rfl (by kernel_rfl) (by rfl) (fun K hK => ?_)
  go_simp
  replace hM := (hM.other hne 20 (.int .i64 d.sh))
  replace hb := (hb.setCell (p := ⟨G, 20, none⟩) hG (.int .i64 d.sh))
  replace hZ : Box _ G (msgF h ⟨0, d.tc, d.tp, 0, 0, 0, 0, 0, 0, 0, 0, 0, d.sh, 0, 0⟩) _ := (hZ.set 20 (.int .i64 d.sh))
  clear hc20 hf20
  generalize World.setCell _ _ _ = W at *
  refine hK.out _ _ hM ?_
  clear hK K
  try simp only [Act.put, List.setIfInBounds_toArray, List.set_cons_zero, List.set_cons_succ]
  refine rtake 8 rfl (by rfl) (by kernel_rfl) (by kernel_rfl) (by kernel_rfl) (fun _ _ _ h => h) hM (fun wx hwx => by go_simp; try with_reducible rfl) ?_
  try simp only [Act.put, List.setIfInBounds_toArray, List.set_cons_zero, List.set_cons_succ]
  have hc21 := hZ.cell 21 _ rfl
  have hf21 := hZ.free 21
  refine rcall 9 rfl (by kernel_rfl) (by rfl) (fun K hK => ?_)
  go_simp
  replace hM := (hM.other hne 21 (.int .i64 d.hp))
  replace hb := (hb.setCell (p := ⟨G, 21, none⟩) hG (.int .i64 d.hp))
  replace hZ : Box _ G (msgF h ⟨0, d.tc, d.tp, 0, 0, 0, 0, 0, 0, 0, 0, 0, d.sh, d.hp, 0⟩) _ := (hZ.set 21 (.int .i64 d.hp))
  clear hc21 hf21
  generalize World.setCell _ _ _ = W at *
  refine hK.out _ _ hM ?_
  clear hK K
  try simp only [Act.put, List.setIfInBounds_toArray, List.set_cons_zero, List.set_cons_succ]
  refine rtake 10 rfl (by rfl) (by kernel_rfl) (by kernel_rfl) (by kernel_rfl) (fun _ _ _ h => h) hM (fun wx hwx => by go_simp; try with_reducible rfl) ?_
  try simp only [Act.put, List.setIfInBounds_toArray, List.set_cons_zero, List.set_cons_succ]
  have hc22 := hZ.cell 22 _ rfl
  have hf22 := hZ.free 22
  refine rcall 11 rfl (by kernel_rfl) (by rfl) (fun K hK => ?_)
  go_simp
  replace hM := (hM.other hne 22 (.int .i64 d.ac))
  replace hb := (hb.setCell (p := ⟨G, 22, none⟩) hG (.int .i64 d.ac))
  replace hZ : Box _ G (msgF h ⟨0, d.tc, d.tp, 0, 0, 0, 0, 0, 0, 0, 0, 0, d.sh, d.hp, d.ac⟩) _ := (hZ.set 22 (.int .i64 d.ac))
  clear hc22 hf22
  generalize World.setCell _ _ _ = W at *
  refine hK.out _ _ hM ?_
  clear hK K
  try simp only [Act.put, List.setIfInBounds_toArray, List.set_cons_zero, List.set_cons_succ]
  refine wpAnyH_done (by kernel_rfl) ?_ _
  have m20 := hM.cell 20 _ rfl
  have m21 := hM.cell 21 _ rfl
  have m22 := hM.cell 22 _ rfl
  cases k0
  case false =>
    go_wp2_with fail
    go_ret
    exact ⟨by rw [HC.out]; rfl, hb⟩
  rw [Bool.true_and] at HC
  go_wp2_with fail
  refine (in05_any _ _ _ _).mono ?_
  rintro e w' ⟨rfl, rfl⟩
  cases k1 : inB d.sh 0 255
  · rw [k1] at HC
    go_wp2_with fail
    go_ret
    exact ⟨by rw [HC.out]; rfl, hb⟩
  rw [k1] at HC
  go_wp2_with fail
  refine (in05_any _ _ _ _).mono ?_
  rintro e w' ⟨rfl, rfl⟩
  cases k2 : inB d.hp 0 255
  · rw [k2] at HC
    go_wp2_with fail
    go_ret
    exact ⟨by rw [HC.out]; rfl, hb⟩
  rw [k2] at HC
  go_wp2_with fail
  refine (in05_any _ _ _ _).mono ?_
  rintro e w' ⟨rfl, rfl⟩
  cases k3 : inB d.ac 0 15
  · rw [k3] at HC
    go_wp2_with fail
    go_ret
    exact ⟨by rw [HC.out]; rfl, hb⟩
  rw [k3] at HC
  go_wp2_with (first | (guard_target =~ wpList _ _ _ (⟨some 132, _, _, _, _, _⟩ :: _) _ _; refine wpList_load_msg_g (op := ⟨some 132, .load _ _, _, _, _, _⟩) (by rfl) _ (by rfl) G (by rfl) (msgF h ⟨0, d.tc, d.tp, 0, 0, 0, 0, 0, 0, 0, 0, 0, d.sh, d.hp, d.ac⟩) _ hZ (msgF_length _ _) ?_) | (guard_target =~ wpList _ _ _ (⟨some 133, _, _, _, _, _⟩ :: _) _ _; refine wpList_load_msg_g (op := ⟨some 133, .load _ _, _, _, _, _⟩) (by rfl) _ (by rfl) w.heap.size (by rfl) (msgF h d) _ hM (msgF_length _ _) ?_))
  go_ret
  exact ⟨by rw [HC.out]; rfl, hb⟩

theorem refCheckM_any (h : Hd) (d : Bd) (w : World) :
    Calls Try.prog 24 #[.agg (msgF h d).toArray] w fun e w' => e = .returned (.bool (checkM h d)) ∧ Below w.heap.size w w' := by
  cases hc : checkB h
  · have e : checkM h d = false := by unfold checkM; rw [hc]; rfl
    rw [e]
    exact refCheckM_no h d w hc
  · rcases kinds h.ty with ⟨h1, h2, h3, h4⟩ | ⟨h1, h2, h3, h4⟩ | ⟨h1, h2, h3, h4⟩ | h1 | ⟨h1, h2, h3, h4⟩ | h1
    · have hk := (check_of hc).1
      rcases known_or hk with h | h | h | h | h | h | h | h | h | h <;> rw [h] at h1 h2 h3 h4 <;> first | exact absurd h1 (by decide) | exact absurd h2 (by decide) | omega
    · exact refCheckM_S h d w hc h1 h2 h3 h4
    · exact refCheckM_B h d w hc h1 h2 h3 h4
    · exact refCheckM_A h d w hc h1
    · exact refCheckM_G h d w hc h1 h2 h3 h4
    · exact refCheckM_M h d w hc h1

end Go.Proofs.Ytohgpnlihfcecaa