/- The walk of the law BodyFields (gen_bodyfields.py). -/
import Derived.Test.YtpelgbcccgdlbaaBodyLaws
import Derived.Test.YtpelgbcccgdlbaaBodyFld
import Derived.Test.YtpelgbcccgdlbaaBodyRef
import Derived.Test.YtpelgbcccgdlbaaOpenM2
import Derived.Test.YtpelgbcccgdlbaaPlace
namespace Go.Proofs.Ytpelgbcccgdlbaa
open Go.RowKit Go.Proofs
set_option linter.unusedVariables false
set_option linter.unusedSimpArgs false

set_option maxRecDepth 100000 in
set_option maxHeartbeats 8000000 in
theorem bodyFields_walk (h : Hd) (d : Bd) (hok : MsgOk h d) (n : Int) (wn : (Lit.int .i64 n).wf = true) (w : World) :
    Calls Try.prog 5 #[.agg (msgF h d).toArray, .int .i64 n] w fun e w' => e = .returned (.bool true) ∧ Below w.heap.size w w' := by
  clear wn
  go_enter Try.func5, Try.ntmps5
  go_upto_region 1 with fail
  obtain ⟨W, hWe, hb, hM⟩ := box_msg w (msgF h d)
  rw [← hWe]
  clear hWe
  go_wp2_with (guard_target =~ wpList _ _ _ (⟨some 7, _, _, _, _, _⟩ :: _) _ _; refine wpList_load_msg (op := ⟨some 7, .load _ _, _, _, _, _⟩) (by rfl) _ (by rfl) w.heap.size (by rfl) (msgF h d) _ hM (msgF_length _ _) ?_)
  refine (refCheck_any h _ _).mono ?_
  rintro e w1 ⟨rfl, hb1⟩
  replace hM := hM.below hb1
  replace hb := bnext hb hb1
  clear hb1
  cases hc : checkB h
  · go_wp2_with fail
    refine (awake07_any _).mono ?_
    rintro e w7 ⟨rfl, hb7⟩
    go_wp2_with fail
    go_ret
    exact ⟨rfl, bnext hb hb7⟩
  go_wp2_with (guard_target =~ wpList _ _ _ (⟨some 11, _, _, _, _, _⟩ :: _) _ _; refine wpList_load_msg_g (op := ⟨some 11, .load _ _, _, _, _, _⟩) (by rfl) _ (by rfl) w.heap.size (by rfl) (msgF h d) _ hM (msgF_length _ _) ?_)
  refine (refCheckM_any h d _).mono ?_
  rintro e w2 ⟨rfl, hb2⟩
  replace hM := hM.below hb2
  replace hb := bnext hb hb2
  clear hb2
  cases hm : checkM h d
  · go_wp2_with fail
    refine (awake07_any _).mono ?_
    rintro e w7 ⟨rfl, hb7⟩
    go_wp2_with fail
    go_ret
    exact ⟨rfl, bnext hb hb7⟩
  have hk := (checkM_head hm).2
  go_upto_region 4 with (first | (guard_target =~ wpList _ _ _ (⟨some 16, _, _, _, _, _⟩ :: _) _ _; refine wpList_load_msg (op := ⟨some 16, .load _ _, _, _, _, _⟩) (by rfl) _ (by rfl) w.heap.size (by rfl) (msgF h d) _ hM (msgF_length _ _) ?_) | (guard_target =~ wpList _ _ _ (⟨none, _, _, _, _, _⟩ :: _) _ _; refine wpList_store_msg (op := ⟨none, .store _ _ _, _, _, _, _⟩) (by rfl) _ _ (by rfl) w2.heap.size (msgF h d) (msgL hd0 zr) _ (by rfl) (by rfl) (Box.new w2 _ _) (msgF_length _ _) (msgL_length _ _ zr_length) (msgL_one _ _ (bdL_one _)) ?_))
  have hn1 := bnew w2 (Obj.cells (msgL hd0 zr).toArray 29)
  have hne : w.heap.size ≠ w2.heap.size := by have := hM.lt; omega
  have hG : w.heap.size ≤ w2.heap.size := hb.size
  have hX := (Box.new w2 (msgL hd0 zr) 29).row (msgF h d)
  replace hM := (hM.below hn1).row_other hne (msgF h d).toArray
  replace hb := below_setRow (bnext hb hn1) hG (msgF h d).toArray
  clear hn1
  change Code.wp Try.prog _ _ _ ((w2.alloc (Obj.cells (msgL hd0 zr).toArray 29)).setRow w2.heap.size (msgF h d).toArray)
  generalize (w2.alloc (Obj.cells (msgL hd0 zr).toArray 29)).setRow w2.heap.size (msgF h d).toArray = W at *
  generalize w2.heap.size = G at *
  go_wp2_with fail
  refine (place_in _ _ _ (by decide) (by decide)).mono ?_
  rintro e w' ⟨y, rfl, hy0, hy1, hy, rfl⟩
  have hcs : y = 0 ∨ y = 1 ∨ y = 2 ∨ y = 3 := by omega
  clear hy hy0 hy1
  have c0 := hM.cell 0 _ rfl
  rcases hcs with rfl | rfl | rfl | rfl
  · have hF := field_st hm
    have hc8 := hX.cell 8 _ rfl
    have hf8 := hX.free 8
    go_upto_region 10 with fail
    replace hM := hM.other hne 8 (.int .i64 5)
    replace hb := hb.setCell (p := ⟨G, 8, none⟩) hG (.int .i64 5)
    replace hX : Box _ G (msgF h { d with st := 5 }) _ := hX.set 8 (.int .i64 5)
    clear hc8 hf8 c0
    generalize World.setCell _ _ _ = W at *
    have c0 := hM.cell 0 _ rfl
    rw [st_known hk] at hF
    by_cases h12 : h.ty = 12
    · rw [h12] at hF c0
      have HF := hid hF
      clear hF hm
      go_wp2_with (guard_target =~ wpList _ _ _ (⟨some 67, _, _, _, _, _⟩ :: _) _ _; refine wpList_load_msg (op := ⟨some 67, .load _ _, _, _, _, _⟩) (by rfl) _ (by rfl) G (by rfl) (msgF h { d with st := 5 }) _ hX (msgF_length _ _) ?_)
      refine (checkM_any h { d with st := 5 } _).mono ?_
      rintro e w6 ⟨rfl, hb6⟩
      rw [HF.out]
      replace hb := bnext hb hb6
      clear hb6
      go_wp2_with fail
      refine (awake07_any _).mono ?_
      rintro e w7 ⟨rfl, hb7⟩
      go_wp2_with fail
      go_ret
      exact ⟨rfl, bnext hb hb7⟩
    · have b12 : (h.ty == 12) = false := beq_false_of_ne h12
      have n12 : (h.ty != 12) = true := by simp [h12]
      rw [n12, Bool.true_and] at hF
      have HF := hid hF
      clear hF hm
      go_wp2_with (guard_target =~ wpList _ _ _ (⟨some 67, _, _, _, _, _⟩ :: _) _ _; refine wpList_load_msg (op := ⟨some 67, .load _ _, _, _, _, _⟩) (by rfl) _ (by rfl) G (by rfl) (msgF h { d with st := 5 }) _ hX (msgF_length _ _) ?_)
      refine (checkM_any h { d with st := 5 } _).mono ?_
      rintro e w6 ⟨rfl, hb6⟩
      rw [HF.out]
      replace hb := bnext hb hb6
      clear hb6
      go_wp2_with fail
      refine (awake07_any _).mono ?_
      rintro e w7 ⟨rfl, hb7⟩
      go_wp2_with fail
      go_ret
      exact ⟨rfl, bnext hb hb7⟩
  · have hF := field_tp hm
    have hc10 := hX.cell 10 _ rfl
    have hf10 := hX.free 10
    go_upto_region 13 with fail
    replace hM := hM.other hne 10 (.int .i64 9)
    replace hb := hb.setCell (p := ⟨G, 10, none⟩) hG (.int .i64 9)
    replace hX : Box _ G (msgF h { d with tp := 9 }) _ := hX.set 10 (.int .i64 9)
    clear hc10 hf10 c0
    generalize World.setCell _ _ _ = W at *
    have c0 := hM.cell 0 _ rfl
    rw [tg_known hk] at hF
    by_cases h9 : h.ty = 9
    · rw [h9] at hF c0
      have HF := hid hF
      clear hF hm
      go_wp2_with (guard_target =~ wpList _ _ _ (⟨some 67, _, _, _, _, _⟩ :: _) _ _; refine wpList_load_msg (op := ⟨some 67, .load _ _, _, _, _, _⟩) (by rfl) _ (by rfl) G (by rfl) (msgF h { d with tp := 9 }) _ hX (msgF_length _ _) ?_)
      refine (checkM_any h { d with tp := 9 } _).mono ?_
      rintro e w6 ⟨rfl, hb6⟩
      rw [HF.out]
      replace hb := bnext hb hb6
      clear hb6
      go_wp2_with fail
      refine (awake07_any _).mono ?_
      rintro e w7 ⟨rfl, hb7⟩
      go_wp2_with fail
      go_ret
      exact ⟨rfl, bnext hb hb7⟩
    have b9 : (h.ty == 9) = false := beq_false_of_ne h9
    rw [b9, Bool.false_or] at hF
    by_cases h3 : h.ty = 3
    · rw [h3] at hF c0
      have HF := hid hF
      clear hF hm
      go_wp2_with (guard_target =~ wpList _ _ _ (⟨some 67, _, _, _, _, _⟩ :: _) _ _; refine wpList_load_msg (op := ⟨some 67, .load _ _, _, _, _, _⟩) (by rfl) _ (by rfl) G (by rfl) (msgF h { d with tp := 9 }) _ hX (msgF_length _ _) ?_)
      refine (checkM_any h { d with tp := 9 } _).mono ?_
      rintro e w6 ⟨rfl, hb6⟩
      rw [HF.out]
      replace hb := bnext hb hb6
      clear hb6
      go_wp2_with fail
      refine (awake07_any _).mono ?_
      rintro e w7 ⟨rfl, hb7⟩
      go_wp2_with fail
      go_ret
      exact ⟨rfl, bnext hb hb7⟩
    have b3 : (h.ty == 3) = false := beq_false_of_ne h3
    rw [b3, Bool.false_or] at hF
    by_cases h10 : h.ty = 10
    · rw [h10] at hF c0
      have HF := hid hF
      clear hF hm
      go_wp2_with (guard_target =~ wpList _ _ _ (⟨some 67, _, _, _, _, _⟩ :: _) _ _; refine wpList_load_msg (op := ⟨some 67, .load _ _, _, _, _, _⟩) (by rfl) _ (by rfl) G (by rfl) (msgF h { d with tp := 9 }) _ hX (msgF_length _ _) ?_)
      refine (checkM_any h { d with tp := 9 } _).mono ?_
      rintro e w6 ⟨rfl, hb6⟩
      rw [HF.out]
      replace hb := bnext hb hb6
      clear hb6
      go_wp2_with fail
      refine (awake07_any _).mono ?_
      rintro e w7 ⟨rfl, hb7⟩
      go_wp2_with fail
      go_ret
      exact ⟨rfl, bnext hb hb7⟩
    have b10 : (h.ty == 10) = false := beq_false_of_ne h10
    rw [b10, Bool.false_or] at hF
    by_cases h12 : h.ty = 12
    · rw [h12] at hF c0
      have HF := hid hF
      clear hF hm
      go_wp2_with (guard_target =~ wpList _ _ _ (⟨some 67, _, _, _, _, _⟩ :: _) _ _; refine wpList_load_msg (op := ⟨some 67, .load _ _, _, _, _, _⟩) (by rfl) _ (by rfl) G (by rfl) (msgF h { d with tp := 9 }) _ hX (msgF_length _ _) ?_)
      refine (checkM_any h { d with tp := 9 } _).mono ?_
      rintro e w6 ⟨rfl, hb6⟩
      rw [HF.out]
      replace hb := bnext hb hb6
      clear hb6
      go_wp2_with fail
      refine (awake07_any _).mono ?_
      rintro e w7 ⟨rfl, hb7⟩
      go_wp2_with fail
      go_ret
      exact ⟨rfl, bnext hb hb7⟩
    have b12 : (h.ty == 12) = false := beq_false_of_ne h12
    rw [b12, Bool.false_or] at hF
    have HF := hid hF
    clear hF hm
    go_wp2_with (guard_target =~ wpList _ _ _ (⟨some 67, _, _, _, _, _⟩ :: _) _ _; refine wpList_load_msg (op := ⟨some 67, .load _ _, _, _, _, _⟩) (by rfl) _ (by rfl) G (by rfl) (msgF h { d with tp := 9 }) _ hX (msgF_length _ _) ?_)
    refine (checkM_any h { d with tp := 9 } _).mono ?_
    rintro e w6 ⟨rfl, hb6⟩
    rw [HF.out]
    replace hb := bnext hb hb6
    clear hb6
    go_wp2_with fail
    refine (awake07_any _).mono ?_
    rintro e w7 ⟨rfl, hb7⟩
    go_wp2_with fail
    go_ret
    exact ⟨rfl, bnext hb hb7⟩
  · have hF := field_sr hm
    have hc18 := hX.cell 18 _ rfl
    have hf18 := hX.free 18
    go_upto_region 16 with fail
    replace hM := hM.other hne 18 (.int .i64 3)
    replace hb := hb.setCell (p := ⟨G, 18, none⟩) hG (.int .i64 3)
    replace hX : Box _ G (msgF h { d with sr := 3 }) _ := hX.set 18 (.int .i64 3)
    clear hc18 hf18 c0
    generalize World.setCell _ _ _ = W at *
    have c0 := hM.cell 0 _ rfl
    have HF := hid hF
    clear hF hm
    go_wp2_with (guard_target =~ wpList _ _ _ (⟨some 67, _, _, _, _, _⟩ :: _) _ _; refine wpList_load_msg (op := ⟨some 67, .load _ _, _, _, _, _⟩) (by rfl) _ (by rfl) G (by rfl) (msgF h { d with sr := 3 }) _ hX (msgF_length _ _) ?_)
    refine (checkM_any h { d with sr := 3 } _).mono ?_
    rintro e w6 ⟨rfl, hb6⟩
    rw [HF.out]
    replace hb := bnext hb hb6
    clear hb6
    go_wp2_with fail
    refine (awake07_any _).mono ?_
    rintro e w7 ⟨rfl, hb7⟩
    go_wp2_with fail
    go_ret
    exact ⟨rfl, bnext hb hb7⟩
  · have hF := field_hp hm
    have hc21 := hX.cell 21 _ rfl
    have hf21 := hX.free 21
    go_upto_region 7 with fail
    replace hM := hM.other hne 21 (.int .i64 2)
    replace hb := hb.setCell (p := ⟨G, 21, none⟩) hG (.int .i64 2)
    replace hX : Box _ G (msgF h { d with hp := 2 }) _ := hX.set 21 (.int .i64 2)
    clear hc21 hf21 c0
    generalize World.setCell _ _ _ = W at *
    have c0 := hM.cell 0 _ rfl
    have HF := hid hF
    clear hF hm
    go_wp2_with (guard_target =~ wpList _ _ _ (⟨some 67, _, _, _, _, _⟩ :: _) _ _; refine wpList_load_msg (op := ⟨some 67, .load _ _, _, _, _, _⟩) (by rfl) _ (by rfl) G (by rfl) (msgF h { d with hp := 2 }) _ hX (msgF_length _ _) ?_)
    refine (checkM_any h { d with hp := 2 } _).mono ?_
    rintro e w6 ⟨rfl, hb6⟩
    rw [HF.out]
    replace hb := bnext hb hb6
    clear hb6
    go_wp2_with fail
    refine (awake07_any _).mono ?_
    rintro e w7 ⟨rfl, hb7⟩
    go_wp2_with fail
    go_ret
    exact ⟨rfl, bnext hb hb7⟩
end Go.Proofs.Ytpelgbcccgdlbaa