/- The document's own answers of chapter 3 (carillonref03): contracts; and the law's own awake. -/
import Derived.Test.YtcnhgcnfekldlaaPair
namespace Go.Proofs.Ytcnhgcnfekldlaa
open Go.RowKit Go.Proofs
set_option linter.unusedVariables false
set_option linter.unusedSimpArgs false

set_option maxHeartbeats 400000 in
theorem refStamp_any (t : Int) (w : World) :
    Calls Try.prog 20 #[.int .i64 t] w fun e w' => e = .returned (.bool (stampB t)) ∧ w = w' := by
  by_cases h0 : 0 ≤ t
  · by_cases h1 : t ≤ 4000000000000000
    · go_enter Try.func20, Try.ntmps20
      go_wp2
      go_ret
      exact ⟨ret_bool (stampB_iff.2 ⟨h0, h1⟩).symm, rfl⟩
    · go_enter Try.func20, Try.ntmps20
      go_wp2
      go_ret
      exact ⟨ret_bool (stampB_no (by omega)).symm, rfl⟩
  · go_enter Try.func20, Try.ntmps20
    go_wp2
    go_ret
    exact ⟨ret_bool (stampB_no (by omega)).symm, rfl⟩

theorem floor_div2 (a n : Int) (hn : 0 < n) : (if a.tmod n < 0 then a.tdiv n - 1 else a.tdiv n) = a / n := by
  have h1 := Int.tdiv_mul_add_tmod a n
  have h2 := Int.lt_tmod_of_pos a hn
  have h3 := Int.tmod_lt_of_pos a hn
  split
  · refine (Int.ediv_eq_iff_of_pos hn).2 ?_ |>.symm
    rw [Int.sub_mul]
    omega
  · refine (Int.ediv_eq_iff_of_pos hn).2 ?_ |>.symm
    omega

theorem tdiv_bounds (a n : Int) (hn : 0 < n) (h0 : -9223372036854775807 ≤ a) (h1 : a ≤ 9223372036854775807) : -9223372036854775807 ≤ a.tdiv n ∧ a.tdiv n ≤ 9223372036854775807 := by
  have h := Int.natAbs_tdiv_le_natAbs a n
  omega

set_option maxHeartbeats 400000 in
theorem refDown_any (a n : Int) (w : World) (hn : 0 < n) (h0 : -9223372036854775807 ≤ a) (h1 : a ≤ 9223372036854775807) :
    Calls Try.prog 27 #[.int .i64 a, .int .i64 n] w fun e w' => e = .returned (.int .i64 (a / n)) ∧ w = w' := by
  have hf := floor_div2 a n hn
  obtain ⟨hb0, hb1⟩ := tdiv_bounds a n hn h0 h1
  by_cases h : a.tmod n < 0
  · rw [if_pos h] at hf
    have Hf := hid hf
    clear hf
    go_enter Try.func27, Try.ntmps27
    go_wp2
    go_ret
    exact ⟨ret_int (by have := Hf.out; omega), rfl⟩
  · rw [if_neg h] at hf
    have Hf := hid hf
    clear hf
    go_enter Try.func27, Try.ntmps27
    go_wp2
    go_ret
    exact ⟨ret_int (by have := Hf.out; omega), rfl⟩

set_option maxHeartbeats 400000 in
theorem refOffset_any (a b : Int) (w : World) (h0 : -8000000000000000 ≤ a - b) (h1 : a - b ≤ 8000000000000000) :
    Calls Try.prog 21 #[.agg #[.int .i64 a, .int .i64 b]] w fun e w' => e = .returned (.int .i64 ((a - b) / 2)) ∧ Below w.heap.size w w' := by
  go_enter Try.func21, Try.ntmps21
  go_wp2_with fail
  refine (refDown_any _ _ _ (by decide) (by omega) (by omega)).mono ?_
  rintro e w' ⟨rfl, rfl⟩
  go_wp2_with fail
  go_ret
  exact ⟨rfl, bnew _ _⟩

set_option maxHeartbeats 400000 in
theorem refDelay_any (a b : Int) (w : World) (h0 : -8000000000000000 ≤ a + b) (h1 : a + b ≤ 8000000000000000) :
    Calls Try.prog 22 #[.agg #[.int .i64 a, .int .i64 b]] w fun e w' => e = .returned (.int .i64 ((a + b) / 2)) ∧ Below w.heap.size w w' := by
  go_enter Try.func22, Try.ntmps22
  go_wp2_with fail
  refine (refDown_any _ _ _ (by decide) (by omega) (by omega)).mono ?_
  rintro e w' ⟨rfl, rfl⟩
  go_wp2_with fail
  go_ret
  exact ⟨rfl, bnew _ _⟩

set_option maxHeartbeats 1600000 in
theorem refExchange_any (t1 t2 t3 t4 : Int) (w : World) :
    Calls Try.prog 9 #[.int .i64 t1, .int .i64 t2, .int .i64 t3, .int .i64 t4] w fun e w' => e = .returned (.tuple #[.int .i64 (exO t1 t2 t3 t4), .int .i64 (exD t1 t2 t3 t4), .bool (allB t1 t2 t3 t4)]) ∧ Below w.heap.size w w' := by
  cases h1 : stampB t1
  · have hno : allB t1 t2 t3 t4 = false := by unfold allB; rw [h1]; rfl
    have HO : exO t1 t2 t3 t4 = 0 := by unfold exO; rw [hno]; rfl
    have HD : exD t1 t2 t3 t4 = 0 := by unfold exD; rw [hno]; rfl
    rw [HO, HD, hno]
    have H1 := hid h1
    clear h1 hno HO HD
    go_enter Try.func9, Try.ntmps9
    go_wp2_with fail
    refine (refStamp_any _ _).mono ?_
    rintro e w' ⟨rfl, rfl⟩
    rw [H1.out]
    go_wp2_with fail
    go_ret3
    exact ⟨rfl, Below.refl _ _⟩
  cases h2 : stampB t2
  · have hno : allB t1 t2 t3 t4 = false := by unfold allB; rw [h1, h2]; rfl
    have HO : exO t1 t2 t3 t4 = 0 := by unfold exO; rw [hno]; rfl
    have HD : exD t1 t2 t3 t4 = 0 := by unfold exD; rw [hno]; rfl
    rw [HO, HD, hno]
    have H1 := hid h1
    have H2 := hid h2
    clear h1 h2 hno HO HD
    go_enter Try.func9, Try.ntmps9
    go_wp2_with fail
    refine (refStamp_any _ _).mono ?_
    rintro e w' ⟨rfl, rfl⟩
    rw [H1.out]
    go_wp2_with fail
    refine (refStamp_any _ _).mono ?_
    rintro e w' ⟨rfl, rfl⟩
    rw [H2.out]
    go_wp2_with fail
    go_ret3
    exact ⟨rfl, Below.refl _ _⟩
  cases h3 : stampB t3
  · have hno : allB t1 t2 t3 t4 = false := by unfold allB; rw [h1, h2, h3]; rfl
    have HO : exO t1 t2 t3 t4 = 0 := by unfold exO; rw [hno]; rfl
    have HD : exD t1 t2 t3 t4 = 0 := by unfold exD; rw [hno]; rfl
    rw [HO, HD, hno]
    have H1 := hid h1
    have H2 := hid h2
    have H3 := hid h3
    clear h1 h2 h3 hno HO HD
    go_enter Try.func9, Try.ntmps9
    go_wp2_with fail
    refine (refStamp_any _ _).mono ?_
    rintro e w' ⟨rfl, rfl⟩
    rw [H1.out]
    go_wp2_with fail
    refine (refStamp_any _ _).mono ?_
    rintro e w' ⟨rfl, rfl⟩
    rw [H2.out]
    go_wp2_with fail
    refine (refStamp_any _ _).mono ?_
    rintro e w' ⟨rfl, rfl⟩
    rw [H3.out]
    go_wp2_with fail
    go_ret3
    exact ⟨rfl, Below.refl _ _⟩
  cases h4 : stampB t4
  · have hno : allB t1 t2 t3 t4 = false := by unfold allB; rw [h1, h2, h3, h4]; rfl
    have HO : exO t1 t2 t3 t4 = 0 := by unfold exO; rw [hno]; rfl
    have HD : exD t1 t2 t3 t4 = 0 := by unfold exD; rw [hno]; rfl
    rw [HO, HD, hno]
    have H1 := hid h1
    have H2 := hid h2
    have H3 := hid h3
    have H4 := hid h4
    clear h1 h2 h3 h4 hno HO HD
    go_enter Try.func9, Try.ntmps9
    go_wp2_with fail
    refine (refStamp_any _ _).mono ?_
    rintro e w' ⟨rfl, rfl⟩
    rw [H1.out]
    go_wp2_with fail
    refine (refStamp_any _ _).mono ?_
    rintro e w' ⟨rfl, rfl⟩
    rw [H2.out]
    go_wp2_with fail
    refine (refStamp_any _ _).mono ?_
    rintro e w' ⟨rfl, rfl⟩
    rw [H3.out]
    go_wp2_with fail
    refine (refStamp_any _ _).mono ?_
    rintro e w' ⟨rfl, rfl⟩
    rw [H4.out]
    go_wp2_with fail
    go_ret3
    exact ⟨rfl, Below.refl _ _⟩
  · have hyes : allB t1 t2 t3 t4 = true := by unfold allB; rw [h1, h2, h3, h4]; rfl
    have HO : exO t1 t2 t3 t4 = (t2 - t1 - (t4 - t3)) / 2 := by unfold exO; rw [hyes]; rfl
    have HD : exD t1 t2 t3 t4 = (t2 - t1 + (t4 - t3)) / 2 := by unfold exD; rw [hyes]; rfl
    rw [HO, HD, hyes]
    have P1 := hid (sub_wrap (stampB_iff.1 h2) (stampB_iff.1 h1))
    have P2 := hid (sub_wrap (stampB_iff.1 h4) (stampB_iff.1 h3))
    obtain ⟨b10, b11⟩ := stampB_iff.1 h1
    obtain ⟨b20, b21⟩ := stampB_iff.1 h2
    obtain ⟨b30, b31⟩ := stampB_iff.1 h3
    obtain ⟨b40, b41⟩ := stampB_iff.1 h4
    have H1 := hid h1
    have H2 := hid h2
    have H3 := hid h3
    have H4 := hid h4
    clear h1 h2 h3 h4 hyes HO HD
    go_enter Try.func9, Try.ntmps9
    go_wp2_with fail
    refine (refStamp_any _ _).mono ?_
    rintro e w' ⟨rfl, rfl⟩
    rw [H1.out]
    go_wp2_with fail
    refine (refStamp_any _ _).mono ?_
    rintro e w' ⟨rfl, rfl⟩
    rw [H2.out]
    go_wp2_with fail
    refine (refStamp_any _ _).mono ?_
    rintro e w' ⟨rfl, rfl⟩
    rw [H3.out]
    go_wp2_with fail
    refine (refStamp_any _ _).mono ?_
    rintro e w' ⟨rfl, rfl⟩
    rw [H4.out]
    go_wp2_with fail
    obtain ⟨W, hWd⟩ : ∃ W, W = w.alloc (Obj.cells #[.int .i64 (t2 - t1), .int .i64 (t4 - t3)] 43) := ⟨_, rfl⟩
    have c0 : W.cell? ⟨w.heap.size, 0, none⟩ = some (.int .i64 (t2 - t1)) := by rw [hWd]; go_simp
    have c1 : W.cell? ⟨w.heap.size, 1, none⟩ = some (.int .i64 (t4 - t3)) := by rw [hWd]; go_simp
    have hlt : w.heap.size < W.heap.size := by rw [hWd]; show w.heap.size < (w.heap.push _).size; rw [Array.size_push]; omega
    have hbel0 : Below w.heap.size w W := by rw [hWd]; exact bnew _ _
    rw [← hWd]
    clear hWd
    have Hbel0 := hid hbel0
    have hd0 : W.drew.cell? ⟨w.heap.size, 0, none⟩ = some (.int .i64 (t2 - t1)) := c0
    have hd1 : W.drew.cell? ⟨w.heap.size, 1, none⟩ = some (.int .i64 (t4 - t3)) := c1
    have hdl : w.heap.size < W.drew.heap.size := hlt
    have hcell0 : ∀ wx, Below W.drew.heap.size W.drew wx → wx.cell? ⟨w.heap.size, 0, none⟩ = some (.int .i64 (t2 - t1)) := fun wx hx => by rw [hx.cell (p := ⟨w.heap.size, 0, none⟩) hdl]; exact hd0
    have hcell1 : ∀ wx, Below W.drew.heap.size W.drew wx → wx.cell? ⟨w.heap.size, 1, none⟩ = some (.int .i64 (t4 - t3)) := fun wx hx => by rw [hx.cell (p := ⟨w.heap.size, 1, none⟩) hdl]; exact hd1
    clear c0 c1 hd0 hd1 hlt hdl hbel0
    refine wp_region_held_drew (S := fun w' => Below W.drew.heap.size W.drew w') (by kernel_rfl) (Below.refl _ _) ?_
    intro hHeld
    have hbW := Below.drew (Below.refl W.heap.size W)
    generalize W.drew = wd at *
    -- REGION
    refine rtake 0 rfl (by rfl) (by kernel_rfl) (by kernel_rfl) (by kernel_rfl) (fun _ _ _ h => h) hHeld (fun wx hwx => by go_simp; try with_reducible rfl) ?_
    try simp only [Act.put, List.setIfInBounds_toArray, List.set_cons_zero, List.set_cons_succ]
    refine rtake 2 rfl (by rfl) (by kernel_rfl) (by kernel_rfl) (by kernel_rfl) (fun _ _ _ h => h) hHeld (fun wx hwx => by go_simp; try with_reducible rfl) ?_
    try simp only [Act.put, List.setIfInBounds_toArray, List.set_cons_zero, List.set_cons_succ]
    -- CALL 1: some 38 := Op.call { callee := Callee.value (Operand.func 21), args := #[Operand.tmp 37], argTypes := #[43] }
    refine rcall 1 rfl (by kernel_rfl) (by rfl) (fun K hK => ?_)
    go_simp
    refine (refOffset_any _ _ _ (by omega) (by omega)).mono ?_
    rintro e wx1 ⟨rfl, hbel⟩
    refine hK.out _ _ hbel ?_
    clear hK K
    refine wpAnyH_mono (S' := fun w' => Below wx1.heap.size wx1 w') (fun w' h => bnext hbel h) _ _ _ _ ?_
    have hH := Below.refl wx1.heap.size wx1
    have hW := bnext hbW hbel
    clear hbel hbW hHeld
    have hHeld := hH
    have hbW := hW
    clear hH hW
    try simp only [Act.put, List.setIfInBounds_toArray, List.set_cons_zero, List.set_cons_succ]
    -- CALL 3: some 40 := Op.call { callee := Callee.value (Operand.func 22), args := #[Operand.tmp 39], argTypes := #[43] }
    refine rcall 3 rfl (by kernel_rfl) (by rfl) (fun K hK => ?_)
    go_simp
    refine (refDelay_any _ _ _ (by omega) (by omega)).mono ?_
    rintro e wx3 ⟨rfl, hbel⟩
    refine hK.out _ _ hbel ?_
    clear hK K
    refine wpAnyH_mono (S' := fun w' => Below wx3.heap.size wx3 w') (fun w' h => bnext hbel h) _ _ _ _ ?_
    have hH := Below.refl wx3.heap.size wx3
    have hW := bnext hbW hbel
    clear hbel hbW hHeld
    have hHeld := hH
    have hbW := hW
    clear hH hW
    try simp only [Act.put, List.setIfInBounds_toArray, List.set_cons_zero, List.set_cons_succ]
    refine rtake 4 rfl (by rfl) (by kernel_rfl) (by kernel_rfl) (by kernel_rfl) (fun _ _ _ h => h) hHeld (fun wx hwx => by go_simp; try with_reducible rfl) ?_
    try simp only [Act.put, List.setIfInBounds_toArray, List.set_cons_zero, List.set_cons_succ]
    refine rtake 5 rfl (by rfl) (by kernel_rfl) (by kernel_rfl) (by kernel_rfl) (fun _ _ _ h => h) hHeld (fun wx hwx => by go_simp; try with_reducible rfl) ?_
    try simp only [Act.put, List.setIfInBounds_toArray, List.set_cons_zero, List.set_cons_succ]
    refine rtake 6 rfl (by rfl) (by kernel_rfl) (by kernel_rfl) (by kernel_rfl) (fun _ _ _ h => h) hHeld (fun wx hwx => by go_simp; try with_reducible rfl) ?_
    try simp only [Act.put, List.setIfInBounds_toArray, List.set_cons_zero, List.set_cons_succ]
    refine wpAnyH_done (by kernel_rfl) ?_ _
    -- END REGION
    go_wp2_with fail
    go_ret3
    exact ⟨rfl, bnext Hbel0.out hbW⟩

set_option maxHeartbeats 1600000 in
theorem awake03_any (w : World) :
    Calls Try.prog 10 #[] w fun e w' => e = .returned (.bool true) ∧ w = w' := by
  go_enter Try.func10, Try.ntmps10
  go_wp2_with fail
  refine (exchange_any _ _ _ _ _).mono ?_
  rintro e w' ⟨rfl, rfl⟩
  rw [show exO 100 160 200 240 = 10 by decide, show exD 100 160 200 240 = 50 by decide, show allB 100 160 200 240 = true by decide]
  go_wp2_with fail
  go_ret
  exact ⟨rfl, rfl⟩
end Go.Proofs.Ytcnhgcnfekldlaa
