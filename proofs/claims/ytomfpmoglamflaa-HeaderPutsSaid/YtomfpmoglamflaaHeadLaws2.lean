/- The walk of the law HeaderPuts (its region: gen_header.py). -/
import Derived.Test.YtomfpmoglamflaaHeadAwake
import Derived.Test.YtomfpmoglamflaaHeadRefPut
namespace Go.Proofs.Ytomfpmoglamflaa
open Go.RowKit Go.Proofs
set_option linter.unusedVariables false
set_option linter.unusedSimpArgs false

set_option maxHeartbeats 1600000 in
theorem refHeadPut_no (h : Hd) (r : List Value) (n : Int) (w : World) (hr : r.length = 15) (hp : putB h n = false) :
    Calls Try.prog 11 #[.agg (msgL h r).toArray, .int .i64 n] w fun e w' => e = .returned (.slice none 0 0) ∧ Below w.heap.size w w' := by
  have hl := msgL_length h r hr
  unfold putB at hp
  go_enter Try.func11, Try.ntmps11
  go_upto_region 1 with fail
  obtain ⟨W, hWe, hbw, hBox⟩ := box_msg w (msgL h r)
  rw [← hWe]
  clear hWe
  go_wp2_with (refine wpList_load_msg (op := ⟨some 7, .load _ _, _, _, _, _⟩) rfl _ rfl w.heap.size rfl (msgL h r) _ hBox hl ?_)
  refine (refCheck_any _ _ _).mono ?_
  rintro e w1 ⟨rfl, hb1⟩
  cases hc : checkB h
  · go_wp2_with fail
    go_ret
    exact ⟨rfl, bnext hbw hb1⟩
  · rw [hc, Bool.true_and] at hp
    unfold inB at hp
    rw [decide_eq_false_iff_not] at hp
    by_cases h34 : n < 34
    · go_wp2_with fail
      go_ret
      exact ⟨rfl, bnext hbw hb1⟩
    · have h400 : 400 < n := by omega
      go_wp2_with fail
      go_ret
      exact ⟨rfl, bnext hbw hb1⟩

set_option maxRecDepth 100000 in
set_option maxHeartbeats 4000000 in
theorem headerPuts_no (h : Hd) (r : List Value) (n : Int) (w : World) (hr : r.length = 15) (hp : putB h n = false) :
    Calls Try.prog 3 #[.agg (msgL h r).toArray, .int .i64 n] w fun e w' => e = .returned (.bool true) ∧ Below w.heap.size w w' := by
  have hl := msgL_length h r hr
  have Hlen := hid hl
  have hst0 := fun w' => (Bytes.nil w').str
  go_enter Try.func3, Try.ntmps3
  go_upto_region 1 with fail
  obtain ⟨W, hWe, hbw, hBox⟩ := box_msg w (msgL h r)
  rw [← hWe]
  clear hWe
  have HBx := hid fun (wx : World) (hx : Below W.heap.size W wx) => hBox.below hx
  have HC := hid fun (wx : World) (hx : Below W.heap.size W wx) => (hBox.hd wx hx).1
  go_wp2_with (refine wpList_load_msg (op := ⟨some 9, .load _ _, _, _, _, _⟩) rfl _ rfl w.heap.size rfl (msgL h r) _ hBox hl ?_)
  refine (headPut_no h r n _ hr hp).mono ?_
  rintro e w1 ⟨rfl, hb1⟩
  have hBox1 := HBx.out _ hb1
  go_wp2_with (refine wpList_load_msg (op := ⟨some 14, .load _ _, _, _, _, _⟩) rfl _ rfl w.heap.size rfl (msgL h r) _ hBox1 hl ?_)
  refine (refHeadPut_no h r n _ hr hp).mono ?_
  rintro e W2 ⟨rfl, hb2⟩
  have hbW2 := bnext hb1 hb2
  clear hBox hBox1 hb1 hb2 hl
  go_wp2_with fail
  -- REGION putsno
  refine wp_region_held_drew (S := fun w' => Below W2.drew.heap.size W2.drew w') (by kernel_rfl) (Below.refl _ _) ?_
  intro hHeld
  have hbW := bnext hbW2 <| Below.drew (Below.refl W2.heap.size W2)
  generalize W2.drew = wd at *
  have hcC := fun wx h => HC.out wx (bnext hbW h)
  refine rtake 0 rfl (by rfl) (by kernel_rfl) (by kernel_rfl) (by kernel_rfl) (fun _ _ _ h => h) hHeld (fun wx hwx => by go_simp; try with_reducible rfl) ?_
  try simp only [Act.put, List.setIfInBounds_toArray, List.set_cons_zero, List.set_cons_succ]
  refine rtake 1 rfl (by rfl) (by kernel_rfl) (by kernel_rfl) (by kernel_rfl) (fun _ _ _ h => h) hHeld (fun wx hwx => by go_simp; try with_reducible rfl) ?_
  try simp only [Act.put, List.setIfInBounds_toArray, List.set_cons_zero, List.set_cons_succ]
  refine rtake 2 rfl (by rfl) (by kernel_rfl) (by kernel_rfl) (by kernel_rfl) (fun _ _ _ h => h) hHeld (fun wx hwx => by go_simp; try with_reducible rfl) ?_
  try simp only [Act.put, List.setIfInBounds_toArray, List.set_cons_zero, List.set_cons_succ]
  refine rtake 3 rfl (by rfl) (by kernel_rfl) (by kernel_rfl) (by kernel_rfl) (fun _ _ _ h => h) hHeld (fun wx hwx => by go_simp; try with_reducible rfl) ?_
  try simp only [Act.put, List.setIfInBounds_toArray, List.set_cons_zero, List.set_cons_succ]
  refine rtake 4 rfl (by rfl) (by kernel_rfl) (by kernel_rfl) (by kernel_rfl) (fun _ _ _ h => h) hHeld (fun wx hwx => by go_simp; try with_reducible rfl) ?_
  try simp only [Act.put, List.setIfInBounds_toArray, List.set_cons_zero, List.set_cons_succ]
  refine rtake 5 rfl (by rfl) (by kernel_rfl) (by kernel_rfl) (by kernel_rfl) (fun _ _ _ h => h) hHeld (fun wx hwx => by go_simp; try with_reducible rfl) ?_
  try simp only [Act.put, List.setIfInBounds_toArray, List.set_cons_zero, List.set_cons_succ]
  refine rtake 6 rfl (by rfl) (by kernel_rfl) (by kernel_rfl) (by kernel_rfl) (fun _ _ _ h => h) hHeld (fun wx hwx => by go_simp; try with_reducible rfl) ?_
  try simp only [Act.put, List.setIfInBounds_toArray, List.set_cons_zero, List.set_cons_succ]
  refine rtake 7 rfl (by rfl) (by kernel_rfl) (by kernel_rfl) (by kernel_rfl) (fun _ _ _ h => h) hHeld (fun wx hwx => by go_simp; try with_reducible rfl) ?_
  try simp only [Act.put, List.setIfInBounds_toArray, List.set_cons_zero, List.set_cons_succ]
  refine rtake 8 rfl (by rfl) (by kernel_rfl) (by kernel_rfl) (by kernel_rfl) (fun _ _ _ h => h) hHeld (fun wx hwx => by go_simp; try with_reducible rfl) ?_
  try simp only [Act.put, List.setIfInBounds_toArray, List.set_cons_zero, List.set_cons_succ]
  refine rtake 9 rfl (by rfl) (by kernel_rfl) (by kernel_rfl) (by kernel_rfl) (fun _ _ _ h => h) hHeld (fun wx hwx => by go_simp; try with_reducible rfl) ?_
  try simp only [Act.put, List.setIfInBounds_toArray, List.set_cons_zero, List.set_cons_succ]
  refine rtake 10 rfl (by rfl) (by kernel_rfl) (by kernel_rfl) (by kernel_rfl) (fun _ _ _ h => h) hHeld (fun wx hwx => by go_simp; try with_reducible rfl) ?_
  try simp only [Act.put, List.setIfInBounds_toArray, List.set_cons_zero, List.set_cons_succ]
  refine rtake 11 rfl (by rfl) (by kernel_rfl) (by kernel_rfl) (by kernel_rfl) (fun _ _ _ h => h) hHeld (fun wx hwx => by go_simp; try with_reducible rfl) ?_
  try simp only [Act.put, List.setIfInBounds_toArray, List.set_cons_zero, List.set_cons_succ]
  refine rtake 12 rfl (by rfl) (by kernel_rfl) (by kernel_rfl) (by kernel_rfl) (fun _ _ _ h => h) hHeld (fun wx hwx => by go_simp; try with_reducible rfl) ?_
  try simp only [Act.put, List.setIfInBounds_toArray, List.set_cons_zero, List.set_cons_succ]
  refine rtake 13 rfl (by rfl) (by kernel_rfl) (by kernel_rfl) (by kernel_rfl) (fun _ _ _ h => h) hHeld (fun wx hwx => exec_load_msg _ rfl w.heap.size rfl (msgL h r) _ (HBx.out wx (bnext hbW hwx)) Hlen.out) ?_
  try simp only [Act.put, List.setIfInBounds_toArray, List.set_cons_zero, List.set_cons_succ]
  refine rtake 15 rfl (by rfl) (by kernel_rfl) (by kernel_rfl) (by kernel_rfl) (fun _ _ _ h => h) hHeld (fun wx hwx => exec_load_msg _ rfl w.heap.size rfl (msgL h r) _ (HBx.out wx (bnext hbW hwx)) Hlen.out) ?_
  try simp only [Act.put, List.setIfInBounds_toArray, List.set_cons_zero, List.set_cons_succ]
  -- CALL 14: some 31 := Op.call { callee := Callee.value (Operand.func 12), args := #[Operand.tmp 30], argTypes := #[28] }
  refine rcall 14 rfl (by kernel_rfl) (by rfl) (fun K hK => ?_)
  go_simp
  refine (check_any h r _).mono ?_
  rintro e wx14 ⟨rfl, hbel⟩
  refine hK.out _ _ hbel ?_
  clear hK K
  refine wpAnyH_mono (S' := fun w' => Below wx14.heap.size wx14 w') (fun w' h => bnext hbel h) _ _ _ _ ?_
  have hH := Below.refl wx14.heap.size wx14
  have hW := bnext hbW hbel
  clear hbel hbW hHeld
  have hHeld := hH
  have hbW := hW
  clear hH hW
  have hsz14 := hbW.size
  replace hcC := fun wx h => HC.out wx (bnext hbW h)
  try simp only [Act.put, List.setIfInBounds_toArray, List.set_cons_zero, List.set_cons_succ]
  -- CALL 16: some 33 := Op.call { callee := Callee.value (Operand.func 13), args := #[Operand.tmp 32], argTypes := #[28] }
  refine rcall 16 rfl (by kernel_rfl) (by rfl) (fun K hK => ?_)
  go_simp
  refine (refCheck_any h r _).mono ?_
  rintro e wx16 ⟨rfl, hbel⟩
  refine hK.out _ _ hbel ?_
  clear hK K
  refine wpAnyH_mono (S' := fun w' => Below wx16.heap.size wx16 w') (fun w' h => bnext hbel h) _ _ _ _ ?_
  have hH := Below.refl wx16.heap.size wx16
  have hW := bnext hbW hbel
  clear hbel hbW hHeld
  have hHeld := hH
  have hbW := hW
  clear hH hW
  have hsz16 := hbW.size
  replace hcC := fun wx h => HC.out wx (bnext hbW h)
  try simp only [Act.put, List.setIfInBounds_toArray, List.set_cons_zero, List.set_cons_succ]
  refine rtake 17 rfl (by rfl) (by kernel_rfl) (by kernel_rfl) (by kernel_rfl) (fun _ _ _ h => h) hHeld (fun wx hwx => by go_simp; try with_reducible rfl) ?_
  try simp only [Act.put, List.setIfInBounds_toArray, List.set_cons_zero, List.set_cons_succ]
  refine rtake 18 rfl (by rfl) (by kernel_rfl) (by kernel_rfl) (by kernel_rfl) (fun _ _ _ h => h) hHeld (fun wx hwx => by go_simp; try with_reducible rfl) ?_
  try simp only [Act.put, List.setIfInBounds_toArray, List.set_cons_zero, List.set_cons_succ]
  refine rtake 19 rfl (by rfl) (by kernel_rfl) (by kernel_rfl) (by kernel_rfl) (fun _ _ _ h => h) hHeld (fun wx hwx => by go_simp; try with_reducible rfl) ?_
  try simp only [Act.put, List.setIfInBounds_toArray, List.set_cons_zero, List.set_cons_succ]
  refine rtake 20 rfl (by rfl) (by kernel_rfl) (by kernel_rfl) (by kernel_rfl) (fun _ _ _ h => h) hHeld (fun wx hwx => by go_simp; try with_reducible rfl) ?_
  try simp only [Act.put, List.setIfInBounds_toArray, List.set_cons_zero, List.set_cons_succ]
  refine rtake 21 rfl (by rfl) (by kernel_rfl) (by kernel_rfl) (by kernel_rfl) (fun _ _ _ h => h) hHeld (fun wx hwx => by go_simp; try with_reducible rfl) ?_
  try simp only [Act.put, List.setIfInBounds_toArray, List.set_cons_zero, List.set_cons_succ]
  refine rtake 23 rfl (by rfl) (by kernel_rfl) (by kernel_rfl) (by kernel_rfl) (fun _ _ _ h => h) hHeld (fun wx hwx => by go_simp; try with_reducible rfl) ?_
  try simp only [Act.put, List.setIfInBounds_toArray, List.set_cons_zero, List.set_cons_succ]
  refine rtake 24 rfl (by rfl) (by kernel_rfl) (by kernel_rfl) (by kernel_rfl) (fun _ _ _ h => h) hHeld (fun wx hwx => by go_simp; try with_reducible rfl) ?_
  try simp only [Act.put, List.setIfInBounds_toArray, List.set_cons_zero, List.set_cons_succ]
  -- CALL 22: some 39 := Op.call { callee := Callee.value (Operand.func 14), args := #[Operand.tmp 38], argTypes := #[3] }
  refine rcall 22 rfl (by kernel_rfl) (by rfl) (fun K hK => ?_)
  go_simp
  refine (known_any _ _).mono ?_
  rintro e wx22 ⟨rfl, rfl⟩
  refine hK.out _ _ hHeld ?_
  clear hK K
  try simp only [Act.put, List.setIfInBounds_toArray, List.set_cons_zero, List.set_cons_succ]
  -- CALL 25: some 42 := Op.call { callee := Callee.value (Operand.func 15), args := #[Operand.tmp 41], argTypes := #[3] }
  refine rcall 25 rfl (by kernel_rfl) (by rfl) (fun K hK => ?_)
  go_simp
  refine (refKnown_any _ _).mono ?_
  rintro e wx25 ⟨rfl, rfl⟩
  refine hK.out _ _ hHeld ?_
  clear hK K
  try simp only [Act.put, List.setIfInBounds_toArray, List.set_cons_zero, List.set_cons_succ]
  refine rtake 26 rfl (by rfl) (by kernel_rfl) (by kernel_rfl) (by kernel_rfl) (fun _ _ _ h => h) hHeld (fun wx hwx => by go_simp; try with_reducible rfl) ?_
  try simp only [Act.put, List.setIfInBounds_toArray, List.set_cons_zero, List.set_cons_succ]
  refine rtake 27 rfl (by rfl) (by kernel_rfl) (by kernel_rfl) (by kernel_rfl) (fun _ _ _ h => h) hHeld (fun wx hwx => by go_simp; try with_reducible rfl) ?_
  try simp only [Act.put, List.setIfInBounds_toArray, List.set_cons_zero, List.set_cons_succ]
  refine rtake 28 rfl (by rfl) (by kernel_rfl) (by kernel_rfl) (by kernel_rfl) (fun _ _ _ h => h) hHeld (fun wx hwx => by go_simp; try with_reducible rfl) ?_
  try simp only [Act.put, List.setIfInBounds_toArray, List.set_cons_zero, List.set_cons_succ]
  -- CALL 29: some 46 := Op.call { callee := Callee.value (Operand.func 16), args := #[], argTypes := #[] }
  refine rcall 29 rfl (by kernel_rfl) (by rfl) (fun K hK => ?_)
  go_simp
  refine (awake06_any _).mono ?_
  rintro e wx29 ⟨rfl, hbel⟩
  refine hK.out _ _ hbel ?_
  clear hK K
  refine wpAnyH_mono (S' := fun w' => Below wx29.heap.size wx29 w') (fun w' h => bnext hbel h) _ _ _ _ ?_
  have hH := Below.refl wx29.heap.size wx29
  have hW := bnext hbW hbel
  clear hbel hbW hHeld
  have hHeld := hH
  have hbW := hW
  clear hH hW
  have hsz29 := hbW.size
  replace hcC := fun wx h => HC.out wx (bnext hbW h)
  try simp only [Act.put, List.setIfInBounds_toArray, List.set_cons_zero, List.set_cons_succ]
  refine rtake 30 rfl (by rfl) (by kernel_rfl) (by kernel_rfl) (by kernel_rfl) (fun _ _ _ h => h) hHeld (fun wx hwx => by go_simp; try with_reducible rfl) ?_
  try simp only [Act.put, List.setIfInBounds_toArray, List.set_cons_zero, List.set_cons_succ]
  refine rtake 31 rfl (by rfl) (by kernel_rfl) (by kernel_rfl) (by kernel_rfl) (fun _ _ _ h => h) hHeld (fun wx hwx => by go_simp; try with_reducible rfl) ?_
  try simp only [Act.put, List.setIfInBounds_toArray, List.set_cons_zero, List.set_cons_succ]
  refine wpAnyH_done (by kernel_rfl) ?_ _
  -- END REGION putsno
  go_wp2_with fail
  go_ret
  exact ⟨rfl, bnext hbw hbW⟩

set_option maxRecDepth 100000 in
set_option maxHeartbeats 4000000 in
theorem headerPuts_yes (h : Hd) (r : List Value) (n : Int) (w : World) (hr : r.length = 15) (hok : HdOk h) (hp : putB h n = true) :
    Calls Try.prog 3 #[.agg (msgL h r).toArray, .int .i64 n] w fun e w' => e = .returned (.bool true) ∧ Below w.heap.size w w' := by
  have hl := msgL_length h r hr
  have Hlen := hid hl
  have HL := hid (headS_length h n)
  go_enter Try.func3, Try.ntmps3
  go_upto_region 1 with fail
  obtain ⟨W, hWe, hbw, hBox⟩ := box_msg w (msgL h r)
  rw [← hWe]
  clear hWe
  have HBx := hid fun (wx : World) (hx : Below W.heap.size W wx) => hBox.below hx
  have HC := hid fun (wx : World) (hx : Below W.heap.size W wx) => (hBox.hd wx hx).1
  go_wp2_with (refine wpList_load_msg (op := ⟨some 9, .load _ _, _, _, _, _⟩) rfl _ rfl w.heap.size rfl (msgL h r) _ hBox hl ?_)
  refine (headPut_yes h r n _ hr hok.1 hp).mono ?_
  rintro e w1 ⟨v1, rfl, own1, hb1⟩
  have hBox1 := HBx.out _ hb1
  go_wp2_with (refine wpList_load_msg (op := ⟨some 14, .load _ _, _, _, _, _⟩) rfl _ rfl w.heap.size rfl (msgL h r) _ hBox1 hl ?_)
  refine (refHeadPut_yes h r n _ hr hok.1 hok.2.1 hp).mono ?_
  rintro e W2 ⟨v2, rfl, own2, hb2⟩
  have hbW2 := bnext hb1 hb2
  have hB1 := own1.bytes.below hb2
  have HB1 := hid (hB1.strs)
  have HB2 := hid (own2.bytes.strs)
  obtain ⟨g1, cap1, rfl, -⟩ := own1.form (by rw [HL.out]; decide)
  obtain ⟨g2, cap2, rfl, -⟩ := own2.form (by rw [HL.out]; decide)
  rw [HL.out] at HB1 HB2 ⊢
  generalize headS h n = L at *
  clear hBox hBox1 hb1 hb2 hl own1 own2 hB1
  go_wp2_with fail
  -- REGION putsyes
  refine wp_region_held_drew (S := fun w' => Below W2.drew.heap.size W2.drew w') (by kernel_rfl) (Below.refl _ _) ?_
  intro hHeld
  have hbW := bnext hbW2 <| Below.drew (Below.refl W2.heap.size W2)
  have hst0 := fun w' h => HB1.out w' (bdrew (w := W2) h)
  have hst1 := fun w' h => HB2.out w' (bdrew (w := W2) h)
  generalize W2.drew = wd at *
  have hcC := fun wx h => HC.out wx (bnext hbW h)
  refine rtake 0 rfl (by rfl) (by kernel_rfl) (by kernel_rfl) (by kernel_rfl) (fun _ _ _ h => h) hHeld (fun wx hwx => by go_simp; try with_reducible rfl) ?_
  try simp only [Act.put, List.setIfInBounds_toArray, List.set_cons_zero, List.set_cons_succ]
  refine rtake 1 rfl (by rfl) (by kernel_rfl) (by kernel_rfl) (by kernel_rfl) (fun _ _ _ h => h) hHeld (fun wx hwx => by go_simp; try with_reducible rfl) ?_
  try simp only [Act.put, List.setIfInBounds_toArray, List.set_cons_zero, List.set_cons_succ]
  refine rtake 2 rfl (by rfl) (by kernel_rfl) (by kernel_rfl) (by kernel_rfl) (fun _ _ _ h => h) hHeld (fun wx hwx => by go_simp; try with_reducible rfl) ?_
  try simp only [Act.put, List.setIfInBounds_toArray, List.set_cons_zero, List.set_cons_succ]
  refine rtake 3 rfl (by rfl) (by kernel_rfl) (by kernel_rfl) (by kernel_rfl) (fun _ _ _ h => h) hHeld (fun wx hwx => by go_simp; try with_reducible rfl) ?_
  try simp only [Act.put, List.setIfInBounds_toArray, List.set_cons_zero, List.set_cons_succ]
  refine rtake 4 rfl (by rfl) (by kernel_rfl) (by kernel_rfl) (by kernel_rfl) (fun _ _ _ h => h) hHeld (fun wx hwx => by go_simp; try with_reducible rfl) ?_
  try simp only [Act.put, List.setIfInBounds_toArray, List.set_cons_zero, List.set_cons_succ]
  refine rtake 5 rfl (by rfl) (by kernel_rfl) (by kernel_rfl) (by kernel_rfl) (fun _ _ _ h => h) hHeld (fun wx hwx => by go_simp; try with_reducible rfl) ?_
  try simp only [Act.put, List.setIfInBounds_toArray, List.set_cons_zero, List.set_cons_succ]
  refine rtake 6 rfl (by rfl) (by kernel_rfl) (by kernel_rfl) (by kernel_rfl) (fun _ _ _ h => h) hHeld (fun wx hwx => by go_simp; try with_reducible rfl) ?_
  try simp only [Act.put, List.setIfInBounds_toArray, List.set_cons_zero, List.set_cons_succ]
  refine rtake 7 rfl (by rfl) (by kernel_rfl) (by kernel_rfl) (by kernel_rfl) (fun _ _ _ h => h) hHeld (fun wx hwx => by go_simp; try with_reducible rfl) ?_
  try simp only [Act.put, List.setIfInBounds_toArray, List.set_cons_zero, List.set_cons_succ]
  refine rtake 8 rfl (by rfl) (by kernel_rfl) (by kernel_rfl) (by kernel_rfl) (fun _ _ _ h => h) hHeld (fun wx hwx => by go_simp; try with_reducible rfl) ?_
  try simp only [Act.put, List.setIfInBounds_toArray, List.set_cons_zero, List.set_cons_succ]
  refine rtake 9 rfl (by rfl) (by kernel_rfl) (by kernel_rfl) (by kernel_rfl) (fun _ _ _ h => h) hHeld (fun wx hwx => by go_simp; try with_reducible rfl) ?_
  try simp only [Act.put, List.setIfInBounds_toArray, List.set_cons_zero, List.set_cons_succ]
  refine rtake 10 rfl (by rfl) (by kernel_rfl) (by kernel_rfl) (by kernel_rfl) (fun _ _ _ h => h) hHeld (fun wx hwx => by go_simp; try with_reducible rfl) ?_
  try simp only [Act.put, List.setIfInBounds_toArray, List.set_cons_zero, List.set_cons_succ]
  refine rtake 11 rfl (by rfl) (by kernel_rfl) (by kernel_rfl) (by kernel_rfl) (fun _ _ _ h => h) hHeld (fun wx hwx => by go_simp; try with_reducible rfl) ?_
  try simp only [Act.put, List.setIfInBounds_toArray, List.set_cons_zero, List.set_cons_succ]
  refine rtake 12 rfl (by rfl) (by kernel_rfl) (by kernel_rfl) (by kernel_rfl) (fun _ _ _ h => h) hHeld (fun wx hwx => by go_simp; try with_reducible rfl) ?_
  try simp only [Act.put, List.setIfInBounds_toArray, List.set_cons_zero, List.set_cons_succ]
  refine rtake 13 rfl (by rfl) (by kernel_rfl) (by kernel_rfl) (by kernel_rfl) (fun _ _ _ h => h) hHeld (fun wx hwx => exec_load_msg _ rfl w.heap.size rfl (msgL h r) _ (HBx.out wx (bnext hbW hwx)) Hlen.out) ?_
  try simp only [Act.put, List.setIfInBounds_toArray, List.set_cons_zero, List.set_cons_succ]
  refine rtake 15 rfl (by rfl) (by kernel_rfl) (by kernel_rfl) (by kernel_rfl) (fun _ _ _ h => h) hHeld (fun wx hwx => exec_load_msg _ rfl w.heap.size rfl (msgL h r) _ (HBx.out wx (bnext hbW hwx)) Hlen.out) ?_
  try simp only [Act.put, List.setIfInBounds_toArray, List.set_cons_zero, List.set_cons_succ]
  -- CALL 14: some 31 := Op.call { callee := Callee.value (Operand.func 12), args := #[Operand.tmp 30], argTypes := #[28] }
  refine rcall 14 rfl (by kernel_rfl) (by rfl) (fun K hK => ?_)
  go_simp
  refine (check_any h r _).mono ?_
  rintro e wx14 ⟨rfl, hbel⟩
  refine hK.out _ _ hbel ?_
  clear hK K
  refine wpAnyH_mono (S' := fun w' => Below wx14.heap.size wx14 w') (fun w' h => bnext hbel h) _ _ _ _ ?_
  have hH := Below.refl wx14.heap.size wx14
  have hW := bnext hbW hbel
  clear hbel hbW hHeld
  have hHeld := hH
  have hbW := hW
  clear hH hW
  have hsz14 := hbW.size
  replace hcC := fun wx h => HC.out wx (bnext hbW h)
  try simp only [Act.put, List.setIfInBounds_toArray, List.set_cons_zero, List.set_cons_succ]
  -- CALL 16: some 33 := Op.call { callee := Callee.value (Operand.func 13), args := #[Operand.tmp 32], argTypes := #[28] }
  refine rcall 16 rfl (by kernel_rfl) (by rfl) (fun K hK => ?_)
  go_simp
  refine (refCheck_any h r _).mono ?_
  rintro e wx16 ⟨rfl, hbel⟩
  refine hK.out _ _ hbel ?_
  clear hK K
  refine wpAnyH_mono (S' := fun w' => Below wx16.heap.size wx16 w') (fun w' h => bnext hbel h) _ _ _ _ ?_
  have hH := Below.refl wx16.heap.size wx16
  have hW := bnext hbW hbel
  clear hbel hbW hHeld
  have hHeld := hH
  have hbW := hW
  clear hH hW
  have hsz16 := hbW.size
  replace hcC := fun wx h => HC.out wx (bnext hbW h)
  try simp only [Act.put, List.setIfInBounds_toArray, List.set_cons_zero, List.set_cons_succ]
  refine rtake 17 rfl (by rfl) (by kernel_rfl) (by kernel_rfl) (by kernel_rfl) (fun _ _ _ h => h) hHeld (fun wx hwx => by go_simp; try with_reducible rfl) ?_
  try simp only [Act.put, List.setIfInBounds_toArray, List.set_cons_zero, List.set_cons_succ]
  refine rtake 18 rfl (by rfl) (by kernel_rfl) (by kernel_rfl) (by kernel_rfl) (fun _ _ _ h => h) hHeld (fun wx hwx => by go_simp; try with_reducible rfl) ?_
  try simp only [Act.put, List.setIfInBounds_toArray, List.set_cons_zero, List.set_cons_succ]
  refine rtake 19 rfl (by rfl) (by kernel_rfl) (by kernel_rfl) (by kernel_rfl) (fun _ _ _ h => h) hHeld (fun wx hwx => by go_simp; try with_reducible rfl) ?_
  try simp only [Act.put, List.setIfInBounds_toArray, List.set_cons_zero, List.set_cons_succ]
  refine rtake 20 rfl (by rfl) (by kernel_rfl) (by kernel_rfl) (by kernel_rfl) (fun _ _ _ h => h) hHeld (fun wx hwx => by go_simp; try with_reducible rfl) ?_
  try simp only [Act.put, List.setIfInBounds_toArray, List.set_cons_zero, List.set_cons_succ]
  refine rtake 21 rfl (by rfl) (by kernel_rfl) (by kernel_rfl) (by kernel_rfl) (fun _ _ _ h => h) hHeld (fun wx hwx => by go_simp; try with_reducible rfl) ?_
  try simp only [Act.put, List.setIfInBounds_toArray, List.set_cons_zero, List.set_cons_succ]
  refine rtake 23 rfl (by rfl) (by kernel_rfl) (by kernel_rfl) (by kernel_rfl) (fun _ _ _ h => h) hHeld (fun wx hwx => by go_simp; try with_reducible rfl) ?_
  try simp only [Act.put, List.setIfInBounds_toArray, List.set_cons_zero, List.set_cons_succ]
  refine rtake 24 rfl (by rfl) (by kernel_rfl) (by kernel_rfl) (by kernel_rfl) (fun _ _ _ h => h) hHeld (fun wx hwx => by go_simp; try with_reducible rfl) ?_
  try simp only [Act.put, List.setIfInBounds_toArray, List.set_cons_zero, List.set_cons_succ]
  -- CALL 22: some 39 := Op.call { callee := Callee.value (Operand.func 14), args := #[Operand.tmp 38], argTypes := #[3] }
  refine rcall 22 rfl (by kernel_rfl) (by rfl) (fun K hK => ?_)
  go_simp
  refine (known_any _ _).mono ?_
  rintro e wx22 ⟨rfl, rfl⟩
  refine hK.out _ _ hHeld ?_
  clear hK K
  try simp only [Act.put, List.setIfInBounds_toArray, List.set_cons_zero, List.set_cons_succ]
  -- CALL 25: some 42 := Op.call { callee := Callee.value (Operand.func 15), args := #[Operand.tmp 41], argTypes := #[3] }
  refine rcall 25 rfl (by kernel_rfl) (by rfl) (fun K hK => ?_)
  go_simp
  refine (refKnown_any _ _).mono ?_
  rintro e wx25 ⟨rfl, rfl⟩
  refine hK.out _ _ hHeld ?_
  clear hK K
  try simp only [Act.put, List.setIfInBounds_toArray, List.set_cons_zero, List.set_cons_succ]
  refine rtake 26 rfl (by rfl) (by kernel_rfl) (by kernel_rfl) (by kernel_rfl) (fun _ _ _ h => h) hHeld (fun wx hwx => by go_simp; try with_reducible rfl) ?_
  try simp only [Act.put, List.setIfInBounds_toArray, List.set_cons_zero, List.set_cons_succ]
  refine rtake 27 rfl (by rfl) (by kernel_rfl) (by kernel_rfl) (by kernel_rfl) (fun _ _ _ h => h) hHeld (fun wx hwx => by go_simp; try with_reducible rfl) ?_
  try simp only [Act.put, List.setIfInBounds_toArray, List.set_cons_zero, List.set_cons_succ]
  refine rtake 28 rfl (by rfl) (by kernel_rfl) (by kernel_rfl) (by kernel_rfl) (fun _ _ _ h => h) hHeld (fun wx hwx => by go_simp; try with_reducible rfl) ?_
  try simp only [Act.put, List.setIfInBounds_toArray, List.set_cons_zero, List.set_cons_succ]
  -- CALL 29: some 46 := Op.call { callee := Callee.value (Operand.func 16), args := #[], argTypes := #[] }
  refine rcall 29 rfl (by kernel_rfl) (by rfl) (fun K hK => ?_)
  go_simp
  refine (awake06_any _).mono ?_
  rintro e wx29 ⟨rfl, hbel⟩
  refine hK.out _ _ hbel ?_
  clear hK K
  refine wpAnyH_mono (S' := fun w' => Below wx29.heap.size wx29 w') (fun w' h => bnext hbel h) _ _ _ _ ?_
  have hH := Below.refl wx29.heap.size wx29
  have hW := bnext hbW hbel
  clear hbel hbW hHeld
  have hHeld := hH
  have hbW := hW
  clear hH hW
  have hsz29 := hbW.size
  replace hcC := fun wx h => HC.out wx (bnext hbW h)
  try simp only [Act.put, List.setIfInBounds_toArray, List.set_cons_zero, List.set_cons_succ]
  refine rtake 30 rfl (by rfl) (by kernel_rfl) (by kernel_rfl) (by kernel_rfl) (fun _ _ _ h => h) hHeld (fun wx hwx => by go_simp; try with_reducible rfl) ?_
  try simp only [Act.put, List.setIfInBounds_toArray, List.set_cons_zero, List.set_cons_succ]
  refine rtake 31 rfl (by rfl) (by kernel_rfl) (by kernel_rfl) (by kernel_rfl) (fun _ _ _ h => h) hHeld (fun wx hwx => by go_simp; try with_reducible rfl) ?_
  try simp only [Act.put, List.setIfInBounds_toArray, List.set_cons_zero, List.set_cons_succ]
  refine wpAnyH_done (by kernel_rfl) ?_ _
  -- END REGION putsyes
  go_wp2_with fail
  go_ret
  exact ⟨rfl, bnext hbw hbW⟩

theorem headerPuts_walk (h : Hd) (r : List Value) (hr : r.length = 15) (hok : HdOk h) (n : Int) (wn : (Lit.int .i64 n).wf = true) (w : World) :
    Calls Try.prog 3 #[.agg (msgL h r).toArray, .int .i64 n] w fun e w' => e = .returned (.bool true) ∧ Below w.heap.size w w' := by
  cases hp : putB h n
  · exact headerPuts_no h r n w hr hp
  · exact headerPuts_yes h r n w hr hok hp
end Go.Proofs.Ytomfpmoglamflaa
