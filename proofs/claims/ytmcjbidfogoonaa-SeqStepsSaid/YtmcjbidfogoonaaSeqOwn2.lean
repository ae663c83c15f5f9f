/- The program's own of chapter 16: Sync, Follow (gen_seqown.py). -/
import Derived.Test.YtmcjbidfogoonaaSeqOwn
namespace Go.Proofs.Ytmcjbidfogoonaa
open Go.RowKit Go.Proofs
set_option maxRecDepth 50000
set_option linter.unusedVariables false
set_option linter.unusedSimpArgs false

set_option maxRecDepth 100000 in
set_option maxHeartbeats 8000000 in
theorem ownSync : CSync MtR := by
  rintro g m x at' w ⟨xs, hB, ⟨a, b⟩, rfl, hs, hf⟩ hx
  have z0 := bnew w (Obj.cells (msK.enc x).toArray 34)
  have hX := Box.new w (msK.enc x) 34
  have hb := z0
  clear z0
  have hgl := hB.lt
  replace hB := hB.below hb
  have n_hB_hX : g ≠ w.heap.size := by omega
  go_enter Try.func16, Try.ntmps16
  go_upto_region 1 with fail
  change Code.wp Try.prog _ _ _ (w.alloc (Obj.cells (msK.enc x).toArray 34))
  generalize (w.alloc (Obj.cells (msK.enc x).toArray 34)) = W at *
  generalize hG : w.heap.size = G at *
  rw [← hG] at hb
  have l_hX : w.heap.size ≤ G := by omega
  refine wp_scope_hop2 (fun _ _ d _ _ h => by cases d <;> exact h) ?_
  intro Q' hret hgo hpan
  go_wp2_with (guard_target =~ wpList _ _ _ (⟨some 11, _, _, _, _, _⟩ :: _) _ _; refine msT.load (op := ⟨some 11, .load _ _, _, _, _, _⟩) (by rfl) _ (by rfl) G 0 (by rfl) (x) hX.rangeK ?_)
  refine (wait_any x (at') W).mono ?_
  rintro e w1 ⟨rfl, bq⟩
  replace hX := hX.below bq
  replace hB := hB.below bq
  replace hb := bnext hb bq
  clear bq
  have hn1 := bnew w1 (Obj.cells (hfK.enc (zeroHf)).toArray 54)
  have hM0 := Box.new w1 (hfK.enc (zeroHf)) 54
  go_upto_region 2 with (guard_target =~ wpList _ _ _ (⟨none, _, _, _, _, _⟩ :: _) _ _; refine hfT.store (op := ⟨none, .store _ _ _, _, _, _, _⟩) (by rfl) _ _ (by rfl) (w1.heap.size) (waitH x at') (zeroHf) _ (by rfl) (by rfl) hM0 ?_)
  have n_hX_hH : G ≠ w1.heap.size := by have h1 := hX.lt; have h2 := Nat.le_refl w1.heap.size; omega
  have n_hB_hH : g ≠ w1.heap.size := by have h1 := hB.lt; have h2 := Nat.le_refl w1.heap.size; omega
  have l_hH : w.heap.size ≤ w1.heap.size := Nat.le_trans hb.size (Nat.le_refl w1.heap.size)
  have hH := hM0.rowK (hfK.enc (waitH x at'))
  replace hX := (hX.below hn1).rowK_other (k := w1.heap.size) n_hX_hH (hfK.enc (waitH x at')).toArray
  replace hB := (hB.below hn1).rowK_other (k := w1.heap.size) n_hB_hH (hfK.enc (waitH x at')).toArray
  have hW := below_setRow hn1 (Nat.le_refl _) (hfK.enc (waitH x at')).toArray
  replace hb := bnext hb hW
  change Code.wp Try.prog _ _ _ ((w1.alloc (Obj.cells (hfK.enc (zeroHf)).toArray 54)).setRow w1.heap.size (hfK.enc (waitH x at')).toArray)
  generalize (w1.alloc (Obj.cells (hfK.enc (zeroHf)).toArray 54)).setRow w1.heap.size (hfK.enc (waitH x at')).toArray = w2 at *
  clear hn1 hM0 hW
  generalize w1.heap.size = gh at *
  have ho : Only g w w2 := Only.of_below g hb
  have x0 := hX.cell 0 _ rfl
  have x2 := hX.cell 2 _ rfl
  have x3 := hX.cell 3 _ rfl
  have x8 := hX.cell 8 _ rfl
  clear hX
  by_cases hty : x.1.ty = 0
  case neg =>
    have hn : (x.1.ty == 0) = false := beq_false_of_ne hty
    have e1 := hid (show syncS m x at' = m by simp [syncS, hty])
    have e2 := hid (show syncD m x at' = 0 by simp [syncD, hty])
    have e3 := hid (show syncB m x = false by simp [syncB, hty])
    go_wp2_with fail
    go_step3
    refine hgo 0 _ _ _ rfl ?_
    go_wp2_with fail
    rw [Exit.noGoto_ret]
    go_ret2
    rw [e1.out]
    exact ⟨by rw [e2.out, e3.out] <;> rfl, ⟨_, hB, (a, b), rfl, hs, hf⟩, ho⟩
  rw [hty] at x0
  by_cases h2 : twoB x.1.fl = false
  · have h2b : bits .and .i64 x.1.fl 512 = 0 := by simpa [twoB] using h2
    obtain ⟨e1, e2, e3⟩ := sync_one (m := m) (at' := at') hty h2
    replace e1 := hid e1
    replace e2 := hid e2
    replace e3 := hid e3
    go_wp2_with fail
    refine (difference_any _ _ _ _ hx.2.2.1 hx.2.2.2).mono ?_
    rintro e wy ⟨rfl, rfl⟩
    go_wp2_with fail
    go_step3
    refine hgo 0 _ _ _ rfl ?_
    go_wp2_with fail
    rw [Exit.noGoto_ret]
    go_ret2
    rw [e1.out]
    exact ⟨by rw [e2.out, e3.out] <;> rfl, ⟨_, hB, (a, b), rfl, hs, hf⟩, ho⟩
  have h2t : twoB x.1.fl = true := by cases h : twoB x.1.fl; exact absurd h h2; rfl
  have h2b : (bits .and .i64 x.1.fl 512 == 0) = false := by simpa [twoB] using h2t
  go_upto_region 6 with fail
  clear x0 x2 x3 x8
  refine wp_region_held_drew (S := fun w' => Below w2.drew.heap.size w2.drew w') (by kernel_rfl) (Below.refl _ _) ?_
  intro hHeld
  have hbd := Below.drew (Below.refl w2.heap.size w2)
  replace ho := ho.next hbd
  replace hB := hB.below hbd
  replace hH := hH.below hbd
  clear hbd hb
  generalize w2.drew = WD at *
  refine rtake 0 rfl (by rfl) (by kernel_rfl) (by kernel_rfl) (by kernel_rfl) (fun c a w h => hpan c a _ _ w h) hHeld (fun wx hwx => by go_simp; try with_reducible rfl) ?_
  try simp only [Act.put, List.setIfInBounds_toArray, List.set_cons_zero, List.set_cons_succ]
  refine rtake 1 rfl (by rfl) (by kernel_rfl) (by kernel_rfl) (by kernel_rfl) (fun c a w h => hpan c a _ _ w h) hHeld (fun wx hwx => by go_simp; try with_reducible rfl) ?_
  try simp only [Act.put, List.setIfInBounds_toArray, List.set_cons_zero, List.set_cons_succ]
  refine rtake 2 rfl (by rfl) (by kernel_rfl) (by kernel_rfl) (by kernel_rfl) (fun c a w h => hpan c a _ _ w h) hHeld (fun wx hwx => by go_simp; try with_reducible rfl) ?_
  try simp only [Act.put, List.setIfInBounds_toArray, List.set_cons_zero, List.set_cons_succ]
  refine rtake 3 rfl (by rfl) (by kernel_rfl) (by kernel_rfl) (by kernel_rfl) (fun c a w h => hpan c a _ _ w h) hHeld (fun wx hwx => by exact hfT.exec (op := ⟨some 30, .load _ _, _, _, _, _⟩) _ rfl g 6 rfl b ((hB.below hwx).right)) ?_
  try simp only [Act.put, List.setIfInBounds_toArray, List.set_cons_zero, List.set_cons_succ]
  refine rtake 4 rfl (by rfl) (by kernel_rfl) (by kernel_rfl) (by kernel_rfl) (fun c a w h => hpan c a _ _ w h) hHeld (fun wx hwx => by exact hfT.exec (op := ⟨some 31, .load _ _, _, _, _, _⟩) _ rfl gh 0 rfl (waitH x at') ((hH.below hwx).rangeK)) ?_
  try simp only [Act.put, List.setIfInBounds_toArray, List.set_cons_zero, List.set_cons_succ]
  refine rcall 5 rfl (by kernel_rfl) (by rfl) (fun K' hK => ?_)
  go_simp
  refine (meets_any b (waitH x at') _).mono ?_
  rintro e wy ⟨rfl, bq⟩
  replace hHeld := bnext hHeld bq
  refine hK.out _ _ hHeld ?_
  clear hK K' bq
  try simp only [Act.put, List.setIfInBounds_toArray, List.set_cons_zero, List.set_cons_succ]
  refine rtake 6 rfl (by rfl) (by kernel_rfl) (by kernel_rfl) (by kernel_rfl) (fun c a w h => hpan c a _ _ w h) hHeld (fun wx hwx => by go_simp; try with_reducible rfl) ?_
  try simp only [Act.put, List.setIfInBounds_toArray, List.set_cons_zero, List.set_cons_succ]
  refine wpAnyH_done (by kernel_rfl) ?_ _
  replace ho := ho.next hHeld
  replace hB := hB.below hHeld
  replace hH := hH.below hHeld
  clear hHeld
  cases hm : meetB b (waitH x at')
  · rw [show (!false) = true from rfl]
    have hB1 : Box (wy.setCells g 0 (hfK.enc (waitH x at'))) g (mtK.enc (waitH x at', b)) 56 := Box.mid (hfL (waitH x at')) (hfL a) [] (hfL b) wy rfl hB
    replace hB1 := hid hB1
    have ho1 := hid (Only.cells (hfK.enc (waitH x at')) 0 wy ho)
    obtain ⟨e1, e2, e3⟩ := says_sync_no hty h2t hf hm
    replace e1 := hid e1
    replace e2 := hid e2
    replace e3 := hid e3
    clear hm
    go_wp2_with (first | (guard_target =~ wpList _ _ _ (⟨some 35, _, _, _, _, _⟩ :: _) _ _; refine hfT.load (op := ⟨some 35, .load _ _, _, _, _, _⟩) (by rfl) _ (by rfl) gh 0 (by rfl) (waitH x at') hH.rangeK ?_) | (guard_target =~ wpList _ _ _ (⟨none, _, _, _, _, _⟩ :: _) _ _; refine hfT.store_mid (op := ⟨none, .store _ _ _, _, _, _, _⟩) (by rfl) _ _ (by rfl) g 0 (waitH x at') _ _ (by rfl) (by rfl) hB (by rw [mtK.len]; decide) ?_))
    go_step3
    refine hgo 0 _ _ _ rfl ?_
    go_wp2_with fail
    rw [Exit.noGoto_ret]
    go_ret2
    rw [e1.out]
    exact ⟨by rw [e2.out, e3.out] <;> rfl, ⟨_, hB1.out, (waitH x at', b), rfl, ⟨rfl, hx⟩, hf⟩, ho1.out⟩
  · rw [show (!true) = false from rfl]
    obtain ⟨e1, e2, e3, e4⟩ := says_sync_yes hty h2t hf hm
    replace e1 := hid e1
    replace e2 := hid e2
    replace e3 := hid e3
    clear hm
    go_upto_region 8 with fail
    refine wp_region_held_drew (S := fun _ => True) (by kernel_rfl) trivial ?_
    intro hHeld
    have hbd := Below.drew (Below.refl wy.heap.size wy)
    replace ho := ho.next hbd
    replace hB := hB.below hbd
    replace hH := hH.below hbd
    clear hbd
    generalize wy.drew = WE at *
    refine rtake 0 rfl (by rfl) (by kernel_rfl) (by kernel_rfl) (by kernel_rfl) (fun c a w h => hpan c a _ _ w h) trivial (fun wx hwx => by go_simp; try with_reducible rfl) ?_
    try simp only [Act.put, List.setIfInBounds_toArray, List.set_cons_zero, List.set_cons_succ]
    refine rtake 2 rfl (by rfl) (by kernel_rfl) (by kernel_rfl) (by kernel_rfl) (fun c a w h => hpan c a _ _ w h) trivial (fun wx hwx => by go_simp; try with_reducible rfl) ?_
    try simp only [Act.put, List.setIfInBounds_toArray, List.set_cons_zero, List.set_cons_succ]
    refine rtake 3 rfl (by rfl) (by kernel_rfl) (by kernel_rfl) (by kernel_rfl) (fun c a w h => hpan c a _ _ w h) trivial (fun wx hwx => by go_simp; try with_reducible rfl) ?_
    try simp only [Act.put, List.setIfInBounds_toArray, List.set_cons_zero, List.set_cons_succ]
    refine rtake 4 rfl (by rfl) (by kernel_rfl) (by kernel_rfl) (by kernel_rfl) (fun c a w h => hpan c a _ _ w h) trivial (fun wx hwx => by go_simp; try with_reducible rfl) ?_
    try simp only [Act.put, List.setIfInBounds_toArray, List.set_cons_zero, List.set_cons_succ]
    refine rtwo 1 5 rfl rfl (by kernel_rfl) (by rfl) (by rfl) (fun K' hK => ?_) (fun K' hK => ?_)
    · refine op_load_k hfT (op := ⟨some 39, .load _ _, _, _, _, _⟩) _ rfl gh 0 rfl (waitH x at') hH.rangeK ?_
      refine hK.out _ _ trivial ?_
      clear hK K'
      try simp only [Act.put, List.setIfInBounds_toArray, List.set_cons_zero, List.set_cons_succ]
      refine rcall 5 rfl (by kernel_rfl) (by rfl) (fun K' hK => ?_)
      refine op_load_k hfT (op := ⟨some 43, .load _ _, _, _, _, _⟩) _ rfl g 6 rfl b hB.right ?_
      refine hK.out _ _ trivial ?_
      clear hK K'
      try simp only [Act.put, List.setIfInBounds_toArray, List.set_cons_zero, List.set_cons_succ]
      refine rcall 6 rfl (by kernel_rfl) (by rfl) (fun K' hK => ?_)
      go_simp
      refine (join_any g (a, b) (waitH x at') b WE hB hx.2.2 e4).mono ?_
      rintro e wz ⟨rfl, hB2, oq⟩
      replace ho := ho.trans oq
      refine hK.out _ _ trivial ?_
      clear hK K' oq
      try simp only [Act.put, List.setIfInBounds_toArray, List.set_cons_zero, List.set_cons_succ]
      refine rtake 7 rfl (by rfl) (by kernel_rfl) (by kernel_rfl) (by kernel_rfl) (fun c a w h => hpan c a _ _ w h) trivial (fun wx hwx => by go_simp; try with_reducible rfl) ?_
      try simp only [Act.put, List.setIfInBounds_toArray, List.set_cons_zero, List.set_cons_succ]
      refine rtake 8 rfl (by rfl) (by kernel_rfl) (by kernel_rfl) (by kernel_rfl) (fun c a w h => hpan c a _ _ w h) trivial (fun wx hwx => by go_simp; try with_reducible rfl) ?_
      try simp only [Act.put, List.setIfInBounds_toArray, List.set_cons_zero, List.set_cons_succ]
      refine wpAnyH_done (by kernel_rfl) ?_ _
      go_wp2_with fail
      refine wp_label ?_
      go_wp2_with fail
      refine hret _ _ ?_
      go_ret2
      rw [e1.out]
      exact ⟨by rw [e2.out, e3.out] <;> rfl, mt_none hB2, ho⟩
    · refine op_load_k hfT (op := ⟨some 43, .load _ _, _, _, _, _⟩) _ rfl g 6 rfl b hB.right ?_
      refine hK.out _ _ trivial ?_
      clear hK K'
      try simp only [Act.put, List.setIfInBounds_toArray, List.set_cons_zero, List.set_cons_succ]
      refine rcall 1 rfl (by kernel_rfl) (by rfl) (fun K' hK => ?_)
      refine op_load_k hfT (op := ⟨some 39, .load _ _, _, _, _, _⟩) _ rfl gh 0 rfl (waitH x at') hH.rangeK ?_
      refine hK.out _ _ trivial ?_
      clear hK K'
      try simp only [Act.put, List.setIfInBounds_toArray, List.set_cons_zero, List.set_cons_succ]
      refine rcall 6 rfl (by kernel_rfl) (by rfl) (fun K' hK => ?_)
      go_simp
      refine (join_any g (a, b) (waitH x at') b WE hB hx.2.2 e4).mono ?_
      rintro e wz ⟨rfl, hB2, oq⟩
      replace ho := ho.trans oq
      refine hK.out _ _ trivial ?_
      clear hK K' oq
      try simp only [Act.put, List.setIfInBounds_toArray, List.set_cons_zero, List.set_cons_succ]
      refine rtake 7 rfl (by rfl) (by kernel_rfl) (by kernel_rfl) (by kernel_rfl) (fun c a w h => hpan c a _ _ w h) trivial (fun wx hwx => by go_simp; try with_reducible rfl) ?_
      try simp only [Act.put, List.setIfInBounds_toArray, List.set_cons_zero, List.set_cons_succ]
      refine rtake 8 rfl (by rfl) (by kernel_rfl) (by kernel_rfl) (by kernel_rfl) (fun c a w h => hpan c a _ _ w h) trivial (fun wx hwx => by go_simp; try with_reducible rfl) ?_
      try simp only [Act.put, List.setIfInBounds_toArray, List.set_cons_zero, List.set_cons_succ]
      refine wpAnyH_done (by kernel_rfl) ?_ _
      go_wp2_with fail
      refine wp_label ?_
      go_wp2_with fail
      refine hret _ _ ?_
      go_ret2
      rw [e1.out]
      exact ⟨by rw [e2.out, e3.out] <;> rfl, mt_none hB2, ho⟩

set_option maxRecDepth 100000 in
set_option maxHeartbeats 8000000 in
theorem ownFoll : CFoll MtR := by
  rintro g m x w ⟨xs, hB, ⟨a, b⟩, rfl, hs, hf⟩ hx
  have z0 := bnew w (Obj.cells (msK.enc x).toArray 34)
  have hX := Box.new w (msK.enc x) 34
  have hb := z0
  clear z0
  have hgl := hB.lt
  replace hB := hB.below hb
  have n_hB_hX : g ≠ w.heap.size := by omega
  go_enter Try.func18, Try.ntmps18
  go_upto_region 1 with fail
  change Code.wp Try.prog _ _ _ (w.alloc (Obj.cells (msK.enc x).toArray 34))
  generalize (w.alloc (Obj.cells (msK.enc x).toArray 34)) = W at *
  generalize hG : w.heap.size = G at *
  rw [← hG] at hb
  have l_hX : w.heap.size ≤ G := by omega
  refine wp_scope_hop2 (fun _ _ d _ _ h => by cases d <;> exact h) ?_
  intro Q' hret hgo hpan
  have x8 := hX.cell 8 _ rfl
  go_wp2_with (guard_target =~ wpList _ _ _ (⟨some 9, _, _, _, _, _⟩ :: _) _ _; refine msT.load (op := ⟨some 9, .load _ _, _, _, _, _⟩) (by rfl) _ (by rfl) G 0 (by rfl) (x) hX.rangeK ?_)
  clear x8
  refine (wait_any x (x.2.st) W).mono ?_
  rintro e w1 ⟨rfl, bq⟩
  replace hX := hX.below bq
  replace hB := hB.below bq
  replace hb := bnext hb bq
  clear bq
  have hn1 := bnew w1 (Obj.cells (hfK.enc (zeroHf)).toArray 54)
  have hM0 := Box.new w1 (hfK.enc (zeroHf)) 54
  go_upto_region 2 with (guard_target =~ wpList _ _ _ (⟨none, _, _, _, _, _⟩ :: _) _ _; refine hfT.store (op := ⟨none, .store _ _ _, _, _, _, _⟩) (by rfl) _ _ (by rfl) (w1.heap.size) (waitH x x.2.st) (zeroHf) _ (by rfl) (by rfl) hM0 ?_)
  have n_hX_hH : G ≠ w1.heap.size := by have h1 := hX.lt; have h2 := Nat.le_refl w1.heap.size; omega
  have n_hB_hH : g ≠ w1.heap.size := by have h1 := hB.lt; have h2 := Nat.le_refl w1.heap.size; omega
  have l_hH : w.heap.size ≤ w1.heap.size := Nat.le_trans hb.size (Nat.le_refl w1.heap.size)
  have hH := hM0.rowK (hfK.enc (waitH x x.2.st))
  replace hX := (hX.below hn1).rowK_other (k := w1.heap.size) n_hX_hH (hfK.enc (waitH x x.2.st)).toArray
  replace hB := (hB.below hn1).rowK_other (k := w1.heap.size) n_hB_hH (hfK.enc (waitH x x.2.st)).toArray
  have hW := below_setRow hn1 (Nat.le_refl _) (hfK.enc (waitH x x.2.st)).toArray
  replace hb := bnext hb hW
  change Code.wp Try.prog _ _ _ ((w1.alloc (Obj.cells (hfK.enc (zeroHf)).toArray 54)).setRow w1.heap.size (hfK.enc (waitH x x.2.st)).toArray)
  generalize (w1.alloc (Obj.cells (hfK.enc (zeroHf)).toArray 54)).setRow w1.heap.size (hfK.enc (waitH x x.2.st)).toArray = w2 at *
  clear hn1 hM0 hW
  generalize w1.heap.size = gh at *
  have ho : Only g w w2 := Only.of_below g hb
  have x0 := hX.cell 0 _ rfl
  clear hX
  by_cases hty : x.1.ty = 8
  case neg =>
    have hn : (x.1.ty == 8) = false := beq_false_of_ne hty
    have e1 := hid (show follS m x = m by simp [follS, hty])
    have e2 := hid (show follD m x = 0 by simp [follD, hty])
    have e3 := hid (show follB m x = false by simp [follB, hty])
    go_wp2_with fail
    go_step3
    refine hgo 0 _ _ _ rfl ?_
    go_wp2_with fail
    rw [Exit.noGoto_ret]
    go_ret2
    rw [e1.out]
    exact ⟨by rw [e2.out, e3.out] <;> rfl, ⟨_, hB, (a, b), rfl, hs, hf⟩, ho⟩
  rw [hty] at x0
  go_upto_region 4 with fail
  clear x0
  refine wp_region_held_drew (S := fun w' => Below w2.drew.heap.size w2.drew w') (by kernel_rfl) (Below.refl _ _) ?_
  intro hHeld
  have hbd := Below.drew (Below.refl w2.heap.size w2)
  replace ho := ho.next hbd
  replace hB := hB.below hbd
  replace hH := hH.below hbd
  clear hbd hb
  generalize w2.drew = WD at *
  refine rtake 0 rfl (by rfl) (by kernel_rfl) (by kernel_rfl) (by kernel_rfl) (fun c a w h => hpan c a _ _ w h) hHeld (fun wx hwx => by go_simp; try with_reducible rfl) ?_
  try simp only [Act.put, List.setIfInBounds_toArray, List.set_cons_zero, List.set_cons_succ]
  refine rtake 1 rfl (by rfl) (by kernel_rfl) (by kernel_rfl) (by kernel_rfl) (fun c a w h => hpan c a _ _ w h) hHeld (fun wx hwx => by go_simp; try with_reducible rfl) ?_
  try simp only [Act.put, List.setIfInBounds_toArray, List.set_cons_zero, List.set_cons_succ]
  refine rtake 2 rfl (by rfl) (by kernel_rfl) (by kernel_rfl) (by kernel_rfl) (fun c a w h => hpan c a _ _ w h) hHeld (fun wx hwx => by go_simp; try with_reducible rfl) ?_
  try simp only [Act.put, List.setIfInBounds_toArray, List.set_cons_zero, List.set_cons_succ]
  refine rtake 3 rfl (by rfl) (by kernel_rfl) (by kernel_rfl) (by kernel_rfl) (fun c a w h => hpan c a _ _ w h) hHeld (fun wx hwx => by exact hfT.exec (op := ⟨some 19, .load _ _, _, _, _, _⟩) _ rfl g 0 rfl a ((hB.below hwx).left)) ?_
  try simp only [Act.put, List.setIfInBounds_toArray, List.set_cons_zero, List.set_cons_succ]
  refine rtake 4 rfl (by rfl) (by kernel_rfl) (by kernel_rfl) (by kernel_rfl) (fun c a w h => hpan c a _ _ w h) hHeld (fun wx hwx => by exact hfT.exec (op := ⟨some 20, .load _ _, _, _, _, _⟩) _ rfl gh 0 rfl (waitH x x.2.st) ((hH.below hwx).rangeK)) ?_
  try simp only [Act.put, List.setIfInBounds_toArray, List.set_cons_zero, List.set_cons_succ]
  refine rcall 5 rfl (by kernel_rfl) (by rfl) (fun K' hK => ?_)
  go_simp
  refine (meets_any a (waitH x x.2.st) _).mono ?_
  rintro e wy ⟨rfl, bq⟩
  replace hHeld := bnext hHeld bq
  refine hK.out _ _ hHeld ?_
  clear hK K' bq
  try simp only [Act.put, List.setIfInBounds_toArray, List.set_cons_zero, List.set_cons_succ]
  refine rtake 6 rfl (by rfl) (by kernel_rfl) (by kernel_rfl) (by kernel_rfl) (fun c a w h => hpan c a _ _ w h) hHeld (fun wx hwx => by go_simp; try with_reducible rfl) ?_
  try simp only [Act.put, List.setIfInBounds_toArray, List.set_cons_zero, List.set_cons_succ]
  refine wpAnyH_done (by kernel_rfl) ?_ _
  replace ho := ho.next hHeld
  replace hB := hB.below hHeld
  replace hH := hH.below hHeld
  clear hHeld
  cases hm : meetB a (waitH x x.2.st)
  · rw [show (!false) = true from rfl]
    have hB1 : Box (wy.setCells g 6 (hfK.enc (waitH x x.2.st))) g (mtK.enc (a, waitH x x.2.st)) 56 := by
      have h := Box.mid (hfL (waitH x x.2.st)) (hfL b) (hfL a) [] wy rfl (by rw [List.append_nil]; exact hB)
      rw [List.append_nil] at h
      exact h
    replace hB1 := hid hB1
    have ho1 := hid (Only.cells (hfK.enc (waitH x x.2.st)) 6 wy ho)
    obtain ⟨e1, e2, e3⟩ := says_foll_no hty hs hm
    replace e1 := hid e1
    replace e2 := hid e2
    replace e3 := hid e3
    clear hm
    go_wp2_with (first | (guard_target =~ wpList _ _ _ (⟨some 24, _, _, _, _, _⟩ :: _) _ _; refine hfT.load (op := ⟨some 24, .load _ _, _, _, _, _⟩) (by rfl) _ (by rfl) gh 0 (by rfl) (waitH x x.2.st) hH.rangeK ?_) | (guard_target =~ wpList _ _ _ (⟨none, _, _, _, _, _⟩ :: _) _ _; refine hfT.store_mid (op := ⟨none, .store _ _ _, _, _, _, _⟩) (by rfl) _ _ (by rfl) g 6 (waitH x x.2.st) _ _ (by rfl) (by rfl) hB (by rw [mtK.len]; decide) ?_))
    go_step3
    refine hgo 0 _ _ _ rfl ?_
    go_wp2_with fail
    rw [Exit.noGoto_ret]
    go_ret2
    rw [e1.out]
    exact ⟨by rw [e2.out, e3.out] <;> rfl, ⟨_, hB1.out, (a, waitH x x.2.st), rfl, hs, ⟨rfl, hx⟩⟩, ho1.out⟩
  · rw [show (!true) = false from rfl]
    obtain ⟨e1, e2, e3, e4⟩ := says_foll_yes hty hs hm
    replace e1 := hid e1
    replace e2 := hid e2
    replace e3 := hid e3
    clear hm
    go_upto_region 6 with fail
    refine wp_region_held_drew (S := fun _ => True) (by kernel_rfl) trivial ?_
    intro hHeld
    have hbd := Below.drew (Below.refl wy.heap.size wy)
    replace ho := ho.next hbd
    replace hB := hB.below hbd
    replace hH := hH.below hbd
    clear hbd
    generalize wy.drew = WE at *
    refine rtake 0 rfl (by rfl) (by kernel_rfl) (by kernel_rfl) (by kernel_rfl) (fun c a w h => hpan c a _ _ w h) trivial (fun wx hwx => by go_simp; try with_reducible rfl) ?_
    try simp only [Act.put, List.setIfInBounds_toArray, List.set_cons_zero, List.set_cons_succ]
    refine rtake 1 rfl (by rfl) (by kernel_rfl) (by kernel_rfl) (by kernel_rfl) (fun c a w h => hpan c a _ _ w h) trivial (fun wx hwx => by go_simp; try with_reducible rfl) ?_
    try simp only [Act.put, List.setIfInBounds_toArray, List.set_cons_zero, List.set_cons_succ]
    refine rtake 2 rfl (by rfl) (by kernel_rfl) (by kernel_rfl) (by kernel_rfl) (fun c a w h => hpan c a _ _ w h) trivial (fun wx hwx => by go_simp; try with_reducible rfl) ?_
    try simp only [Act.put, List.setIfInBounds_toArray, List.set_cons_zero, List.set_cons_succ]
    refine rtake 3 rfl (by rfl) (by kernel_rfl) (by kernel_rfl) (by kernel_rfl) (fun c a w h => hpan c a _ _ w h) trivial (fun wx hwx => by go_simp; try with_reducible rfl) ?_
    try simp only [Act.put, List.setIfInBounds_toArray, List.set_cons_zero, List.set_cons_succ]
    refine rtwo 4 5 rfl rfl (by kernel_rfl) (by rfl) (by rfl) (fun K' hK => ?_) (fun K' hK => ?_)
    · refine op_load_k hfT (op := ⟨some 31, .load _ _, _, _, _, _⟩) _ rfl g 0 rfl a hB.left ?_
      refine hK.out _ _ trivial ?_
      clear hK K'
      try simp only [Act.put, List.setIfInBounds_toArray, List.set_cons_zero, List.set_cons_succ]
      refine rcall 5 rfl (by kernel_rfl) (by rfl) (fun K' hK => ?_)
      refine op_load_k hfT (op := ⟨some 32, .load _ _, _, _, _, _⟩) _ rfl gh 0 rfl (waitH x x.2.st) hH.rangeK ?_
      refine hK.out _ _ trivial ?_
      clear hK K'
      try simp only [Act.put, List.setIfInBounds_toArray, List.set_cons_zero, List.set_cons_succ]
      refine rcall 6 rfl (by kernel_rfl) (by rfl) (fun K' hK => ?_)
      go_simp
      refine (join_any g (a, b) a (waitH x x.2.st) WE hB e4 hx.2.2).mono ?_
      rintro e wz ⟨rfl, hB2, oq⟩
      replace ho := ho.trans oq
      refine hK.out _ _ trivial ?_
      clear hK K' oq
      try simp only [Act.put, List.setIfInBounds_toArray, List.set_cons_zero, List.set_cons_succ]
      refine rtake 7 rfl (by rfl) (by kernel_rfl) (by kernel_rfl) (by kernel_rfl) (fun c a w h => hpan c a _ _ w h) trivial (fun wx hwx => by go_simp; try with_reducible rfl) ?_
      try simp only [Act.put, List.setIfInBounds_toArray, List.set_cons_zero, List.set_cons_succ]
      refine rtake 8 rfl (by rfl) (by kernel_rfl) (by kernel_rfl) (by kernel_rfl) (fun c a w h => hpan c a _ _ w h) trivial (fun wx hwx => by go_simp; try with_reducible rfl) ?_
      try simp only [Act.put, List.setIfInBounds_toArray, List.set_cons_zero, List.set_cons_succ]
      refine wpAnyH_done (by kernel_rfl) ?_ _
      go_wp2_with fail
      refine wp_label ?_
      go_wp2_with fail
      refine hret _ _ ?_
      go_ret2
      rw [e1.out]
      exact ⟨by rw [e2.out, e3.out] <;> rfl, mt_none hB2, ho⟩
    · refine op_load_k hfT (op := ⟨some 32, .load _ _, _, _, _, _⟩) _ rfl gh 0 rfl (waitH x x.2.st) hH.rangeK ?_
      refine hK.out _ _ trivial ?_
      clear hK K'
      try simp only [Act.put, List.setIfInBounds_toArray, List.set_cons_zero, List.set_cons_succ]
      refine rcall 4 rfl (by kernel_rfl) (by rfl) (fun K' hK => ?_)
      refine op_load_k hfT (op := ⟨some 31, .load _ _, _, _, _, _⟩) _ rfl g 0 rfl a hB.left ?_
      refine hK.out _ _ trivial ?_
      clear hK K'
      try simp only [Act.put, List.setIfInBounds_toArray, List.set_cons_zero, List.set_cons_succ]
      refine rcall 6 rfl (by kernel_rfl) (by rfl) (fun K' hK => ?_)
      go_simp
      refine (join_any g (a, b) a (waitH x x.2.st) WE hB e4 hx.2.2).mono ?_
      rintro e wz ⟨rfl, hB2, oq⟩
      replace ho := ho.trans oq
      refine hK.out _ _ trivial ?_
      clear hK K' oq
      try simp only [Act.put, List.setIfInBounds_toArray, List.set_cons_zero, List.set_cons_succ]
      refine rtake 7 rfl (by rfl) (by kernel_rfl) (by kernel_rfl) (by kernel_rfl) (fun c a w h => hpan c a _ _ w h) trivial (fun wx hwx => by go_simp; try with_reducible rfl) ?_
      try simp only [Act.put, List.setIfInBounds_toArray, List.set_cons_zero, List.set_cons_succ]
      refine rtake 8 rfl (by rfl) (by kernel_rfl) (by kernel_rfl) (by kernel_rfl) (fun c a w h => hpan c a _ _ w h) trivial (fun wx hwx => by go_simp; try with_reducible rfl) ?_
      try simp only [Act.put, List.setIfInBounds_toArray, List.set_cons_zero, List.set_cons_succ]
      refine wpAnyH_done (by kernel_rfl) ?_ _
      go_wp2_with fail
      refine wp_label ?_
      go_wp2_with fail
      refine hret _ _ ?_
      go_ret2
      rw [e1.out]
      exact ⟨by rw [e2.out, e3.out] <;> rfl, mt_none hB2, ho⟩

end Go.Proofs.Ytmcjbidfogoonaa
