/- The program's own of chapter 18: Response, Follow (gen_peeown.py). -/
import Derived.Test.YtelonfmmcpgodaaPeeOwn
namespace Go.Proofs.Ytelonfmmcpgodaa
open Go.RowKit Go.Proofs
set_option maxRecDepth 50000
set_option linter.unusedVariables false
set_option linter.unusedSimpArgs false

set_option maxRecDepth 100000 in
set_option maxHeartbeats 8000000 in
theorem ownResP : CResP EkR := by
  rintro g x m at' w ⟨xs, hB, q, rfl, hme, hdm, hst⟩ hm
  obtain ⟨me, dm, ⟨stp, sq, ta, b⟩⟩ := q
  obtain ⟨xme, xdm, out, went, held, sp⟩ := x
  change xme = me at hme
  change xdm = dm at hdm
  subst hme hdm
  change Stands stp sq ta b ⟨xme, xdm, out, went, held, sp⟩ at hst
  obtain ⟨x, hx⟩ : ∃ x : Ps, x = ⟨xme, xdm, out, went, held, sp⟩ := ⟨_, rfl⟩
  rw [← hx] at hst ⊢
  have hme : x.me = xme := by rw [hx]
  have hdm : x.dm = xdm := by rw [hx]
  clear hx out went held sp
  have hgl := hB.lt
  have hb := bnew w (Obj.cells (msK.enc m).toArray 31)
  have hX := Box.new w (msK.enc m) 31
  replace hB := hB.below hb
  have ho := Only.of_below g hb
  have hne : g ≠ w.heap.size := by omega
  go_enter Try.func10, Try.ntmps10
  go_upto_region 1 with fail
  change Code.wp Try.prog _ _ _ (w.alloc (Obj.cells (msK.enc m).toArray 31))
  generalize w.alloc (Obj.cells (msK.enc m).toArray 31) = W at *
  generalize w.heap.size = G at *
  refine wp_scope_hop2 (fun _ _ d _ _ h => by cases d <;> exact h) ?_
  intro Q' hret hgo hpan
  have x0 := hX.cell 0 _ rfl
  change W.cell? ⟨G, 0, none⟩ = some (.int .i64 m.1.ty) at x0
  by_cases hty : m.1.ty = 3
  case neg =>
    have n0 : (m.1.ty != 3) = true := by simp [hty]
    obtain ⟨e1, e2⟩ := pres_quiet (m := m) (at' := at') hst (.inl hty)
    have e3 := hid ((pres_me (x := x) (m := m) (at' := at')).1.trans hme)
    have e4 := hid ((pres_me (x := x) (m := m) (at' := at')).2.trans hdm)
    replace e1 := hid e1
    replace e2 := hid e2
    replace hst := hid hst
    replace hme := hid hme
    go_wp2_with fail
    go_step3
    refine hgo 0 _ _ _ rfl ?_
    go_wp2_with fail
    rw [Exit.noGoto_ret]
    go_ret
    exact ⟨ret_bool e1.out.symm, ⟨_, hB, ⟨xme, xdm, ⟨stp, sq, ta, b⟩⟩, rfl, e3.out, e4.out, e2.out⟩, ho⟩
  rw [hty] at x0
  go_wp2_with (guard_target =~ wpList _ _ _ (⟨some 13, _, _, _, _, _⟩ :: _) _ _; refine msT.load_g (op := ⟨some 13, .load _ _, _, _, _, _⟩) (by rfl) _ (by rfl) G 0 (by rfl) (m) hX.rangeK ?_)
  refine (asked_any g ⟨xme, xdm, ⟨stp, sq, ta, b⟩⟩ m _ hB).mono ?_
  rintro e W1 ⟨rfl, bq⟩
  replace hB := hB.below bq
  replace hX := hX.below bq
  replace ho := ho.next bq
  clear bq x0
  obtain ⟨A, hA⟩ : ∃ A, askB xme sq m = A := ⟨_, rfl⟩
  rw [hA]
  cases A
  case false =>
    obtain ⟨e1, e2⟩ := pres_quiet (m := m) (at' := at') hst (.inr (.inl (by rw [hme]; exact hA)))
    have e3 := hid ((pres_me (x := x) (m := m) (at' := at')).1.trans hme)
    have e4 := hid ((pres_me (x := x) (m := m) (at' := at')).2.trans hdm)
    replace e1 := hid e1
    replace e2 := hid e2
    replace hst := hid hst
    replace hme := hid hme
    clear hA
    go_wp2_with fail
    go_step3
    refine hgo 0 _ _ _ rfl ?_
    go_wp2_with fail
    rw [Exit.noGoto_ret]
    go_ret
    exact ⟨ret_bool e1.out.symm, ⟨_, hB, ⟨xme, xdm, ⟨stp, sq, ta, b⟩⟩, rfl, e3.out, e4.out, e2.out⟩, ho⟩
  have hA2 : askB x.me sq m = true := by rw [hme]; exact hA
  clear hA
  have c3 := hB.cell 3 _ rfl
  have f3 := hB.free 3
  change W1.cell? ⟨g, 3, none⟩ = some (.int .i64 stp) at c3
  by_cases h3 : stp = 3
  · rcases hst with ⟨h0, -⟩ | ⟨h0, -⟩ | ⟨h0, -⟩ | ⟨-, g1, g2, ⟨y, c, g3, -⟩, -⟩
    · omega
    · omega
    · omega
    rw [h3] at c3
    obtain ⟨e1, e2⟩ := pres_two (at' := at') g1 g2 ⟨_, g3⟩ hty hA2
    have e3 := hid ((pres_me (x := x) (m := m) (at' := at')).1.trans hme)
    have e4 := hid ((pres_me (x := x) (m := m) (at' := at')).2.trans hdm)
    replace e1 := hid e1
    replace e2 := hid e2
    clear g1 g2 g3 hA2 hme
    go_wp2_with fail
    refine (clearP_any g _ W1 hB).mono ?_
    rintro e W2 ⟨rfl, hB2, oq⟩
    replace ho := ho.trans oq
    replace hB := hB2
    clear c3 f3 oq
    go_wp2_with fail
    go_step3
    refine hgo 0 _ _ _ rfl ?_
    go_wp2_with fail
    rw [Exit.noGoto_ret]
    go_ret
    exact ⟨ret_bool e1.out.symm, ⟨_, hB, ⟨xme, xdm, ⟨0, 0, 0, zeroRk⟩⟩, rfl, e3.out, e4.out, e2.out⟩, ho⟩
  have n3 : (stp == 3) = false := beq_false_of_ne h3
  by_cases h2 : stp = 2
  case neg =>
    have n2 : (stp != 2) = true := by simp [h2]
    have h01 : stp = 0 ∨ stp = 1 := by
      rcases hst with ⟨h0, -⟩ | ⟨h0, -⟩ | ⟨h0, -⟩ | ⟨h0, -⟩ <;> omega
    obtain ⟨e1, e2⟩ := pres_quiet (m := m) (at' := at') hst (.inr (.inr h01))
    have e3 := hid ((pres_me (x := x) (m := m) (at' := at')).1.trans hme)
    have e4 := hid ((pres_me (x := x) (m := m) (at' := at')).2.trans hdm)
    replace e1 := hid e1
    replace e2 := hid e2
    replace hst := hid hst
    replace hme := hid hme
    clear hA2 h01
    go_wp2_with fail
    go_step3
    refine hgo 0 _ _ _ rfl ?_
    go_wp2_with fail
    rw [Exit.noGoto_ret]
    go_ret
    exact ⟨ret_bool e1.out.symm, ⟨_, hB, ⟨xme, xdm, ⟨stp, sq, ta, b⟩⟩, rfl, e3.out, e4.out, e2.out⟩, ho⟩
  rcases hst with ⟨h0, -⟩ | ⟨h0, -⟩ | ⟨-, g1, g2, g3, g4⟩ | ⟨h0, -⟩
  · omega
  · omega
  case inr.inr.inr => omega
  rw [h2] at c3
  clear h3 n3
  obtain ⟨e1, e2⟩ := pres_one (at' := at') g1 g2 g3 g4 hty hA2 hm
  have e3 := hid ((pres_me (x := x) (m := m) (at' := at')).1.trans hme)
  have e4 := hid ((pres_me (x := x) (m := m) (at' := at')).2.trans hdm)
  replace e1 := hid e1
  replace e2 := hid e2
  clear g1 g2 g3 g4 hA2 hme
  go_upto_region 7 with fail
  replace hB : Box (W1.setCell ⟨g, 3, none⟩ (.int .i64 3)) g (ekK.enc ⟨xme, xdm, ⟨3, sq, ta, b⟩⟩) 47 := hB.set 3 (.int .i64 3)
  replace hX := hX.other (Ne.symm hne) 3 (.int .i64 3)
  replace ho := ho.cell 3 (.int .i64 3)
  clear c3 f3
  generalize World.setCell _ _ _ = W2 at *
  refine wp_region_held_drew (S := fun w' => Box w' G (msK.enc m) 31 ∧ w'.cell? ⟨g, 5, none⟩ = some (.int .i64 ta)) (by kernel_rfl) ⟨hX.below (Below.drew (Below.refl _ _)), (hB.below (Below.drew (Below.refl _ _))).cell 5 _ rfl⟩ ?_
  intro hHeld
  have hbd := Below.drew (Below.refl W2.heap.size W2)
  replace ho := ho.next hbd
  replace hB := hB.below hbd
  clear hbd hX
  generalize W2.drew = WD at *
  refine rtake 0 rfl (by rfl) (by kernel_rfl) (by kernel_rfl) (by kernel_rfl) (fun c a w h => hpan c a _ _ w h) hHeld (fun wx hwx => by go_simp; try with_reducible rfl) ?_
  try simp only [Act.put, List.setIfInBounds_toArray, List.set_cons_zero, List.set_cons_succ]
  refine rtake 1 rfl (by rfl) (by kernel_rfl) (by kernel_rfl) (by kernel_rfl) (fun c a w h => hpan c a _ _ w h) hHeld (fun wx hwx => by go_simp; try with_reducible rfl) ?_
  try simp only [Act.put, List.setIfInBounds_toArray, List.set_cons_zero, List.set_cons_succ]
  refine rtake 2 rfl (by rfl) (by kernel_rfl) (by kernel_rfl) (by kernel_rfl) (fun c a w h => hpan c a _ _ w h) hHeld (fun wx hwx => by have q4 : wx.cell? ⟨G, 4, none⟩ = some (.int .u64 m.1.sc) := hwx.1.cell 4 _ rfl; have q5 : wx.cell? ⟨G, 5, none⟩ = some (.int .i64 m.1.sp) := hwx.1.cell 5 _ rfl; go_simp; try with_reducible rfl) ?_
  try simp only [Act.put, List.setIfInBounds_toArray, List.set_cons_zero, List.set_cons_succ]
  refine rtake 3 rfl (by rfl) (by kernel_rfl) (by kernel_rfl) (by kernel_rfl) (fun c a w h => hpan c a _ _ w h) hHeld (fun wx hwx => by go_simp; try with_reducible rfl) ?_
  try simp only [Act.put, List.setIfInBounds_toArray, List.set_cons_zero, List.set_cons_succ]
  refine rtake 4 rfl (by rfl) (by kernel_rfl) (by kernel_rfl) (by kernel_rfl) (fun c a w h => hpan c a _ _ w h) hHeld (fun wx hwx => by go_simp; try with_reducible rfl) ?_
  try simp only [Act.put, List.setIfInBounds_toArray, List.set_cons_zero, List.set_cons_succ]
  refine rtake 5 rfl (by rfl) (by kernel_rfl) (by kernel_rfl) (by kernel_rfl) (fun c a w h => hpan c a _ _ w h) hHeld (fun wx hwx => by go_simp; try with_reducible rfl) ?_
  try simp only [Act.put, List.setIfInBounds_toArray, List.set_cons_zero, List.set_cons_succ]
  refine rtake 6 rfl (by rfl) (by kernel_rfl) (by kernel_rfl) (by kernel_rfl) (fun c a w h => hpan c a _ _ w h) hHeld (fun wx hwx => by go_simp; try with_reducible rfl) ?_
  try simp only [Act.put, List.setIfInBounds_toArray, List.set_cons_zero, List.set_cons_succ]
  refine rtake 7 rfl (by rfl) (by kernel_rfl) (by kernel_rfl) (by kernel_rfl) (fun c a w h => hpan c a _ _ w h) hHeld (fun wx hwx => by go_simp; try with_reducible rfl) ?_
  try simp only [Act.put, List.setIfInBounds_toArray, List.set_cons_zero, List.set_cons_succ]
  refine rtake 8 rfl (by rfl) (by kernel_rfl) (by kernel_rfl) (by kernel_rfl) (fun c a w h => hpan c a _ _ w h) hHeld (fun wx hwx => by have q5 := hwx.2; go_simp; try with_reducible rfl) ?_
  try simp only [Act.put, List.setIfInBounds_toArray, List.set_cons_zero, List.set_cons_succ]
  refine rtake 9 rfl (by rfl) (by kernel_rfl) (by kernel_rfl) (by kernel_rfl) (fun c a w h => hpan c a _ _ w h) hHeld (fun wx hwx => by go_simp; try with_reducible rfl) ?_
  try simp only [Act.put, List.setIfInBounds_toArray, List.set_cons_zero, List.set_cons_succ]
  refine rtake 10 rfl (by rfl) (by kernel_rfl) (by kernel_rfl) (by kernel_rfl) (fun c a w h => hpan c a _ _ w h) hHeld (fun wx hwx => by go_simp; try with_reducible rfl) ?_
  try simp only [Act.put, List.setIfInBounds_toArray, List.set_cons_zero, List.set_cons_succ]
  refine rtake 11 rfl (by rfl) (by kernel_rfl) (by kernel_rfl) (by kernel_rfl) (fun c a w h => hpan c a _ _ w h) hHeld (fun wx hwx => by have q8 : wx.cell? ⟨G, 8, none⟩ = some (.int .i64 m.2.st) := hwx.1.cell 8 _ rfl; go_simp; try with_reducible rfl) ?_
  try simp only [Act.put, List.setIfInBounds_toArray, List.set_cons_zero, List.set_cons_succ]
  refine rtake 12 rfl (by rfl) (by kernel_rfl) (by kernel_rfl) (by kernel_rfl) (fun c a w h => hpan c a _ _ w h) hHeld (fun wx hwx => by go_simp; try with_reducible rfl) ?_
  try simp only [Act.put, List.setIfInBounds_toArray, List.set_cons_zero, List.set_cons_succ]
  refine rtake 13 rfl (by rfl) (by kernel_rfl) (by kernel_rfl) (by kernel_rfl) (fun c a w h => hpan c a _ _ w h) hHeld (fun wx hwx => by have q3 : wx.cell? ⟨G, 3, none⟩ = some (.int .i64 m.1.co) := hwx.1.cell 3 _ rfl; go_simp; try with_reducible rfl) ?_
  try simp only [Act.put, List.setIfInBounds_toArray, List.set_cons_zero, List.set_cons_succ]
  refine rtake 14 rfl (by rfl) (by kernel_rfl) (by kernel_rfl) (by kernel_rfl) (fun c a w h => hpan c a _ _ w h) hHeld (fun wx hwx => exec_build_any _ _ rfl _ rfl (rkK.enc ⟨m.1.sc, m.1.sp, IntKind.i64.wrap (at' - ta), m.2.st, m.1.co⟩).toArray (by kernel_rfl)) ?_
  try simp only [Act.put, List.setIfInBounds_toArray, List.set_cons_zero, List.set_cons_succ]
  refine rtake 15 rfl (by rfl) (by kernel_rfl) (by kernel_rfl) (by kernel_rfl) (fun c a w h => hpan c a _ _ w h) hHeld (fun wx hwx => by go_simp; try with_reducible rfl) ?_
  try simp only [Act.put, List.setIfInBounds_toArray, List.set_cons_zero, List.set_cons_succ]
  refine rtake 16 rfl (by rfl) (by kernel_rfl) (by kernel_rfl) (by kernel_rfl) (fun c a w h => hpan c a _ _ w h) hHeld (fun wx hwx => by go_simp; try with_reducible rfl) ?_
  try simp only [Act.put, List.setIfInBounds_toArray, List.set_cons_zero, List.set_cons_succ]
  refine rtake 17 rfl (by rfl) (by kernel_rfl) (by kernel_rfl) (by kernel_rfl) (fun c a w h => hpan c a _ _ w h) hHeld (fun wx hwx => by go_simp; try with_reducible rfl) ?_
  try simp only [Act.put, List.setIfInBounds_toArray, List.set_cons_zero, List.set_cons_succ]
  have hB2 := hB.setBack ⟨m.1.sc, m.1.sp, IntKind.i64.wrap (at' - ta), m.2.st, m.1.co⟩
  refine rcall 18 rfl (by kernel_rfl) (by rfl) (fun K' hK => ?_)
  refine wp_store_mid _ _ _ rfl g 6 (rkK.enc ⟨m.1.sc, m.1.sp, IntKind.i64.wrap (at' - ta), m.2.st, m.1.co⟩).toArray (by rfl) (by rfl) (hB.there 6 5 (by rw [ekK.len]; decide)) (by rw [rkT.size]; rfl) (all_oneCell_toArray (rkK.one _)) ?_
  refine hK.out _ _ ⟨Box.cells_other (Ne.symm hne) _ _ _ hHeld.1, hB2.cell 5 _ rfl⟩ ?_
  clear hK K' hHeld
  try simp only [Act.put, List.setIfInBounds_toArray, List.set_cons_zero, List.set_cons_succ]
  refine wpAnyH_done (by kernel_rfl) ?_ _
  replace ho := Only.cells (rkK.enc ⟨m.1.sc, m.1.sp, IntKind.i64.wrap (at' - ta), m.2.st, m.1.co⟩) 6 _ ho
  go_wp2_with fail
  refine wp_label ?_
  go_wp2_with fail
  refine hret _ _ ?_
  go_ret
  exact ⟨ret_bool e1.out.symm, ⟨_, hB2, _, rfl, e3.out, e4.out, e2.out⟩, ho⟩

set_option maxRecDepth 100000 in
set_option maxHeartbeats 8000000 in
theorem ownFolP : CFolP EkR := by
  rintro g x m w ⟨xs, hB, q, rfl, hme, hdm, hst⟩ hm
  obtain ⟨me, dm, ⟨stp, sq, ta, b⟩⟩ := q
  obtain ⟨xme, xdm, out, went, held, sp⟩ := x
  change xme = me at hme
  change xdm = dm at hdm
  subst hme hdm
  change Stands stp sq ta b ⟨xme, xdm, out, went, held, sp⟩ at hst
  obtain ⟨x, hx⟩ : ∃ x : Ps, x = ⟨xme, xdm, out, went, held, sp⟩ := ⟨_, rfl⟩
  rw [← hx] at hst ⊢
  have hme : x.me = xme := by rw [hx]
  have hdm : x.dm = xdm := by rw [hx]
  clear hx out went held sp
  have hgl := hB.lt
  have hb := bnew w (Obj.cells (msK.enc m).toArray 31)
  have hX := Box.new w (msK.enc m) 31
  replace hB := hB.below hb
  have ho := Only.of_below g hb
  have hne : g ≠ w.heap.size := by omega
  go_enter Try.func12, Try.ntmps12
  go_upto_region 1 with fail
  change Code.wp Try.prog _ _ _ (w.alloc (Obj.cells (msK.enc m).toArray 31))
  generalize w.alloc (Obj.cells (msK.enc m).toArray 31) = W at *
  generalize w.heap.size = G at *
  refine wp_scope_hop2 (fun _ _ d _ _ h => by cases d <;> exact h) ?_
  intro Q' hret hgo hpan
  have x0 := hX.cell 0 _ rfl
  change W.cell? ⟨G, 0, none⟩ = some (.int .i64 m.1.ty) at x0
  by_cases hty : m.1.ty = 10
  case neg =>
    have n0 : (m.1.ty != 10) = true := by simp [hty]
    have e1 := pfol_quiet (m := m) hst (.inl hty)
    obtain ⟨e2, e3⟩ := pfol_no e1
    replace e1 := hid e1
    replace e2 := hid e2
    replace e3 := hid e3
    replace hst := hid hst
    replace hme := hid hme
    go_wp2_with fail
    go_step3
    refine hgo 0 _ _ _ rfl ?_
    go_wp2_with fail
    rw [Exit.noGoto_ret]
    go_ret2
    rw [e1.out, e2.out, e3.out]
    exact ⟨rfl, ⟨_, hB, ⟨xme, xdm, ⟨stp, sq, ta, b⟩⟩, rfl, hme.out, hdm, hst.out⟩, ho⟩
  rw [hty] at x0
  go_wp2_with (guard_target =~ wpList _ _ _ (⟨some 13, _, _, _, _, _⟩ :: _) _ _; refine msT.load_g (op := ⟨some 13, .load _ _, _, _, _, _⟩) (by rfl) _ (by rfl) G 0 (by rfl) (m) hX.rangeK ?_)
  refine (asked_any g ⟨xme, xdm, ⟨stp, sq, ta, b⟩⟩ m _ hB).mono ?_
  rintro e W1 ⟨rfl, bq⟩
  replace hB := hB.below bq
  replace hX := hX.below bq
  replace ho := ho.next bq
  clear bq x0
  obtain ⟨A, hA⟩ : ∃ A, askB xme sq m = A := ⟨_, rfl⟩
  rw [hA]
  cases A
  case false =>
    have e1 := pfol_quiet (m := m) hst (.inr (.inl (by rw [hme]; exact hA)))
    obtain ⟨e2, e3⟩ := pfol_no e1
    replace e1 := hid e1
    replace e2 := hid e2
    replace e3 := hid e3
    replace hst := hid hst
    replace hme := hid hme
    clear hA
    go_wp2_with fail
    go_step3
    refine hgo 0 _ _ _ rfl ?_
    go_wp2_with fail
    rw [Exit.noGoto_ret]
    go_ret2
    rw [e1.out, e2.out, e3.out]
    exact ⟨rfl, ⟨_, hB, ⟨xme, xdm, ⟨stp, sq, ta, b⟩⟩, rfl, hme.out, hdm, hst.out⟩, ho⟩
  have hA2 : askB x.me sq m = true := by rw [hme]; exact hA
  clear hA
  by_cases h3 : stp = 3
  case neg =>
    have n3 : (stp != 3) = true := by simp [h3]
    have e1 := pfol_quiet (m := m) hst (.inr (.inr (.inl h3)))
    obtain ⟨e2, e3⟩ := pfol_no e1
    replace e1 := hid e1
    replace e2 := hid e2
    replace e3 := hid e3
    replace hst := hid hst
    replace hme := hid hme
    clear hA2
    go_upto_region 3 with fail
    refine wp_region_held_drew (S := fun w' => Below W1.drew.heap.size W1.drew w') (by kernel_rfl) (Below.refl _ _) ?_
    intro hHeld
    have hbd := Below.drew (Below.refl W1.heap.size W1)
    generalize W1.drew = WD at *
    have c3 : ∀ wx, Below WD.heap.size WD wx → wx.cell? ⟨g, 3, none⟩ = some (.int .i64 (stp)) := fun wx h => (hB.below (bnext hbd h)).cell 3 _ (by first | rfl | (rw [← h3]; rfl))
    have c6 : ∀ wx, Below WD.heap.size WD wx → wx.cell? ⟨g, 6, none⟩ = some (.int .u64 (b.sc)) := fun wx h => (hB.below (bnext hbd h)).cell 6 _ (by first | rfl | (rw [← h4]; rfl))
    have c7 : ∀ wx, Below WD.heap.size WD wx → wx.cell? ⟨g, 7, none⟩ = some (.int .i64 (b.sp)) := fun wx h => (hB.below (bnext hbd h)).cell 7 _ (by first | rfl | (rw [← h5]; rfl))
    have x4 : ∀ wx, Below WD.heap.size WD wx → wx.cell? ⟨G, 4, none⟩ = some (.int .u64 m.1.sc) := fun wx h => (hX.below (bnext hbd h)).cell 4 _ rfl
    have x5 : ∀ wx, Below WD.heap.size WD wx → wx.cell? ⟨G, 5, none⟩ = some (.int .i64 m.1.sp) := fun wx h => (hX.below (bnext hbd h)).cell 5 _ rfl
    refine rtake 0 rfl (by rfl) (by kernel_rfl) (by kernel_rfl) (by kernel_rfl) (fun c a w h => hpan c a _ _ w h) hHeld (fun wx hwx => by go_simp; try with_reducible rfl) ?_
    try simp only [Act.put, List.setIfInBounds_toArray, List.set_cons_zero, List.set_cons_succ]
    refine rtake 1 rfl (by rfl) (by kernel_rfl) (by kernel_rfl) (by kernel_rfl) (fun c a w h => hpan c a _ _ w h) hHeld (fun wx hwx => by go_simp; try with_reducible rfl) ?_
    try simp only [Act.put, List.setIfInBounds_toArray, List.set_cons_zero, List.set_cons_succ]
    refine rtake 2 rfl (by rfl) (by kernel_rfl) (by kernel_rfl) (by kernel_rfl) (fun c a w h => hpan c a _ _ w h) hHeld (fun wx hwx => by go_simp; try with_reducible rfl) ?_
    try simp only [Act.put, List.setIfInBounds_toArray, List.set_cons_zero, List.set_cons_succ]
    refine rtake 3 rfl (by rfl) (by kernel_rfl) (by kernel_rfl) (by kernel_rfl) (fun c a w h => hpan c a _ _ w h) hHeld (fun wx hwx => by go_simp; try with_reducible rfl) ?_
    try simp only [Act.put, List.setIfInBounds_toArray, List.set_cons_zero, List.set_cons_succ]
    refine rtake 4 rfl (by rfl) (by kernel_rfl) (by kernel_rfl) (by kernel_rfl) (fun c a w h => hpan c a _ _ w h) hHeld (fun wx hwx => by go_simp; try with_reducible rfl) ?_
    try simp only [Act.put, List.setIfInBounds_toArray, List.set_cons_zero, List.set_cons_succ]
    refine rtake 5 rfl (by rfl) (by kernel_rfl) (by kernel_rfl) (by kernel_rfl) (fun c a w h => hpan c a _ _ w h) hHeld (fun wx hwx => by go_simp; try with_reducible rfl) ?_
    try simp only [Act.put, List.setIfInBounds_toArray, List.set_cons_zero, List.set_cons_succ]
    refine rtake 6 rfl (by rfl) (by kernel_rfl) (by kernel_rfl) (by kernel_rfl) (fun c a w h => hpan c a _ _ w h) hHeld (fun wx hwx => by go_simp; try with_reducible rfl) ?_
    try simp only [Act.put, List.setIfInBounds_toArray, List.set_cons_zero, List.set_cons_succ]
    refine rpass 7 rfl (by rfl) (by kernel_rfl) (by kernel_rfl) (by kernel_rfl) (fun c a w h => hpan c a _ _ w h) hHeld ?_
    try simp only [Act.put, List.setIfInBounds_toArray, List.set_cons_zero, List.set_cons_succ]
    refine rpass 8 rfl (by rfl) (by kernel_rfl) (by kernel_rfl) (by kernel_rfl) (fun c a w h => hpan c a _ _ w h) hHeld ?_
    try simp only [Act.put, List.setIfInBounds_toArray, List.set_cons_zero, List.set_cons_succ]
    refine rpass 9 rfl (by rfl) (by kernel_rfl) (by kernel_rfl) (by kernel_rfl) (fun c a w h => hpan c a _ _ w h) hHeld ?_
    try simp only [Act.put, List.setIfInBounds_toArray, List.set_cons_zero, List.set_cons_succ]
    refine rpass 10 rfl (by rfl) (by kernel_rfl) (by kernel_rfl) (by kernel_rfl) (fun c a w h => hpan c a _ _ w h) hHeld ?_
    try simp only [Act.put, List.setIfInBounds_toArray, List.set_cons_zero, List.set_cons_succ]
    refine rpass 11 rfl (by rfl) (by kernel_rfl) (by kernel_rfl) (by kernel_rfl) (fun c a w h => hpan c a _ _ w h) hHeld ?_
    try simp only [Act.put, List.setIfInBounds_toArray, List.set_cons_zero, List.set_cons_succ]
    refine rpass 12 rfl (by rfl) (by kernel_rfl) (by kernel_rfl) (by kernel_rfl) (fun c a w h => hpan c a _ _ w h) hHeld ?_
    try simp only [Act.put, List.setIfInBounds_toArray, List.set_cons_zero, List.set_cons_succ]
    refine rpass 13 rfl (by rfl) (by kernel_rfl) (by kernel_rfl) (by kernel_rfl) (fun c a w h => hpan c a _ _ w h) hHeld ?_
    try simp only [Act.put, List.setIfInBounds_toArray, List.set_cons_zero, List.set_cons_succ]
    refine rpass 14 rfl (by rfl) (by kernel_rfl) (by kernel_rfl) (by kernel_rfl) (fun c a w h => hpan c a _ _ w h) hHeld ?_
    try simp only [Act.put, List.setIfInBounds_toArray, List.set_cons_zero, List.set_cons_succ]
    refine rpass 15 rfl (by rfl) (by kernel_rfl) (by kernel_rfl) (by kernel_rfl) (fun c a w h => hpan c a _ _ w h) hHeld ?_
    try simp only [Act.put, List.setIfInBounds_toArray, List.set_cons_zero, List.set_cons_succ]
    refine rtake 16 rfl (by rfl) (by kernel_rfl) (by kernel_rfl) (by kernel_rfl) (fun c a w h => hpan c a _ _ w h) hHeld (fun wx hwx => by go_simp; try with_reducible rfl) ?_
    try simp only [Act.put, List.setIfInBounds_toArray, List.set_cons_zero, List.set_cons_succ]
    refine wpAnyH_done (by kernel_rfl) ?_ _
    replace hB := (hB.below hbd).below hHeld
    replace hX := (hX.below hbd).below hHeld
    replace ho := (ho.next hbd).next hHeld
    clear hHeld hbd c3 c6 c7 x4 x5
    go_wp2_with fail
    go_step3
    refine hgo 0 _ _ _ rfl ?_
    go_wp2_with fail
    rw [Exit.noGoto_ret]
    go_ret2
    rw [e1.out, e2.out, e3.out]
    exact ⟨rfl, ⟨_, hB, ⟨xme, xdm, ⟨stp, sq, ta, b⟩⟩, rfl, hme.out, hdm, hst.out⟩, ho⟩
  by_cases h4 : b.sc = m.1.sc
  case neg =>
    have n4 : (b.sc == m.1.sc) = false := beq_false_of_ne h4
    have e1 := pfol_quiet (m := m) hst (.inr (.inr (.inr (.inl h4))))
    obtain ⟨e2, e3⟩ := pfol_no e1
    replace e1 := hid e1
    replace e2 := hid e2
    replace e3 := hid e3
    replace hst := hid hst
    replace hme := hid hme
    clear hA2
    go_upto_region 3 with fail
    refine wp_region_held_drew (S := fun w' => Below W1.drew.heap.size W1.drew w') (by kernel_rfl) (Below.refl _ _) ?_
    intro hHeld
    have hbd := Below.drew (Below.refl W1.heap.size W1)
    generalize W1.drew = WD at *
    have c3 : ∀ wx, Below WD.heap.size WD wx → wx.cell? ⟨g, 3, none⟩ = some (.int .i64 (3)) := fun wx h => (hB.below (bnext hbd h)).cell 3 _ (by first | rfl | (rw [← h3]; rfl))
    have c6 : ∀ wx, Below WD.heap.size WD wx → wx.cell? ⟨g, 6, none⟩ = some (.int .u64 (b.sc)) := fun wx h => (hB.below (bnext hbd h)).cell 6 _ (by first | rfl | (rw [← h4]; rfl))
    have c7 : ∀ wx, Below WD.heap.size WD wx → wx.cell? ⟨g, 7, none⟩ = some (.int .i64 (b.sp)) := fun wx h => (hB.below (bnext hbd h)).cell 7 _ (by first | rfl | (rw [← h5]; rfl))
    have x4 : ∀ wx, Below WD.heap.size WD wx → wx.cell? ⟨G, 4, none⟩ = some (.int .u64 m.1.sc) := fun wx h => (hX.below (bnext hbd h)).cell 4 _ rfl
    have x5 : ∀ wx, Below WD.heap.size WD wx → wx.cell? ⟨G, 5, none⟩ = some (.int .i64 m.1.sp) := fun wx h => (hX.below (bnext hbd h)).cell 5 _ rfl
    refine rtake 0 rfl (by rfl) (by kernel_rfl) (by kernel_rfl) (by kernel_rfl) (fun c a w h => hpan c a _ _ w h) hHeld (fun wx hwx => by go_simp; try with_reducible rfl) ?_
    try simp only [Act.put, List.setIfInBounds_toArray, List.set_cons_zero, List.set_cons_succ]
    refine rtake 1 rfl (by rfl) (by kernel_rfl) (by kernel_rfl) (by kernel_rfl) (fun c a w h => hpan c a _ _ w h) hHeld (fun wx hwx => by go_simp; try with_reducible rfl) ?_
    try simp only [Act.put, List.setIfInBounds_toArray, List.set_cons_zero, List.set_cons_succ]
    refine rtake 2 rfl (by rfl) (by kernel_rfl) (by kernel_rfl) (by kernel_rfl) (fun c a w h => hpan c a _ _ w h) hHeld (fun wx hwx => by go_simp; try with_reducible rfl) ?_
    try simp only [Act.put, List.setIfInBounds_toArray, List.set_cons_zero, List.set_cons_succ]
    refine rtake 3 rfl (by rfl) (by kernel_rfl) (by kernel_rfl) (by kernel_rfl) (fun c a w h => hpan c a _ _ w h) hHeld (fun wx hwx => by go_simp; try with_reducible rfl) ?_
    try simp only [Act.put, List.setIfInBounds_toArray, List.set_cons_zero, List.set_cons_succ]
    refine rtake 4 rfl (by rfl) (by kernel_rfl) (by kernel_rfl) (by kernel_rfl) (fun c a w h => hpan c a _ _ w h) hHeld (fun wx hwx => by go_simp; try with_reducible rfl) ?_
    try simp only [Act.put, List.setIfInBounds_toArray, List.set_cons_zero, List.set_cons_succ]
    refine rtake 5 rfl (by rfl) (by kernel_rfl) (by kernel_rfl) (by kernel_rfl) (fun c a w h => hpan c a _ _ w h) hHeld (fun wx hwx => by go_simp; try with_reducible rfl) ?_
    try simp only [Act.put, List.setIfInBounds_toArray, List.set_cons_zero, List.set_cons_succ]
    refine rtake 6 rfl (by rfl) (by kernel_rfl) (by kernel_rfl) (by kernel_rfl) (fun c a w h => hpan c a _ _ w h) hHeld (fun wx hwx => by go_simp; try with_reducible rfl) ?_
    try simp only [Act.put, List.setIfInBounds_toArray, List.set_cons_zero, List.set_cons_succ]
    refine rtake 7 rfl (by rfl) (by kernel_rfl) (by kernel_rfl) (by kernel_rfl) (fun c a w h => hpan c a _ _ w h) hHeld (fun wx hwx => by go_simp; try with_reducible rfl) ?_
    try simp only [Act.put, List.setIfInBounds_toArray, List.set_cons_zero, List.set_cons_succ]
    refine rtake 8 rfl (by rfl) (by kernel_rfl) (by kernel_rfl) (by kernel_rfl) (fun c a w h => hpan c a _ _ w h) hHeld (fun wx hwx => by go_simp; try with_reducible rfl) ?_
    try simp only [Act.put, List.setIfInBounds_toArray, List.set_cons_zero, List.set_cons_succ]
    refine rtake 9 rfl (by rfl) (by kernel_rfl) (by kernel_rfl) (by kernel_rfl) (fun c a w h => hpan c a _ _ w h) hHeld (fun wx hwx => by go_simp; try with_reducible rfl) ?_
    try simp only [Act.put, List.setIfInBounds_toArray, List.set_cons_zero, List.set_cons_succ]
    refine rtake 10 rfl (by rfl) (by kernel_rfl) (by kernel_rfl) (by kernel_rfl) (fun c a w h => hpan c a _ _ w h) hHeld (fun wx hwx => by go_simp; try with_reducible rfl) ?_
    try simp only [Act.put, List.setIfInBounds_toArray, List.set_cons_zero, List.set_cons_succ]
    refine rtake 11 rfl (by rfl) (by kernel_rfl) (by kernel_rfl) (by kernel_rfl) (fun c a w h => hpan c a _ _ w h) hHeld (fun wx hwx => by go_simp; try with_reducible rfl) ?_
    try simp only [Act.put, List.setIfInBounds_toArray, List.set_cons_zero, List.set_cons_succ]
    refine rtake 12 rfl (by rfl) (by kernel_rfl) (by kernel_rfl) (by kernel_rfl) (fun c a w h => hpan c a _ _ w h) hHeld (fun wx hwx => by go_simp; try with_reducible rfl) ?_
    try simp only [Act.put, List.setIfInBounds_toArray, List.set_cons_zero, List.set_cons_succ]
    refine rtake 13 rfl (by rfl) (by kernel_rfl) (by kernel_rfl) (by kernel_rfl) (fun c a w h => hpan c a _ _ w h) hHeld (fun wx hwx => by go_simp; try with_reducible rfl) ?_
    try simp only [Act.put, List.setIfInBounds_toArray, List.set_cons_zero, List.set_cons_succ]
    refine rtake 14 rfl (by rfl) (by kernel_rfl) (by kernel_rfl) (by kernel_rfl) (fun c a w h => hpan c a _ _ w h) hHeld (fun wx hwx => by go_simp; try with_reducible rfl) ?_
    try simp only [Act.put, List.setIfInBounds_toArray, List.set_cons_zero, List.set_cons_succ]
    refine rtake 15 rfl (by rfl) (by kernel_rfl) (by kernel_rfl) (by kernel_rfl) (fun c a w h => hpan c a _ _ w h) hHeld (fun wx hwx => by go_simp; try with_reducible rfl) ?_
    try simp only [Act.put, List.setIfInBounds_toArray, List.set_cons_zero, List.set_cons_succ]
    refine rtake 16 rfl (by rfl) (by kernel_rfl) (by kernel_rfl) (by kernel_rfl) (fun c a w h => hpan c a _ _ w h) hHeld (fun wx hwx => by go_simp; try with_reducible rfl) ?_
    try simp only [Act.put, List.setIfInBounds_toArray, List.set_cons_zero, List.set_cons_succ]
    refine wpAnyH_done (by kernel_rfl) ?_ _
    replace hB := (hB.below hbd).below hHeld
    replace hX := (hX.below hbd).below hHeld
    replace ho := (ho.next hbd).next hHeld
    clear hHeld hbd c3 c6 c7 x4 x5
    go_wp2_with fail
    go_step3
    refine hgo 0 _ _ _ rfl ?_
    go_wp2_with fail
    rw [Exit.noGoto_ret]
    go_ret2
    rw [e1.out, e2.out, e3.out]
    exact ⟨rfl, ⟨_, hB, ⟨xme, xdm, ⟨stp, sq, ta, b⟩⟩, rfl, hme.out, hdm, hst.out⟩, ho⟩
  by_cases h5 : b.sp = m.1.sp
  case neg =>
    have n5 : (b.sp == m.1.sp) = false := beq_false_of_ne h5
    have e1 := pfol_quiet (m := m) hst (.inr (.inr (.inr (.inr h5))))
    obtain ⟨e2, e3⟩ := pfol_no e1
    replace e1 := hid e1
    replace e2 := hid e2
    replace e3 := hid e3
    replace hst := hid hst
    replace hme := hid hme
    clear hA2
    go_upto_region 3 with fail
    refine wp_region_held_drew (S := fun w' => Below W1.drew.heap.size W1.drew w') (by kernel_rfl) (Below.refl _ _) ?_
    intro hHeld
    have hbd := Below.drew (Below.refl W1.heap.size W1)
    generalize W1.drew = WD at *
    have c3 : ∀ wx, Below WD.heap.size WD wx → wx.cell? ⟨g, 3, none⟩ = some (.int .i64 (3)) := fun wx h => (hB.below (bnext hbd h)).cell 3 _ (by first | rfl | (rw [← h3]; rfl))
    have c6 : ∀ wx, Below WD.heap.size WD wx → wx.cell? ⟨g, 6, none⟩ = some (.int .u64 (m.1.sc)) := fun wx h => (hB.below (bnext hbd h)).cell 6 _ (by first | rfl | (rw [← h4]; rfl))
    have c7 : ∀ wx, Below WD.heap.size WD wx → wx.cell? ⟨g, 7, none⟩ = some (.int .i64 (b.sp)) := fun wx h => (hB.below (bnext hbd h)).cell 7 _ (by first | rfl | (rw [← h5]; rfl))
    have x4 : ∀ wx, Below WD.heap.size WD wx → wx.cell? ⟨G, 4, none⟩ = some (.int .u64 m.1.sc) := fun wx h => (hX.below (bnext hbd h)).cell 4 _ rfl
    have x5 : ∀ wx, Below WD.heap.size WD wx → wx.cell? ⟨G, 5, none⟩ = some (.int .i64 m.1.sp) := fun wx h => (hX.below (bnext hbd h)).cell 5 _ rfl
    refine rtake 0 rfl (by rfl) (by kernel_rfl) (by kernel_rfl) (by kernel_rfl) (fun c a w h => hpan c a _ _ w h) hHeld (fun wx hwx => by go_simp; try with_reducible rfl) ?_
    try simp only [Act.put, List.setIfInBounds_toArray, List.set_cons_zero, List.set_cons_succ]
    refine rtake 1 rfl (by rfl) (by kernel_rfl) (by kernel_rfl) (by kernel_rfl) (fun c a w h => hpan c a _ _ w h) hHeld (fun wx hwx => by go_simp; try with_reducible rfl) ?_
    try simp only [Act.put, List.setIfInBounds_toArray, List.set_cons_zero, List.set_cons_succ]
    refine rtake 2 rfl (by rfl) (by kernel_rfl) (by kernel_rfl) (by kernel_rfl) (fun c a w h => hpan c a _ _ w h) hHeld (fun wx hwx => by go_simp; try with_reducible rfl) ?_
    try simp only [Act.put, List.setIfInBounds_toArray, List.set_cons_zero, List.set_cons_succ]
    refine rtake 3 rfl (by rfl) (by kernel_rfl) (by kernel_rfl) (by kernel_rfl) (fun c a w h => hpan c a _ _ w h) hHeld (fun wx hwx => by go_simp; try with_reducible rfl) ?_
    try simp only [Act.put, List.setIfInBounds_toArray, List.set_cons_zero, List.set_cons_succ]
    refine rtake 4 rfl (by rfl) (by kernel_rfl) (by kernel_rfl) (by kernel_rfl) (fun c a w h => hpan c a _ _ w h) hHeld (fun wx hwx => by go_simp; try with_reducible rfl) ?_
    try simp only [Act.put, List.setIfInBounds_toArray, List.set_cons_zero, List.set_cons_succ]
    refine rtake 5 rfl (by rfl) (by kernel_rfl) (by kernel_rfl) (by kernel_rfl) (fun c a w h => hpan c a _ _ w h) hHeld (fun wx hwx => by go_simp; try with_reducible rfl) ?_
    try simp only [Act.put, List.setIfInBounds_toArray, List.set_cons_zero, List.set_cons_succ]
    refine rtake 6 rfl (by rfl) (by kernel_rfl) (by kernel_rfl) (by kernel_rfl) (fun c a w h => hpan c a _ _ w h) hHeld (fun wx hwx => by go_simp; try with_reducible rfl) ?_
    try simp only [Act.put, List.setIfInBounds_toArray, List.set_cons_zero, List.set_cons_succ]
    refine rtake 7 rfl (by rfl) (by kernel_rfl) (by kernel_rfl) (by kernel_rfl) (fun c a w h => hpan c a _ _ w h) hHeld (fun wx hwx => by go_simp; try with_reducible rfl) ?_
    try simp only [Act.put, List.setIfInBounds_toArray, List.set_cons_zero, List.set_cons_succ]
    refine rtake 8 rfl (by rfl) (by kernel_rfl) (by kernel_rfl) (by kernel_rfl) (fun c a w h => hpan c a _ _ w h) hHeld (fun wx hwx => by go_simp; try with_reducible rfl) ?_
    try simp only [Act.put, List.setIfInBounds_toArray, List.set_cons_zero, List.set_cons_succ]
    refine rtake 9 rfl (by rfl) (by kernel_rfl) (by kernel_rfl) (by kernel_rfl) (fun c a w h => hpan c a _ _ w h) hHeld (fun wx hwx => by go_simp; try with_reducible rfl) ?_
    try simp only [Act.put, List.setIfInBounds_toArray, List.set_cons_zero, List.set_cons_succ]
    refine rtake 10 rfl (by rfl) (by kernel_rfl) (by kernel_rfl) (by kernel_rfl) (fun c a w h => hpan c a _ _ w h) hHeld (fun wx hwx => by go_simp; try with_reducible rfl) ?_
    try simp only [Act.put, List.setIfInBounds_toArray, List.set_cons_zero, List.set_cons_succ]
    refine rtake 11 rfl (by rfl) (by kernel_rfl) (by kernel_rfl) (by kernel_rfl) (fun c a w h => hpan c a _ _ w h) hHeld (fun wx hwx => by go_simp; try with_reducible rfl) ?_
    try simp only [Act.put, List.setIfInBounds_toArray, List.set_cons_zero, List.set_cons_succ]
    refine rtake 12 rfl (by rfl) (by kernel_rfl) (by kernel_rfl) (by kernel_rfl) (fun c a w h => hpan c a _ _ w h) hHeld (fun wx hwx => by go_simp; try with_reducible rfl) ?_
    try simp only [Act.put, List.setIfInBounds_toArray, List.set_cons_zero, List.set_cons_succ]
    refine rtake 13 rfl (by rfl) (by kernel_rfl) (by kernel_rfl) (by kernel_rfl) (fun c a w h => hpan c a _ _ w h) hHeld (fun wx hwx => by go_simp; try with_reducible rfl) ?_
    try simp only [Act.put, List.setIfInBounds_toArray, List.set_cons_zero, List.set_cons_succ]
    refine rtake 14 rfl (by rfl) (by kernel_rfl) (by kernel_rfl) (by kernel_rfl) (fun c a w h => hpan c a _ _ w h) hHeld (fun wx hwx => by go_simp; try with_reducible rfl) ?_
    try simp only [Act.put, List.setIfInBounds_toArray, List.set_cons_zero, List.set_cons_succ]
    refine rtake 15 rfl (by rfl) (by kernel_rfl) (by kernel_rfl) (by kernel_rfl) (fun c a w h => hpan c a _ _ w h) hHeld (fun wx hwx => by go_simp; try with_reducible rfl) ?_
    try simp only [Act.put, List.setIfInBounds_toArray, List.set_cons_zero, List.set_cons_succ]
    refine rtake 16 rfl (by rfl) (by kernel_rfl) (by kernel_rfl) (by kernel_rfl) (fun c a w h => hpan c a _ _ w h) hHeld (fun wx hwx => by go_simp; try with_reducible rfl) ?_
    try simp only [Act.put, List.setIfInBounds_toArray, List.set_cons_zero, List.set_cons_succ]
    refine wpAnyH_done (by kernel_rfl) ?_ _
    replace hB := (hB.below hbd).below hHeld
    replace hX := (hX.below hbd).below hHeld
    replace ho := (ho.next hbd).next hHeld
    clear hHeld hbd c3 c6 c7 x4 x5
    go_wp2_with fail
    go_step3
    refine hgo 0 _ _ _ rfl ?_
    go_wp2_with fail
    rw [Exit.noGoto_ret]
    go_ret2
    rw [e1.out, e2.out, e3.out]
    exact ⟨rfl, ⟨_, hB, ⟨xme, xdm, ⟨stp, sq, ta, b⟩⟩, rfl, hme.out, hdm, hst.out⟩, ho⟩
  rw [h3] at hst
  obtain ⟨e1, e2, e3, e4⟩ := pfol_told hst hty hA2 h4 h5
  replace e1 := hid e1
  replace e2 := hid e2
  replace e3 := hid e3
  clear hst hA2
  go_upto_region 3 with fail
  refine wp_region_held_drew (S := fun w' => Below W1.drew.heap.size W1.drew w') (by kernel_rfl) (Below.refl _ _) ?_
  intro hHeld
  have hbd := Below.drew (Below.refl W1.heap.size W1)
  generalize W1.drew = WD at *
  have c3 : ∀ wx, Below WD.heap.size WD wx → wx.cell? ⟨g, 3, none⟩ = some (.int .i64 (3)) := fun wx h => (hB.below (bnext hbd h)).cell 3 _ (by first | rfl | (rw [← h3]; rfl))
  have c6 : ∀ wx, Below WD.heap.size WD wx → wx.cell? ⟨g, 6, none⟩ = some (.int .u64 (m.1.sc)) := fun wx h => (hB.below (bnext hbd h)).cell 6 _ (by first | rfl | (rw [← h4]; rfl))
  have c7 : ∀ wx, Below WD.heap.size WD wx → wx.cell? ⟨g, 7, none⟩ = some (.int .i64 (m.1.sp)) := fun wx h => (hB.below (bnext hbd h)).cell 7 _ (by first | rfl | (rw [← h5]; rfl))
  have x4 : ∀ wx, Below WD.heap.size WD wx → wx.cell? ⟨G, 4, none⟩ = some (.int .u64 m.1.sc) := fun wx h => (hX.below (bnext hbd h)).cell 4 _ rfl
  have x5 : ∀ wx, Below WD.heap.size WD wx → wx.cell? ⟨G, 5, none⟩ = some (.int .i64 m.1.sp) := fun wx h => (hX.below (bnext hbd h)).cell 5 _ rfl
  refine rtake 0 rfl (by rfl) (by kernel_rfl) (by kernel_rfl) (by kernel_rfl) (fun c a w h => hpan c a _ _ w h) hHeld (fun wx hwx => by go_simp; try with_reducible rfl) ?_
  try simp only [Act.put, List.setIfInBounds_toArray, List.set_cons_zero, List.set_cons_succ]
  refine rtake 1 rfl (by rfl) (by kernel_rfl) (by kernel_rfl) (by kernel_rfl) (fun c a w h => hpan c a _ _ w h) hHeld (fun wx hwx => by go_simp; try with_reducible rfl) ?_
  try simp only [Act.put, List.setIfInBounds_toArray, List.set_cons_zero, List.set_cons_succ]
  refine rtake 2 rfl (by rfl) (by kernel_rfl) (by kernel_rfl) (by kernel_rfl) (fun c a w h => hpan c a _ _ w h) hHeld (fun wx hwx => by go_simp; try with_reducible rfl) ?_
  try simp only [Act.put, List.setIfInBounds_toArray, List.set_cons_zero, List.set_cons_succ]
  refine rtake 3 rfl (by rfl) (by kernel_rfl) (by kernel_rfl) (by kernel_rfl) (fun c a w h => hpan c a _ _ w h) hHeld (fun wx hwx => by go_simp; try with_reducible rfl) ?_
  try simp only [Act.put, List.setIfInBounds_toArray, List.set_cons_zero, List.set_cons_succ]
  refine rtake 4 rfl (by rfl) (by kernel_rfl) (by kernel_rfl) (by kernel_rfl) (fun c a w h => hpan c a _ _ w h) hHeld (fun wx hwx => by go_simp; try with_reducible rfl) ?_
  try simp only [Act.put, List.setIfInBounds_toArray, List.set_cons_zero, List.set_cons_succ]
  refine rtake 5 rfl (by rfl) (by kernel_rfl) (by kernel_rfl) (by kernel_rfl) (fun c a w h => hpan c a _ _ w h) hHeld (fun wx hwx => by go_simp; try with_reducible rfl) ?_
  try simp only [Act.put, List.setIfInBounds_toArray, List.set_cons_zero, List.set_cons_succ]
  refine rtake 6 rfl (by rfl) (by kernel_rfl) (by kernel_rfl) (by kernel_rfl) (fun c a w h => hpan c a _ _ w h) hHeld (fun wx hwx => by go_simp; try with_reducible rfl) ?_
  try simp only [Act.put, List.setIfInBounds_toArray, List.set_cons_zero, List.set_cons_succ]
  refine rtake 7 rfl (by rfl) (by kernel_rfl) (by kernel_rfl) (by kernel_rfl) (fun c a w h => hpan c a _ _ w h) hHeld (fun wx hwx => by go_simp; try with_reducible rfl) ?_
  try simp only [Act.put, List.setIfInBounds_toArray, List.set_cons_zero, List.set_cons_succ]
  refine rtake 8 rfl (by rfl) (by kernel_rfl) (by kernel_rfl) (by kernel_rfl) (fun c a w h => hpan c a _ _ w h) hHeld (fun wx hwx => by go_simp; try with_reducible rfl) ?_
  try simp only [Act.put, List.setIfInBounds_toArray, List.set_cons_zero, List.set_cons_succ]
  refine rtake 9 rfl (by rfl) (by kernel_rfl) (by kernel_rfl) (by kernel_rfl) (fun c a w h => hpan c a _ _ w h) hHeld (fun wx hwx => by go_simp; try with_reducible rfl) ?_
  try simp only [Act.put, List.setIfInBounds_toArray, List.set_cons_zero, List.set_cons_succ]
  refine rtake 10 rfl (by rfl) (by kernel_rfl) (by kernel_rfl) (by kernel_rfl) (fun c a w h => hpan c a _ _ w h) hHeld (fun wx hwx => by go_simp; try with_reducible rfl) ?_
  try simp only [Act.put, List.setIfInBounds_toArray, List.set_cons_zero, List.set_cons_succ]
  refine rtake 11 rfl (by rfl) (by kernel_rfl) (by kernel_rfl) (by kernel_rfl) (fun c a w h => hpan c a _ _ w h) hHeld (fun wx hwx => by go_simp; try with_reducible rfl) ?_
  try simp only [Act.put, List.setIfInBounds_toArray, List.set_cons_zero, List.set_cons_succ]
  refine rtake 12 rfl (by rfl) (by kernel_rfl) (by kernel_rfl) (by kernel_rfl) (fun c a w h => hpan c a _ _ w h) hHeld (fun wx hwx => by go_simp; try with_reducible rfl) ?_
  try simp only [Act.put, List.setIfInBounds_toArray, List.set_cons_zero, List.set_cons_succ]
  refine rtake 13 rfl (by rfl) (by kernel_rfl) (by kernel_rfl) (by kernel_rfl) (fun c a w h => hpan c a _ _ w h) hHeld (fun wx hwx => by go_simp; try with_reducible rfl) ?_
  try simp only [Act.put, List.setIfInBounds_toArray, List.set_cons_zero, List.set_cons_succ]
  refine rtake 14 rfl (by rfl) (by kernel_rfl) (by kernel_rfl) (by kernel_rfl) (fun c a w h => hpan c a _ _ w h) hHeld (fun wx hwx => by go_simp; try with_reducible rfl) ?_
  try simp only [Act.put, List.setIfInBounds_toArray, List.set_cons_zero, List.set_cons_succ]
  refine rtake 15 rfl (by rfl) (by kernel_rfl) (by kernel_rfl) (by kernel_rfl) (fun c a w h => hpan c a _ _ w h) hHeld (fun wx hwx => by go_simp; try with_reducible rfl) ?_
  try simp only [Act.put, List.setIfInBounds_toArray, List.set_cons_zero, List.set_cons_succ]
  refine rtake 16 rfl (by rfl) (by kernel_rfl) (by kernel_rfl) (by kernel_rfl) (fun c a w h => hpan c a _ _ w h) hHeld (fun wx hwx => by go_simp; try with_reducible rfl) ?_
  try simp only [Act.put, List.setIfInBounds_toArray, List.set_cons_zero, List.set_cons_succ]
  refine wpAnyH_done (by kernel_rfl) ?_ _
  replace hB := (hB.below hbd).below hHeld
  replace hX := (hX.below hbd).below hHeld
  replace ho := (ho.next hbd).next hHeld
  clear hHeld hbd c3 c6 c7 x4 x5
  clear h3 h4 h5
  go_upto_region 4 with fail
  clear hty
  refine wp_region_held_drew (S := fun w' => Below WD.drew.heap.size WD.drew w') (by kernel_rfl) (Below.refl _ _) ?_
  intro hHeld
  have hbd := Below.drew (Below.refl WD.heap.size WD)
  generalize WD.drew = WE at *
  refine rtake 0 rfl (by rfl) (by kernel_rfl) (by kernel_rfl) (by kernel_rfl) (fun c a w h => hpan c a _ _ w h) hHeld (fun wx hwx => by go_simp; try with_reducible rfl) ?_
  try simp only [Act.put, List.setIfInBounds_toArray, List.set_cons_zero, List.set_cons_succ]
  refine rtake 1 rfl (by rfl) (by kernel_rfl) (by kernel_rfl) (by kernel_rfl) (fun c a w h => hpan c a _ _ w h) hHeld (fun wx hwx => by go_simp; try with_reducible rfl) ?_
  try simp only [Act.put, List.setIfInBounds_toArray, List.set_cons_zero, List.set_cons_succ]
  refine rtake 2 rfl (by rfl) (by kernel_rfl) (by kernel_rfl) (by kernel_rfl) (fun c a w h => hpan c a _ _ w h) hHeld (fun wx hwx => by go_simp; try with_reducible rfl) ?_
  try simp only [Act.put, List.setIfInBounds_toArray, List.set_cons_zero, List.set_cons_succ]
  refine rtake 3 rfl (by rfl) (by kernel_rfl) (by kernel_rfl) (by kernel_rfl) (fun c a w h => hpan c a _ _ w h) hHeld (fun wx hwx => by go_simp; try with_reducible rfl) ?_
  try simp only [Act.put, List.setIfInBounds_toArray, List.set_cons_zero, List.set_cons_succ]
  refine rtake 4 rfl (by rfl) (by kernel_rfl) (by kernel_rfl) (by kernel_rfl) (fun c a w h => hpan c a _ _ w h) hHeld (fun wx hwx => by exact rkT.exec (op := ⟨some 38, .load _ _, _, _, _, _⟩) _ rfl g 6 rfl b ((hB.below (bnext hbd hwx)).back)) ?_
  try simp only [Act.put, List.setIfInBounds_toArray, List.set_cons_zero, List.set_cons_succ]
  refine rtake 5 rfl (by rfl) (by kernel_rfl) (by kernel_rfl) (by kernel_rfl) (fun c a w h => hpan c a _ _ w h) hHeld (fun wx hwx => by exact msT.exec (op := ⟨some 39, .load _ _, _, _, _, _⟩) _ rfl G 0 rfl m ((hX.below (bnext hbd hwx)).rangeK)) ?_
  try simp only [Act.put, List.setIfInBounds_toArray, List.set_cons_zero, List.set_cons_succ]
  refine rcall 6 rfl (by kernel_rfl) (by rfl) (fun K' hK => ?_)
  go_simp
  refine (way_any b m _ e4 hm).mono ?_
  rintro e wy ⟨rfl, bq⟩
  replace hHeld := bnext hHeld bq
  refine hK.out _ _ hHeld ?_
  clear hK K' bq
  try simp only [Act.put, List.setIfInBounds_toArray, List.set_cons_zero, List.set_cons_succ]
  refine rtake 7 rfl (by rfl) (by kernel_rfl) (by kernel_rfl) (by kernel_rfl) (fun c a w h => hpan c a _ _ w h) hHeld (fun wx hwx => by go_simp; try with_reducible rfl) ?_
  try simp only [Act.put, List.setIfInBounds_toArray, List.set_cons_zero, List.set_cons_succ]
  refine rtake 8 rfl (by rfl) (by kernel_rfl) (by kernel_rfl) (by kernel_rfl) (fun c a w h => hpan c a _ _ w h) hHeld (fun wx hwx => by go_simp; try with_reducible rfl) ?_
  try simp only [Act.put, List.setIfInBounds_toArray, List.set_cons_zero, List.set_cons_succ]
  refine wpAnyH_done (by kernel_rfl) ?_ _
  replace hB := (hB.below hbd).below hHeld
  replace ho := (ho.next hbd).next hHeld
  clear hHeld hbd hX
  go_wp2_with fail
  refine (clearP_any g _ _ hB).mono ?_
  rintro e W3 ⟨rfl, hB2, oq⟩
  replace ho := ho.trans oq
  clear oq hB
  go_wp2_with fail
  refine wp_label ?_
  go_wp2_with fail
  refine hret _ _ ?_
  go_ret2
  rw [e1.out, e2.out, e3.out]
  exact ⟨rfl, ⟨_, hB2, _, rfl, hme, hdm, stands_clear rfl⟩, ho⟩

end Go.Proofs.Ytelonfmmcpgodaa
