/- The program's own of chapter 18: Answer, Fup (gen_peeown.py). -/
import Derived.Test.YtelonfmmcpgodaaPeeOwn
namespace Go.Proofs.Ytelonfmmcpgodaa
open Go.RowKit Go.Proofs
set_option maxRecDepth 50000
set_option linter.unusedVariables false
set_option linter.unusedSimpArgs false

set_option maxRecDepth 100000 in
set_option maxHeartbeats 8000000 in
theorem ownFupP : CFupP := by
  intro m me at' w hm
  have z0 := bnew w (Obj.cells (msK.enc m).toArray 31)
  have hX := Box.new w (msK.enc m) 31
  have z1 := bnew (w.alloc (Obj.cells (msK.enc m).toArray 31)) (Obj.cells (prK.enc me).toArray 24)
  have hP := Box.new (w.alloc (Obj.cells (msK.enc m).toArray 31)) (prK.enc me) 24
  replace hX := hX.below z1
  have z2 := bnew ((w.alloc (Obj.cells (msK.enc m).toArray 31)).alloc (Obj.cells (prK.enc me).toArray 24)) (Obj.cells (msK.enc zeroM).toArray 31)
  have hN := Box.new ((w.alloc (Obj.cells (msK.enc m).toArray 31)).alloc (Obj.cells (prK.enc me).toArray 24)) (msK.enc zeroM) 31
  replace hX := hX.below z2
  replace hP := hP.below z2
  have hb := z0
  replace hb := bnext hb z1
  replace hb := bnext hb z2
  clear z0
  clear z1
  clear z2
  have s1 : (w.alloc (Obj.cells (msK.enc m).toArray 31)).heap.size = w.heap.size + 1 := by simp
  rw [s1] at hP
  have s2 : ((w.alloc (Obj.cells (msK.enc m).toArray 31)).alloc (Obj.cells (prK.enc me).toArray 24)).heap.size = w.heap.size + 1 + 1 := by simp
  rw [s2] at hN
  go_enter Try.func9, Try.ntmps9
  go_upto_region 1 with fail
  change Code.wp Try.prog _ _ _ (((w.alloc (Obj.cells (msK.enc m).toArray 31)).alloc (Obj.cells (prK.enc me).toArray 24)).alloc (Obj.cells (msK.enc zeroM).toArray 31))
  generalize (((w.alloc (Obj.cells (msK.enc m).toArray 31)).alloc (Obj.cells (prK.enc me).toArray 24)).alloc (Obj.cells (msK.enc zeroM).toArray 31)) = W at *
  clear s1
  clear s2
  generalize hG : w.heap.size = G at *
  rw [← hG] at hb
  have l_hX : w.heap.size ≤ G := by omega
  have l_hP : w.heap.size ≤ G + 1 := by omega
  have n_hX_hP : G ≠ G + 1 := by omega
  have l_hN : w.heap.size ≤ G + 1 + 1 := by omega
  have n_hX_hN : G ≠ G + 1 + 1 := by omega
  have n_hP_hN : G + 1 ≠ G + 1 + 1 := by omega
  go_wp2_with (first | (guard_target =~ wpList _ _ _ (⟨some 8, _, _, _, _, _⟩ :: _) _ _; refine msT.load (op := ⟨some 8, .load _ _, _, _, _, _⟩) (by rfl) _ (by rfl) G 0 (by rfl) (m) hX.rangeK ?_) | (guard_target =~ wpList _ _ _ (⟨some 9, _, _, _, _, _⟩ :: _) _ _; refine prT18.load (op := ⟨some 9, .load _ _, _, _, _, _⟩) (by rfl) _ (by rfl) (G + 1) 0 (by rfl) (me) hP.rangeK ?_))
  refine (reply_any 10 m me at' _).mono ?_
  rintro e w1 ⟨rfl, bq⟩
  replace hb := bnext hb bq
  replace hN := hN.below bq
  go_wp2_with (guard_target =~ wpList _ _ _ (⟨none, _, _, _, _, _⟩ :: _) _ _; refine msT.store (op := ⟨none, .store _ _ _, _, _, _, _⟩) (by rfl) _ _ (by rfl) (G + 1 + 1) (repM 10 m me at') (zeroM) _ (by rfl) (by rfl) hN ?_)
  exact bodyPost_ret (v := .tuple #[.agg (msK.enc (pfupM m me at')).toArray, .bool (pansB m at')]) (msT.result2 rfl _ _ (G + 1 + 1) _ _ _ rfl rfl (hN.rowK _)) rfl ⟨rfl, below_setRow hb (by omega) _⟩

set_option maxRecDepth 100000 in
set_option maxHeartbeats 8000000 in
theorem ownAnsP : CAnsP := by
  intro m me at' w hm
  have z0 := bnew w (Obj.cells (msK.enc m).toArray 31)
  have hX := Box.new w (msK.enc m) 31
  have z1 := bnew (w.alloc (Obj.cells (msK.enc m).toArray 31)) (Obj.cells (prK.enc me).toArray 24)
  have hP := Box.new (w.alloc (Obj.cells (msK.enc m).toArray 31)) (prK.enc me) 24
  replace hX := hX.below z1
  have z2 := bnew ((w.alloc (Obj.cells (msK.enc m).toArray 31)).alloc (Obj.cells (prK.enc me).toArray 24)) (Obj.cells (msK.enc zeroM).toArray 31)
  have hN := Box.new ((w.alloc (Obj.cells (msK.enc m).toArray 31)).alloc (Obj.cells (prK.enc me).toArray 24)) (msK.enc zeroM) 31
  replace hX := hX.below z2
  replace hP := hP.below z2
  have hb := z0
  replace hb := bnext hb z1
  replace hb := bnext hb z2
  clear z0
  clear z1
  clear z2
  have s1 : (w.alloc (Obj.cells (msK.enc m).toArray 31)).heap.size = w.heap.size + 1 := by simp
  rw [s1] at hP
  have s2 : ((w.alloc (Obj.cells (msK.enc m).toArray 31)).alloc (Obj.cells (prK.enc me).toArray 24)).heap.size = w.heap.size + 1 + 1 := by simp
  rw [s2] at hN
  go_enter Try.func8, Try.ntmps8
  go_upto_region 1 with fail
  change Code.wp Try.prog _ _ _ (((w.alloc (Obj.cells (msK.enc m).toArray 31)).alloc (Obj.cells (prK.enc me).toArray 24)).alloc (Obj.cells (msK.enc zeroM).toArray 31))
  generalize (((w.alloc (Obj.cells (msK.enc m).toArray 31)).alloc (Obj.cells (prK.enc me).toArray 24)).alloc (Obj.cells (msK.enc zeroM).toArray 31)) = W at *
  clear s1
  clear s2
  generalize hG : w.heap.size = G at *
  rw [← hG] at hb
  have l_hX : w.heap.size ≤ G := by omega
  have l_hP : w.heap.size ≤ G + 1 := by omega
  have n_hX_hP : G ≠ G + 1 := by omega
  have l_hN : w.heap.size ≤ G + 1 + 1 := by omega
  have n_hX_hN : G ≠ G + 1 + 1 := by omega
  have n_hP_hN : G + 1 ≠ G + 1 + 1 := by omega
  refine wp_scope_hop2 (fun _ _ d _ _ h => by cases d <;> exact h) ?_
  intro Q' hret hgo hpan
  obtain ⟨m2, hm2⟩ : ∃ m2, repM 3 m me at' = m2 := ⟨_, rfl⟩
  obtain ⟨B, hs⟩ : ∃ B, pansB m at' = B := ⟨_, rfl⟩
  go_wp2_with (first | (guard_target =~ wpList _ _ _ (⟨some 11, _, _, _, _, _⟩ :: _) _ _; refine msT.load (op := ⟨some 11, .load _ _, _, _, _, _⟩) (by rfl) _ (by rfl) G 0 (by rfl) (m) hX.rangeK ?_) | (guard_target =~ wpList _ _ _ (⟨some 12, _, _, _, _, _⟩ :: _) _ _; refine prT18.load (op := ⟨some 12, .load _ _, _, _, _, _⟩) (by rfl) _ (by rfl) (G + 1) 0 (by rfl) (me) hP.rangeK ?_))
  refine (reply_any 3 m me at' W).mono ?_
  rintro e w1 ⟨rfl, bq⟩
  replace hX := hX.below bq
  replace hP := hP.below bq
  replace hN := hN.below bq
  replace hb := bnext hb bq
  clear bq
  rw [hm2, hs]
  have hn1 := bnew w1 (Obj.cells (msK.enc (zeroM)).toArray 31)
  have hM0 := Box.new w1 (msK.enc (zeroM)) 31
  go_upto_region 2 with (guard_target =~ wpList _ _ _ (⟨none, _, _, _, _, _⟩ :: _) _ _; refine msT.store (op := ⟨none, .store _ _ _, _, _, _, _⟩) (by rfl) _ _ (by rfl) (w1.heap.size) (m2) (zeroM) _ (by rfl) (by rfl) hM0 ?_)
  have n_hX_hA : G ≠ w1.heap.size := by have h1 := hX.lt; have h2 := Nat.le_refl w1.heap.size; omega
  have n_hP_hA : G + 1 ≠ w1.heap.size := by have h1 := hP.lt; have h2 := Nat.le_refl w1.heap.size; omega
  have n_hN_hA : G + 1 + 1 ≠ w1.heap.size := by have h1 := hN.lt; have h2 := Nat.le_refl w1.heap.size; omega
  have l_hA : w.heap.size ≤ w1.heap.size := Nat.le_trans hb.size (Nat.le_refl w1.heap.size)
  have hA := hM0.rowK (msK.enc (m2))
  replace hX := (hX.below hn1).rowK_other (k := w1.heap.size) n_hX_hA (msK.enc (m2)).toArray
  replace hP := (hP.below hn1).rowK_other (k := w1.heap.size) n_hP_hA (msK.enc (m2)).toArray
  replace hN := (hN.below hn1).rowK_other (k := w1.heap.size) n_hN_hA (msK.enc (m2)).toArray
  have hW := below_setRow hn1 (Nat.le_refl _) (msK.enc (m2)).toArray
  replace hb := bnext hb hW
  change Code.wp Try.prog _ _ _ ((w1.alloc (Obj.cells (msK.enc (zeroM)).toArray 31)).setRow w1.heap.size (msK.enc (m2)).toArray)
  generalize (w1.alloc (Obj.cells (msK.enc (zeroM)).toArray 31)).setRow w1.heap.size (msK.enc (m2)).toArray = w2 at *
  clear hn1 hM0 hW
  generalize w1.heap.size = ga at *
  cases B
  case false =>
    have e0 : repM 3 m me at' = zeroM := by unfold repM; rw [hs]; rfl
    obtain rfl : m2 = zeroM := hm2.symm.trans e0
    have e1 := hid (show pansM m me at' = zeroM by unfold pansM; rw [hs]; rfl)
    have e2 := hid hs
    clear hs hm2 e0
    go_wp2_with fail
    go_step3
    refine hgo 0 _ _ _ rfl ?_
    go_wp2_with (first | (guard_target =~ wpList _ _ _ (⟨some 23, _, _, _, _, _⟩ :: _) _ _; refine msT.load (op := ⟨some 23, .load _ _, _, _, _, _⟩) (by rfl) _ (by rfl) ga 0 (by rfl) (zeroM) hA.rangeK ?_) | (guard_target =~ wpList _ _ _ (⟨none, _, _, _, _, _⟩ :: _) _ _; refine msT.store (op := ⟨none, .store _ _ _, _, _, _, _⟩) (by rfl) _ _ (by rfl) (G + 1 + 1) (zeroM) (zeroM) _ (by rfl) (by rfl) hN ?_))
    rw [Exit.noGoto_ret]
    exact bodyPost_ret (v := .tuple #[.agg (msK.enc zeroM).toArray, .bool false]) (msT.result2 rfl _ _ (G + 1 + 1) _ _ _ rfl rfl (hN.rowK _)) rfl ⟨by rw [e1.out, e2.out], below_setRow hb (by omega) _⟩
  obtain ⟨m3, hm3⟩ : ∃ m3 : Hd × Bd, m3 = (⟨3, m.1.dm, 512, m.1.co, me.1, me.2, m.1.sq, 127⟩, { bd0 with st := at', tc := m.1.sc, tp := m.1.sp }) := ⟨_, rfl⟩
  have e1 := hid (show pansM m me at' = m3 by unfold pansM; rw [hs, hm3]; rfl)
  have e2 := hid hs
  obtain rfl : (⟨3, m.1.dm, 0, 0, me.1, me.2, m.1.sq, 127⟩, { bd0 with st := at', tc := m.1.sc, tp := m.1.sp }) = m2 := by rw [← hm2]; unfold repM; rw [hs]; rfl
  replace hm3 := hid hm3
  clear hs hm2
  have n_hN_hA' : ga ≠ G + 1 + 1 := Ne.symm n_hN_hA
  have n_hX_hA' : G ≠ ga := n_hX_hA
  clear n_hX_hP n_hX_hN n_hP_hN l_hX l_hP n_hX_hA n_hP_hA n_hN_hA hP
  have hS2 : ∀ (wx : World) (k : Nat) (v : Value), wx.cell? ⟨G, 3, none⟩ = some (.int .i64 m.1.co) → (wx.setCell ⟨ga, k, none⟩ v).cell? ⟨G, 3, none⟩ = some (.int .i64 m.1.co) := fun wx k v h => by
    rw [World.cell?_setCell_far _ _ _ _ (Ne.symm n_hX_hA')]
    exact h
  have x3 := hX.cell 3 _ rfl
  change w2.cell? ⟨G, 3, none⟩ = some (.int .i64 m.1.co) at x3
  go_upto_region 3 with fail
  refine wp_region_held_drew (S := fun w' => w'.cell? ⟨G, 3, none⟩ = some (.int .i64 m.1.co)) (by kernel_rfl) (hX.below (Below.drew (Below.refl _ _)) |>.cell 3 _ rfl) ?_
  intro hHeld
  have hbd := Below.drew (Below.refl w2.heap.size w2)
  replace hb := bnext hb hbd
  replace hA := hA.below hbd
  replace hN := hN.below hbd
  clear hbd x3 hX
  generalize w2.drew = WD at *
  refine rtake 0 rfl (by rfl) (by kernel_rfl) (by kernel_rfl) (by kernel_rfl) (fun c a w h => hpan c a _ _ w h) hHeld (fun wx hwx => by go_simp; try with_reducible rfl) ?_
  try simp only [Act.put, List.setIfInBounds_toArray, List.set_cons_zero, List.set_cons_succ]
  refine rtake 1 rfl (by rfl) (by kernel_rfl) (by kernel_rfl) (by kernel_rfl) (fun c a w h => hpan c a _ _ w h) hHeld (fun wx hwx => by go_simp; try with_reducible rfl) ?_
  try simp only [Act.put, List.setIfInBounds_toArray, List.set_cons_zero, List.set_cons_succ]
  refine rtake 2 rfl (by rfl) (by kernel_rfl) (by kernel_rfl) (by kernel_rfl) (fun c a w h => hpan c a _ _ w h) hHeld (fun wx hwx => by go_simp; try with_reducible rfl) ?_
  try simp only [Act.put, List.setIfInBounds_toArray, List.set_cons_zero, List.set_cons_succ]
  refine rcall 3 rfl (by kernel_rfl) (by rfl) (fun K' hK => ?_)
  have c2 := hA.cell 2 _ rfl
  have f2 := hA.free 2
  go_simp
  clear c2 f2
  replace hA := hA.set 2 (.int .i64 512)
  replace hN := hN.other (Ne.symm n_hN_hA') 2 (.int .i64 512)
  replace hb := hb.setCell (p := ⟨ga, 2, none⟩) l_hA (.int .i64 512)
  have hH2 := hS2 _ 2 (.int .i64 512) hHeld
  refine hK.out _ _ hH2 ?_
  clear hK K' hHeld
  have hHeld := hH2
  clear hH2
  generalize World.setCell _ _ _ = WA at *
  try simp only [Act.put, List.setIfInBounds_toArray, List.set_cons_zero, List.set_cons_succ]
  refine rtake 4 rfl (by rfl) (by kernel_rfl) (by kernel_rfl) (by kernel_rfl) (fun c a w h => hpan c a _ _ w h) hHeld (fun wx hwx => by go_simp; try with_reducible rfl) ?_
  try simp only [Act.put, List.setIfInBounds_toArray, List.set_cons_zero, List.set_cons_succ]
  refine rcall 5 rfl (by kernel_rfl) (by rfl) (fun K' hK => ?_)
  have c3 := hA.cell 3 _ rfl
  have f3 := hA.free 3
  go_simp
  clear c3 f3
  replace hA := hA.set 3 (.int .i64 m.1.co)
  replace hN := hN.other (Ne.symm n_hN_hA') 3 (.int .i64 m.1.co)
  replace hb := hb.setCell (p := ⟨ga, 3, none⟩) l_hA (.int .i64 m.1.co)
  have hH2 := hS2 _ 3 (.int .i64 m.1.co) hHeld
  refine hK.out _ _ hH2 ?_
  clear hK K' hHeld
  have hHeld := hH2
  clear hH2
  generalize World.setCell _ _ _ = WB at *
  try simp only [Act.put, List.setIfInBounds_toArray, List.set_cons_zero, List.set_cons_succ]
  refine wpAnyH_done (by kernel_rfl) ?_ _
  replace hA : Box WB ga (msK.enc m3) 31 := by rw [hm3.out]; exact hA
  go_wp2_with fail
  refine wp_label ?_
  go_wp2_with (first | (guard_target =~ wpList _ _ _ (⟨some 23, _, _, _, _, _⟩ :: _) _ _; refine msT.load (op := ⟨some 23, .load _ _, _, _, _, _⟩) (by rfl) _ (by rfl) ga 0 (by rfl) (m3) hA.rangeK ?_) | (guard_target =~ wpList _ _ _ (⟨none, _, _, _, _, _⟩ :: _) _ _; refine msT.store (op := ⟨none, .store _ _ _, _, _, _, _⟩) (by rfl) _ _ (by rfl) (G + 1 + 1) (m3) (zeroM) _ (by rfl) (by rfl) hN ?_))
  refine hret _ _ ?_
  exact bodyPost_ret (v := .tuple #[.agg (msK.enc m3).toArray, .bool true]) (msT.result2 rfl _ _ (G + 1 + 1) _ _ _ rfl rfl (hN.rowK _)) rfl ⟨by rw [e1.out, e2.out], below_setRow hb (by omega) _⟩

end Go.Proofs.Ytelonfmmcpgodaa
