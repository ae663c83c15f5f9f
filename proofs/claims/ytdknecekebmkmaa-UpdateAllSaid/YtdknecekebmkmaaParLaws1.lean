/- carillonlaw14's awake and UpdateAll, from contracts (gen_parlaws.py). -/
import Derived.Test.YtdknecekebmkmaaParRef
namespace Go.Proofs.Ytdknecekebmkmaa
open Go.RowKit Go.Proofs
set_option maxRecDepth 50000
set_option linter.unusedVariables false
set_option linter.unusedSimpArgs false

set_option maxRecDepth 100000 in
set_option maxHeartbeats 8000000 in
theorem awake14_from (HF : CFol) (HS : CSam) (w : World) : Calls Try.prog 13 #[] w fun e w' => e = .returned (.bool true) ∧ Below w.heap.size w w' := by
  have hf := HF { zeroV with gr := 9 } ⟨37, 0, 0⟩ w
  rw [show folP { zeroV with gr := 9 } ⟨37, 0, 0⟩ = ⟨0, 0, 9, 0, 0, 0, 0, 0, 1, 37, 0, 0⟩ by show Pa.mk 0 0 9 0 0 0 0 0 (wrap64 (0 + 1)) 37 0 0 = _; rw [show wrap64 (0 + 1) = 1 by unfold wrap64; decide]] at hf
  obtain ⟨P, hP⟩ : ∃ P : Pa, P = ⟨0, 0, 9, 0, 0, 0, 0, 0, 1, 37, 0, 0⟩ := ⟨_, rfl⟩
  rw [← hP] at hf
  replace hP := hid hP
  have hs := fun w => HS P P w
  rw [sameP_self] at hs
  go_enter Try.func13, Try.ntmps13
  go_wp2_with (first | (guard_target =~ wpList _ _ _ (⟨some 2, _, _, _, _, _⟩ :: _) _ _; refine wpList_build_any (op := ⟨some 2, .build _ _, _, _, _, _⟩) (by rfl) _ _ (by rfl) _ (by rfl) (vecK.enc { zeroV with gr := 9 }).toArray (by kernel_rfl) ?_) | (guard_target =~ wpList _ _ _ (⟨some 3, _, _, _, _, _⟩ :: _) _ _; refine wpList_build_any (op := ⟨some 3, .build _ _, _, _, _, _⟩) (by rfl) _ _ (by rfl) _ (by rfl) (tmK.enc ⟨37, 0, 0⟩).toArray (by kernel_rfl) ?_))
  refine hf.mono ?_
  rintro e w1 ⟨rfl, b1⟩
  clear hf
  have hn1 := bnew w1 (Obj.cells (paK.enc zeroPa).toArray 34)
  have hM0 := Box.new w1 (paK.enc zeroPa) 34
  go_upto_region 2 with (guard_target =~ wpList _ _ _ (⟨none, _, _, _, _, _⟩ :: _) _ _; refine paT.store (op := ⟨none, .store _ _ _, _, _, _, _⟩) (by rfl) _ _ (by rfl) (w1.heap.size) (P) (zeroPa) _ (by rfl) (by rfl) hM0 ?_)
  have hM := hM0.rowK (paK.enc P)
  have hb := bnext b1 (below_setRow hn1 (Nat.le_refl _) (paK.enc P).toArray)
  change Code.wp Try.prog _ _ _ ((w1.alloc (Obj.cells (paK.enc zeroPa).toArray 34)).setRow w1.heap.size (paK.enc P).toArray)
  generalize (w1.alloc (Obj.cells (paK.enc zeroPa).toArray 34)).setRow w1.heap.size (paK.enc P).toArray = W at *
  generalize w1.heap.size = g9 at *
  clear hn1 hM0
  have c2 : W.cell? ⟨g9, 2, none⟩ = some (.int .u64 9) := hM.cell 2 _ (by rw [hP.out]; rfl)
  have c8 : W.cell? ⟨g9, 8, none⟩ = some (.int .i64 1) := hM.cell 8 _ (by rw [hP.out]; rfl)
  have c9 : W.cell? ⟨g9, 9, none⟩ = some (.int .i64 37) := hM.cell 9 _ (by rw [hP.out]; rfl)
  go_wp2_with (first | (guard_target =~ wpList _ _ _ (⟨some 20, _, _, _, _, _⟩ :: _) _ _; refine paT.load_g (op := ⟨some 20, .load _ _, _, _, _, _⟩) (by rfl) _ (by rfl) g9 0 (by rfl) (P) hM.rangeK ?_) | (guard_target =~ wpList _ _ _ (⟨some 21, _, _, _, _, _⟩ :: _) _ _; refine paT.load_g (op := ⟨some 21, .load _ _, _, _, _, _⟩) (by rfl) _ (by rfl) g9 0 (by rfl) (P) hM.rangeK ?_))
  refine (hs _).mono ?_
  rintro e w2 ⟨rfl, b2⟩
  go_wp2_with fail
  go_ret
  exact ⟨rfl, bnext hb b2⟩

set_option maxRecDepth 100000 in
set_option maxHeartbeats 8000000 in
theorem updateAll_from (HO : COwnP) (HF : CFol) (HY : CSay) (HS : CSam) (c : Cf) (v : Vc) (hv : VcIn v) (t : Tm) (p : Pa) (port seq : Int) (w : World) :
    Calls Try.prog 3 #[.agg (cfK.enc c).toArray, .agg (vecK.enc v).toArray, .agg (tmK.enc t).toArray, .agg (paK.enc p).toArray, .int .i64 port, .int .i64 seq] w fun e w' => e = .returned (.bool true) ∧ Below w.heap.size w w' := by
  have z0 := bnew w (Obj.cells (cfL c).toArray 28)
  have hC := Box.new w (cfL c) 28
  have z1 := bnew (w.alloc (Obj.cells (cfL c).toArray 28)) (Obj.cells (vcL v).toArray 32)
  have hV := Box.new (w.alloc (Obj.cells (cfL c).toArray 28)) (vcL v) 32
  replace hC := hC.below z1
  have z2 := bnew ((w.alloc (Obj.cells (cfL c).toArray 28)).alloc (Obj.cells (vcL v).toArray 32)) (Obj.cells (tmL t).toArray 26)
  have hT := Box.new ((w.alloc (Obj.cells (cfL c).toArray 28)).alloc (Obj.cells (vcL v).toArray 32)) (tmL t) 26
  replace hC := hC.below z2
  replace hV := hV.below z2
  have z3 := bnew (((w.alloc (Obj.cells (cfL c).toArray 28)).alloc (Obj.cells (vcL v).toArray 32)).alloc (Obj.cells (tmL t).toArray 26)) (Obj.cells (paL p).toArray 34)
  have hP := Box.new (((w.alloc (Obj.cells (cfL c).toArray 28)).alloc (Obj.cells (vcL v).toArray 32)).alloc (Obj.cells (tmL t).toArray 26)) (paL p) 34
  replace hC := hC.below z3
  replace hV := hV.below z3
  replace hT := hT.below z3
  have hb := z0
  replace hb := bnext hb z1
  replace hb := bnext hb z2
  replace hb := bnext hb z3
  clear z0
  clear z1
  clear z2
  clear z3
  have s1 : (w.alloc (Obj.cells (cfL c).toArray 28)).heap.size = w.heap.size + 1 := by simp
  rw [s1] at hV
  have s2 : ((w.alloc (Obj.cells (cfL c).toArray 28)).alloc (Obj.cells (vcL v).toArray 32)).heap.size = w.heap.size + 1 + 1 := by simp
  rw [s2] at hT
  have s3 : (((w.alloc (Obj.cells (cfL c).toArray 28)).alloc (Obj.cells (vcL v).toArray 32)).alloc (Obj.cells (tmL t).toArray 26)).heap.size = w.heap.size + 1 + 1 + 1 := by simp
  rw [s3] at hP
  go_enter Try.func3, Try.ntmps3
  go_upto_region 1 with fail
  change Code.wp Try.prog _ _ _ ((((w.alloc (Obj.cells (cfL c).toArray 28)).alloc (Obj.cells (vcL v).toArray 32)).alloc (Obj.cells (tmL t).toArray 26)).alloc (Obj.cells (paL p).toArray 34))
  generalize ((((w.alloc (Obj.cells (cfL c).toArray 28)).alloc (Obj.cells (vcL v).toArray 32)).alloc (Obj.cells (tmL t).toArray 26)).alloc (Obj.cells (paL p).toArray 34)) = W at *
  clear s1 s2 s3
  generalize hG : w.heap.size = G at *
  rw [← hG] at hb
  have e1 := equal_pa (ownP c) (ownP c)
  have e2 := equal_pa (folP v t) (folP v t)
  have e3 := same_ms (sayM c p port seq)
  have e4 := equal_pa p (ownP c)
  have hs := fun w => HS p (ownP c) w
  have ho := fun w => HO c w
  have hro := fun w => refOwnP_any c w
  have hf := fun w => HF v t w
  have hrf := fun w => refFollow_any v t w
  have hy := fun w => HY c p port seq w
  have hry := fun w => refSay_any c p port seq w
  rw [sameP_self] at e1 e2
  generalize sameP p (ownP c) = B at *
  generalize ownP c = Q1 at *
  generalize folP v t = Q2 at *
  generalize sayM c p port seq = M1 at *
  refine wp_region_held_drew (S := fun w' => Below W.drew.heap.size W.drew w') (by kernel_rfl) (Below.refl _ _) ?_
  intro hHeld
  have hbd := Below.drew (Below.refl W.heap.size W)
  replace hb := bnext hb hbd
  replace hC := hC.below hbd
  replace hV := hV.below hbd
  replace hT := hT.below hbd
  replace hP := hP.below hbd
  clear hbd
  generalize W.drew = WD at *
  refine rtake 0 rfl (by rfl) (by kernel_rfl) (by kernel_rfl) (by kernel_rfl) (fun _ _ _ h => h) hHeld (fun wx hwx => cfT.exec _ rfl G 0 rfl (c) (hC.below hwx).rangeK) ?_
  try simp only [Act.put, List.setIfInBounds_toArray, List.set_cons_zero, List.set_cons_succ]
  refine rtake 2 rfl (by rfl) (by kernel_rfl) (by kernel_rfl) (by kernel_rfl) (fun _ _ _ h => h) hHeld (fun wx hwx => cfT.exec _ rfl G 0 rfl (c) (hC.below hwx).rangeK) ?_
  try simp only [Act.put, List.setIfInBounds_toArray, List.set_cons_zero, List.set_cons_succ]
  refine rcall 1 rfl (by kernel_rfl) (by rfl) (fun K' hK => ?_)
  go_simp
  refine (ho _).mono ?_
  rintro e wq ⟨rfl, bq⟩
  refine hK.out _ _ bq ?_
  clear hK K'
  refine wpAnyH_mono (S' := fun w' => Below wq.heap.size wq w') (fun w' h => bnext bq h) _ _ _ _ ?_
  replace hb := bnext hb bq
  replace hC := hC.below bq
  replace hV := hV.below bq
  replace hT := hT.below bq
  replace hP := hP.below bq
  clear hHeld bq
  have hHeld := Below.refl wq.heap.size wq
  try simp only [Act.put, List.setIfInBounds_toArray, List.set_cons_zero, List.set_cons_succ]
  refine rcall 3 rfl (by kernel_rfl) (by rfl) (fun K' hK => ?_)
  go_simp
  refine (hro _).mono ?_
  rintro e wq ⟨rfl, bq⟩
  refine hK.out _ _ bq ?_
  clear hK K'
  refine wpAnyH_mono (S' := fun w' => Below wq.heap.size wq w') (fun w' h => bnext bq h) _ _ _ _ ?_
  replace hb := bnext hb bq
  replace hC := hC.below bq
  replace hV := hV.below bq
  replace hT := hT.below bq
  replace hP := hP.below bq
  clear hHeld bq
  have hHeld := Below.refl wq.heap.size wq
  try simp only [Act.put, List.setIfInBounds_toArray, List.set_cons_zero, List.set_cons_succ]
  refine rtake 4 rfl (by rfl) (by kernel_rfl) (by kernel_rfl) (by kernel_rfl) (fun _ _ _ h => h) hHeld (fun wx hwx => by go_simp; try with_reducible rfl) ?_
  try simp only [Act.put, List.setIfInBounds_toArray, List.set_cons_zero, List.set_cons_succ]
  refine rtake 5 rfl (by rfl) (by kernel_rfl) (by kernel_rfl) (by kernel_rfl) (fun _ _ _ h => h) hHeld (fun wx hwx => by go_simp; try with_reducible rfl) ?_
  try simp only [Act.put, List.setIfInBounds_toArray, List.set_cons_zero, List.set_cons_succ]
  refine rtake 6 rfl (by rfl) (by kernel_rfl) (by kernel_rfl) (by kernel_rfl) (fun _ _ _ h => h) hHeld (fun wx hwx => vecT.exec _ rfl (G + 1) 0 rfl (v) (hV.below hwx).rangeK) ?_
  try simp only [Act.put, List.setIfInBounds_toArray, List.set_cons_zero, List.set_cons_succ]
  refine rtake 7 rfl (by rfl) (by kernel_rfl) (by kernel_rfl) (by kernel_rfl) (fun _ _ _ h => h) hHeld (fun wx hwx => tmT.exec _ rfl (G + 1 + 1) 0 rfl (t) (hT.below hwx).rangeK) ?_
  try simp only [Act.put, List.setIfInBounds_toArray, List.set_cons_zero, List.set_cons_succ]
  refine rtake 9 rfl (by rfl) (by kernel_rfl) (by kernel_rfl) (by kernel_rfl) (fun _ _ _ h => h) hHeld (fun wx hwx => vecT.exec _ rfl (G + 1) 0 rfl (v) (hV.below hwx).rangeK) ?_
  try simp only [Act.put, List.setIfInBounds_toArray, List.set_cons_zero, List.set_cons_succ]
  refine rtake 10 rfl (by rfl) (by kernel_rfl) (by kernel_rfl) (by kernel_rfl) (fun _ _ _ h => h) hHeld (fun wx hwx => tmT.exec _ rfl (G + 1 + 1) 0 rfl (t) (hT.below hwx).rangeK) ?_
  try simp only [Act.put, List.setIfInBounds_toArray, List.set_cons_zero, List.set_cons_succ]
  refine rcall 8 rfl (by kernel_rfl) (by rfl) (fun K' hK => ?_)
  go_simp
  refine (hf _).mono ?_
  rintro e wq ⟨rfl, bq⟩
  refine hK.out _ _ bq ?_
  clear hK K'
  refine wpAnyH_mono (S' := fun w' => Below wq.heap.size wq w') (fun w' h => bnext bq h) _ _ _ _ ?_
  replace hb := bnext hb bq
  replace hC := hC.below bq
  replace hV := hV.below bq
  replace hT := hT.below bq
  replace hP := hP.below bq
  clear hHeld bq
  have hHeld := Below.refl wq.heap.size wq
  try simp only [Act.put, List.setIfInBounds_toArray, List.set_cons_zero, List.set_cons_succ]
  refine rcall 11 rfl (by kernel_rfl) (by rfl) (fun K' hK => ?_)
  go_simp
  refine (hrf _).mono ?_
  rintro e wq ⟨rfl, bq⟩
  refine hK.out _ _ bq ?_
  clear hK K'
  refine wpAnyH_mono (S' := fun w' => Below wq.heap.size wq w') (fun w' h => bnext bq h) _ _ _ _ ?_
  replace hb := bnext hb bq
  replace hC := hC.below bq
  replace hV := hV.below bq
  replace hT := hT.below bq
  replace hP := hP.below bq
  clear hHeld bq
  have hHeld := Below.refl wq.heap.size wq
  try simp only [Act.put, List.setIfInBounds_toArray, List.set_cons_zero, List.set_cons_succ]
  refine rtake 12 rfl (by rfl) (by kernel_rfl) (by kernel_rfl) (by kernel_rfl) (fun _ _ _ h => h) hHeld (fun wx hwx => by go_simp; try with_reducible rfl) ?_
  try simp only [Act.put, List.setIfInBounds_toArray, List.set_cons_zero, List.set_cons_succ]
  refine rtake 13 rfl (by rfl) (by kernel_rfl) (by kernel_rfl) (by kernel_rfl) (fun _ _ _ h => h) hHeld (fun wx hwx => by go_simp; try with_reducible rfl) ?_
  try simp only [Act.put, List.setIfInBounds_toArray, List.set_cons_zero, List.set_cons_succ]
  refine rtake 14 rfl (by rfl) (by kernel_rfl) (by kernel_rfl) (by kernel_rfl) (fun _ _ _ h => h) hHeld (fun wx hwx => by go_simp; try with_reducible rfl) ?_
  try simp only [Act.put, List.setIfInBounds_toArray, List.set_cons_zero, List.set_cons_succ]
  refine rtake 15 rfl (by rfl) (by kernel_rfl) (by kernel_rfl) (by kernel_rfl) (fun _ _ _ h => h) hHeld (fun wx hwx => cfT.exec _ rfl G 0 rfl (c) (hC.below hwx).rangeK) ?_
  try simp only [Act.put, List.setIfInBounds_toArray, List.set_cons_zero, List.set_cons_succ]
  refine rtake 16 rfl (by rfl) (by kernel_rfl) (by kernel_rfl) (by kernel_rfl) (fun _ _ _ h => h) hHeld (fun wx hwx => paT.exec _ rfl (G + 1 + 1 + 1) 0 rfl (p) (hP.below hwx).rangeK) ?_
  try simp only [Act.put, List.setIfInBounds_toArray, List.set_cons_zero, List.set_cons_succ]
  refine rtake 17 rfl (by rfl) (by kernel_rfl) (by kernel_rfl) (by kernel_rfl) (fun _ _ _ h => h) hHeld (fun wx hwx => by go_simp; try with_reducible rfl) ?_
  try simp only [Act.put, List.setIfInBounds_toArray, List.set_cons_zero, List.set_cons_succ]
  refine rtake 18 rfl (by rfl) (by kernel_rfl) (by kernel_rfl) (by kernel_rfl) (fun _ _ _ h => h) hHeld (fun wx hwx => by go_simp; try with_reducible rfl) ?_
  try simp only [Act.put, List.setIfInBounds_toArray, List.set_cons_zero, List.set_cons_succ]
  refine rtake 20 rfl (by rfl) (by kernel_rfl) (by kernel_rfl) (by kernel_rfl) (fun _ _ _ h => h) hHeld (fun wx hwx => cfT.exec _ rfl G 0 rfl (c) (hC.below hwx).rangeK) ?_
  try simp only [Act.put, List.setIfInBounds_toArray, List.set_cons_zero, List.set_cons_succ]
  refine rtake 21 rfl (by rfl) (by kernel_rfl) (by kernel_rfl) (by kernel_rfl) (fun _ _ _ h => h) hHeld (fun wx hwx => paT.exec _ rfl (G + 1 + 1 + 1) 0 rfl (p) (hP.below hwx).rangeK) ?_
  try simp only [Act.put, List.setIfInBounds_toArray, List.set_cons_zero, List.set_cons_succ]
  refine rtake 22 rfl (by rfl) (by kernel_rfl) (by kernel_rfl) (by kernel_rfl) (fun _ _ _ h => h) hHeld (fun wx hwx => by go_simp; try with_reducible rfl) ?_
  try simp only [Act.put, List.setIfInBounds_toArray, List.set_cons_zero, List.set_cons_succ]
  refine rtake 23 rfl (by rfl) (by kernel_rfl) (by kernel_rfl) (by kernel_rfl) (fun _ _ _ h => h) hHeld (fun wx hwx => by go_simp; try with_reducible rfl) ?_
  try simp only [Act.put, List.setIfInBounds_toArray, List.set_cons_zero, List.set_cons_succ]
  refine rcall 19 rfl (by kernel_rfl) (by rfl) (fun K' hK => ?_)
  go_simp
  refine (hy _).mono ?_
  rintro e wq ⟨rfl, bq⟩
  refine hK.out _ _ bq ?_
  clear hK K'
  refine wpAnyH_mono (S' := fun w' => Below wq.heap.size wq w') (fun w' h => bnext bq h) _ _ _ _ ?_
  replace hb := bnext hb bq
  replace hC := hC.below bq
  replace hV := hV.below bq
  replace hT := hT.below bq
  replace hP := hP.below bq
  clear hHeld bq
  have hHeld := Below.refl wq.heap.size wq
  try simp only [Act.put, List.setIfInBounds_toArray, List.set_cons_zero, List.set_cons_succ]
  refine rcall 24 rfl (by kernel_rfl) (by rfl) (fun K' hK => ?_)
  go_simp
  refine (hry _).mono ?_
  rintro e wq ⟨rfl, bq⟩
  refine hK.out _ _ bq ?_
  clear hK K'
  refine wpAnyH_mono (S' := fun w' => Below wq.heap.size wq w') (fun w' h => bnext bq h) _ _ _ _ ?_
  replace hb := bnext hb bq
  replace hC := hC.below bq
  replace hV := hV.below bq
  replace hT := hT.below bq
  replace hP := hP.below bq
  clear hHeld bq
  have hHeld := Below.refl wq.heap.size wq
  try simp only [Act.put, List.setIfInBounds_toArray, List.set_cons_zero, List.set_cons_succ]
  refine rtake 25 rfl (by rfl) (by kernel_rfl) (by kernel_rfl) (by kernel_rfl) (fun _ _ _ h => h) hHeld (fun wx hwx => by go_simp; try with_reducible rfl) ?_
  try simp only [Act.put, List.setIfInBounds_toArray, List.set_cons_zero, List.set_cons_succ]
  refine rtake 26 rfl (by rfl) (by kernel_rfl) (by kernel_rfl) (by kernel_rfl) (fun _ _ _ h => h) hHeld (fun wx hwx => by go_simp; try with_reducible rfl) ?_
  try simp only [Act.put, List.setIfInBounds_toArray, List.set_cons_zero, List.set_cons_succ]
  refine rtake 27 rfl (by rfl) (by kernel_rfl) (by kernel_rfl) (by kernel_rfl) (fun _ _ _ h => h) hHeld (fun wx hwx => by go_simp; try with_reducible rfl) ?_
  try simp only [Act.put, List.setIfInBounds_toArray, List.set_cons_zero, List.set_cons_succ]
  refine rtake 28 rfl (by rfl) (by kernel_rfl) (by kernel_rfl) (by kernel_rfl) (fun _ _ _ h => h) hHeld (fun wx hwx => paT.exec _ rfl (G + 1 + 1 + 1) 0 rfl (p) (hP.below hwx).rangeK) ?_
  try simp only [Act.put, List.setIfInBounds_toArray, List.set_cons_zero, List.set_cons_succ]
  refine rtake 29 rfl (by rfl) (by kernel_rfl) (by kernel_rfl) (by kernel_rfl) (fun _ _ _ h => h) hHeld (fun wx hwx => cfT.exec _ rfl G 0 rfl (c) (hC.below hwx).rangeK) ?_
  try simp only [Act.put, List.setIfInBounds_toArray, List.set_cons_zero, List.set_cons_succ]
  refine rtake 32 rfl (by rfl) (by kernel_rfl) (by kernel_rfl) (by kernel_rfl) (fun _ _ _ h => h) hHeld (fun wx hwx => paT.exec _ rfl (G + 1 + 1 + 1) 0 rfl (p) (hP.below hwx).rangeK) ?_
  try simp only [Act.put, List.setIfInBounds_toArray, List.set_cons_zero, List.set_cons_succ]
  refine rtake 33 rfl (by rfl) (by kernel_rfl) (by kernel_rfl) (by kernel_rfl) (fun _ _ _ h => h) hHeld (fun wx hwx => cfT.exec _ rfl G 0 rfl (c) (hC.below hwx).rangeK) ?_
  try simp only [Act.put, List.setIfInBounds_toArray, List.set_cons_zero, List.set_cons_succ]
  refine rcall 30 rfl (by kernel_rfl) (by rfl) (fun K' hK => ?_)
  go_simp
  refine (ho _).mono ?_
  rintro e wq ⟨rfl, bq⟩
  refine hK.out _ _ bq ?_
  clear hK K'
  refine wpAnyH_mono (S' := fun w' => Below wq.heap.size wq w') (fun w' h => bnext bq h) _ _ _ _ ?_
  replace hb := bnext hb bq
  replace hC := hC.below bq
  replace hV := hV.below bq
  replace hT := hT.below bq
  replace hP := hP.below bq
  clear hHeld bq
  have hHeld := Below.refl wq.heap.size wq
  try simp only [Act.put, List.setIfInBounds_toArray, List.set_cons_zero, List.set_cons_succ]
  refine rcall 31 rfl (by kernel_rfl) (by rfl) (fun K' hK => ?_)
  go_simp
  refine (hs _).mono ?_
  rintro e wq ⟨rfl, bq⟩
  refine hK.out _ _ bq ?_
  clear hK K'
  refine wpAnyH_mono (S' := fun w' => Below wq.heap.size wq w') (fun w' h => bnext bq h) _ _ _ _ ?_
  replace hb := bnext hb bq
  replace hC := hC.below bq
  replace hV := hV.below bq
  replace hT := hT.below bq
  replace hP := hP.below bq
  clear hHeld bq
  have hHeld := Below.refl wq.heap.size wq
  try simp only [Act.put, List.setIfInBounds_toArray, List.set_cons_zero, List.set_cons_succ]
  refine rcall 34 rfl (by kernel_rfl) (by rfl) (fun K' hK => ?_)
  go_simp
  refine (hro _).mono ?_
  rintro e wq ⟨rfl, bq⟩
  refine hK.out _ _ bq ?_
  clear hK K'
  refine wpAnyH_mono (S' := fun w' => Below wq.heap.size wq w') (fun w' h => bnext bq h) _ _ _ _ ?_
  replace hb := bnext hb bq
  replace hC := hC.below bq
  replace hV := hV.below bq
  replace hT := hT.below bq
  replace hP := hP.below bq
  clear hHeld bq
  have hHeld := Below.refl wq.heap.size wq
  try simp only [Act.put, List.setIfInBounds_toArray, List.set_cons_zero, List.set_cons_succ]
  refine rtake 35 rfl (by rfl) (by kernel_rfl) (by kernel_rfl) (by kernel_rfl) (fun _ _ _ h => h) hHeld (fun wx hwx => by go_simp; try with_reducible rfl) ?_
  try simp only [Act.put, List.setIfInBounds_toArray, List.set_cons_zero, List.set_cons_succ]
  refine rtake 36 rfl (by rfl) (by kernel_rfl) (by kernel_rfl) (by kernel_rfl) (fun _ _ _ h => h) hHeld (fun wx hwx => by go_simp; try with_reducible rfl) ?_
  try simp only [Act.put, List.setIfInBounds_toArray, List.set_cons_zero, List.set_cons_succ]
  refine rtake 37 rfl (by rfl) (by kernel_rfl) (by kernel_rfl) (by kernel_rfl) (fun _ _ _ h => h) hHeld (fun wx hwx => by go_simp; try with_reducible rfl) ?_
  try simp only [Act.put, List.setIfInBounds_toArray, List.set_cons_zero, List.set_cons_succ]
  refine rtake 38 rfl (by rfl) (by kernel_rfl) (by kernel_rfl) (by kernel_rfl) (fun _ _ _ h => h) hHeld (fun wx hwx => by go_simp; try with_reducible rfl) ?_
  try simp only [Act.put, List.setIfInBounds_toArray, List.set_cons_zero, List.set_cons_succ]
  refine rcall 39 rfl (by kernel_rfl) (by rfl) (fun K' hK => ?_)
  go_simp
  refine (awake14_from HF HS _).mono ?_
  rintro e wq ⟨rfl, bq⟩
  refine hK.out _ _ bq ?_
  clear hK K'
  refine wpAnyH_mono (S' := fun w' => Below wq.heap.size wq w') (fun w' h => bnext bq h) _ _ _ _ ?_
  replace hb := bnext hb bq
  replace hC := hC.below bq
  replace hV := hV.below bq
  replace hT := hT.below bq
  replace hP := hP.below bq
  clear hHeld bq
  have hHeld := Below.refl wq.heap.size wq
  try simp only [Act.put, List.setIfInBounds_toArray, List.set_cons_zero, List.set_cons_succ]
  refine rtake 40 rfl (by rfl) (by kernel_rfl) (by kernel_rfl) (by kernel_rfl) (fun _ _ _ h => h) hHeld (fun wx hwx => by go_simp; try with_reducible rfl) ?_
  try simp only [Act.put, List.setIfInBounds_toArray, List.set_cons_zero, List.set_cons_succ]
  refine rtake 41 rfl (by rfl) (by kernel_rfl) (by kernel_rfl) (by kernel_rfl) (fun _ _ _ h => h) hHeld (fun wx hwx => by go_simp; try with_reducible rfl) ?_
  try simp only [Act.put, List.setIfInBounds_toArray, List.set_cons_zero, List.set_cons_succ]
  refine wpAnyH_done (by kernel_rfl) ?_ _
  clear hHeld
  go_wp2_with fail
  go_ret
  exact ⟨rfl, hb⟩
end Go.Proofs.Ytdknecekebmkmaa
