/- carillonlaw17's awake, DelayClears, DelayNext, from contracts (gen_dellaws.py). -/
import Derived.Test.YtnlmncpiccehjaaDel
import Derived.Test.YtnlmncpiccehjaaBuild
import Derived.Test.YtnlmncpiccehjaaPlace
namespace Go.Proofs.Ytnlmncpiccehjaa
open Go.RowKit Go.Proofs
set_option maxRecDepth 50000
set_option linter.unusedVariables false
set_option linter.unusedSimpArgs false

set_option maxRecDepth 100000 in
set_option maxHeartbeats 8000000 in
theorem awake17_from {R : List Value → Xs → Prop} (HNew : CNewX R) (HR : CReq R) (HS : CSent R) (HP : CResp R) (w : World) :
    Calls Try.prog 20 #[] w fun e w' => e = .returned (.bool true) ∧ Below w.heap.size w w' := by
  go_enter Try.func20, Try.ntmps20
  go_wp2_with (guard_target =~ wpList _ _ _ (⟨some 6, _, _, _, _, _⟩ :: _) _ _; refine wpList_build_any (op := ⟨some 6, .build _ _, _, _, _, _⟩) (by rfl) _ _ (by rfl) _ (by rfl) (prK.enc (1, 1)).toArray (by kernel_rfl) ?_)
  refine (HNew (1, 1) 0 w (by decide)).mono ?_
  rintro e w1 ⟨gx, rfl, hg, h9, bq⟩
  have l_hX : w.heap.size ≤ gx := hg
  have hb := bq
  clear bq
  have hX := h9
  clear h9 hg
  obtain ⟨m1, hm1⟩ : ∃ m1 : Hd × Bd, m1 = ((⟨9, 0, 0, 0, 0, 0, 7, 0⟩, { bd0 with st := 160, tc := 1, tp := 1 }) : Hd × Bd) := ⟨_, rfl⟩
  have ok1 : HdOk m1.1 := by rw [hm1]; exact hd_okx (by decide) (by decide) (by decide) (by decide)
  have b0 : reqS ⟨(1, 1), 0, none⟩ 7 = ⟨(1, 1), 0, some (7, none)⟩ := rfl
  have b1 := sent_yes (x := ⟨(1, 1), 0, some (7, none)⟩) (n := 7) (at' := 100) rfl
  have b2 := resp_yes (x := ⟨(1, 1), 0, some (7, some 100)⟩) (m := m1) (s := 7) (t := 100) rfl (by rw [hm1]) (by rw [hm1]) (by rw [hm1]) (by rw [hm1])
  have b3 : diffX m1.2.st 100 m1.1.co = 60 := by rw [hm1]; show diffX 160 100 0 = 60; unfold diffX wrap64; decide
  rw [b3] at b2
  replace hm1 := hid hm1
  obtain ⟨M0, hM0'⟩ : ∃ M0, reqM ⟨(1, 1), 0, none⟩ 7 = M0 := ⟨_, rfl⟩
  have t0 : M0.1.ty = 1 := by rw [← hM0']; rfl
  go_wp2_with fail
  refine (HR gx ⟨(1, 1), 0, none⟩ 7 0 w1 hX (by decide)).mono ?_
  rintro e w2 ⟨rfl, h9, oq⟩
  replace hb := Only.below hb oq l_hX hb.size
  replace hX := h9
  clear h9 oq
  rw [hM0']
  rw [b0] at hX
  replace hM0' := hid hM0'
  have hn1 := bnew w2 (Obj.cells (msK.enc (zeroM)).toArray 34)
  have hM0 := Box.new w2 (msK.enc (zeroM)) 34
  go_upto_region 5 with (guard_target =~ wpList _ _ _ (⟨none, _, _, _, _, _⟩ :: _) _ _; refine msT.store (op := ⟨none, .store _ _ _, _, _, _, _⟩) (by rfl) _ _ (by rfl) (w2.heap.size) (M0) (zeroM) _ (by rfl) (by rfl) hM0 ?_)
  have n_hX_hM : gx ≠ w2.heap.size := by have h1 := hX.lt; have h2 := Nat.le_refl w2.heap.size; omega
  have l_hM : w.heap.size ≤ w2.heap.size := Nat.le_trans hb.size (Nat.le_refl w2.heap.size)
  have hM := hM0.rowK (msK.enc (M0))
  replace hX := (hX.below hn1).row (k := w2.heap.size) n_hX_hM (msK.enc (M0)).toArray
  have hW := below_setRow hn1 (Nat.le_refl _) (msK.enc (M0)).toArray
  replace hb := bnext hb hW
  change Code.wp Try.prog _ _ _ ((w2.alloc (Obj.cells (msK.enc (zeroM)).toArray 34)).setRow w2.heap.size (msK.enc (M0)).toArray)
  generalize (w2.alloc (Obj.cells (msK.enc (zeroM)).toArray 34)).setRow w2.heap.size (msK.enc (M0)).toArray = w3 at *
  clear hn1 hM0 hW
  generalize w2.heap.size = gm at *
  go_wp2_with fail
  refine (HS gx ⟨(1, 1), 0, some (7, none)⟩ 7 100 w3 hX).mono ?_
  rintro e w4 ⟨rfl, h9, oq⟩
  replace hM := hM.only oq (Ne.symm n_hX_hM)
  replace hb := Only.below hb oq l_hX hb.size
  replace hX := h9
  clear h9 oq
  rw [b1.1]
  rw [b1.2] at hX
  go_wp2_with (first | (guard_target =~ wpList _ _ _ (⟨some 16, _, _, _, _, _⟩ :: _) _ _; refine wpList_build_any (op := ⟨some 16, .build _ _, _, _, _, _⟩) (by rfl) _ _ (by rfl) _ (by rfl) (prK.enc (1, 1)).toArray (by kernel_rfl) ?_) | (guard_target =~ wpList _ _ _ (⟨some 17, _, _, _, _, _⟩ :: _) _ _; refine wpList_build_any (op := ⟨some 17, .build _ _, _, _, _, _⟩) (by rfl) _ _ (by rfl) _ (by rfl) (msK.enc m1).toArray (by rw [hm1.out]; kernel_rfl) ?_))
  refine (HP gx ⟨(1, 1), 0, some (7, some 100)⟩ m1 w4 hX ok1).mono ?_
  rintro e w5 ⟨rfl, h9, oq⟩
  replace hM := hM.only oq (Ne.symm n_hX_hM)
  replace hb := Only.below hb oq l_hX hb.size
  replace hX := h9
  clear h9 oq
  rw [b2.1, b2.2.1]
  have c0 := hM.cell 0 _ rfl
  have c0' : w5.cell? ⟨gm, 0, none⟩ = some (.int .i64 1) := by rw [c0]; show some (Value.int .i64 M0.1.ty) = _; rw [t0]
  clear c0
  go_wp2_with fail
  go_ret
  exact ⟨rfl, hb⟩

set_option maxRecDepth 100000 in
set_option maxHeartbeats 8000000 in
theorem delayClears_from {R : List Value → Xs → Prop} (HNew : CNewX R) (HR : CReq R) (HS : CSent R) (HP : CResp R) (HC : CClrX R) (HA : CAns) (me : Int × Int) (hme : 0 ≤ me.1 ∧ me.1 < 18446744073709551616) (n : Int) (hn : -9223372036854775808 ≤ n ∧ n ≤ 9223372036854775807) (w : World) :
    Calls Try.prog 6 #[.agg (prK.enc me).toArray, .int .i64 n] w fun e w' => e = .returned (.bool true) ∧ Below w.heap.size w w' := by
  have z0 := bnew w (Obj.cells (prK.enc me).toArray 24)
  have hP := Box.new w (prK.enc me) 24
  have hb := z0
  clear z0
  go_enter Try.func6, Try.ntmps6
  go_upto_region 1 with fail
  change Code.wp Try.prog _ _ _ (w.alloc (Obj.cells (prK.enc me).toArray 24))
  generalize (w.alloc (Obj.cells (prK.enc me).toArray 24)) = W at *
  generalize hG : w.heap.size = G at *
  rw [← hG] at hb
  have l_hP : w.heap.size ≤ G := by omega
  go_wp2_with (guard_target =~ wpList _ _ _ (⟨some 11, _, _, _, _, _⟩ :: _) _ _; refine prT.load (op := ⟨some 11, .load _ _, _, _, _, _⟩) (by rfl) _ (by rfl) G 0 (by rfl) (me) hP.rangeK ?_)
  refine (HNew me 0 W hme).mono ?_
  rintro e w1 ⟨gx, rfl, hg, h9, bq⟩
  have n_hP_hX : G ≠ gx := by have h1 := hP.lt; have h2 := hg; omega
  have l_hX : w.heap.size ≤ gx := Nat.le_trans hb.size (hg)
  replace hP := hP.below bq
  replace hb := bnext hb bq
  clear bq
  have hX := h9
  clear h9 hg
  obtain ⟨M0, hM0'⟩ : ∃ M0, reqM ⟨me, 0, none⟩ n = M0 := ⟨_, rfl⟩
  obtain ⟨k, hk⟩ : ∃ k, n % 65536 = k := ⟨_, rfl⟩
  have t0 : M0.1.ty = 1 ∧ M0.1.sq = k ∧ M0.1.co = 0 ∧ M0.1.sc = me.1 := by rw [← hM0', ← hk]; exact ⟨rfl, rfl, rfl, rfl⟩
  have ok0 : HdOk M0.1 := hd_okx (by rw [t0.2.2.2]; exact hme.1) (by rw [t0.2.2.2]; exact hme.2) (by rw [t0.2.2.1]; decide) (by rw [t0.2.2.1]; decide)
  have b0 : reqS ⟨me, 0, none⟩ n = ⟨me, 0, some (k, none)⟩ := by rw [← hk]; rfl
  have b1 := sent_yes (x := ⟨me, 0, some (k, none)⟩) (n := k) (at' := 10) rfl
  obtain ⟨M1, hM1'⟩ : ∃ M1, answM M0 (8, 1) 50 3 = M1 := ⟨_, rfl⟩
  have b2 := answ_yes (me := (8, 1)) (log := 3) (at' := 50) t0.1 (by decide) (by decide)
  rw [hM1'] at b2
  have t1 : M1.1.ty = 9 ∧ M1.1.lg = 3 ∧ M1.1.co = 0 ∧ M1.1.sc = 8 := by rw [b2.2]; exact ⟨rfl, rfl, t0.2.2.1, rfl⟩
  have ok1 : HdOk M1.1 := hd_okx (by rw [t1.2.2.2]; decide) (by rw [t1.2.2.2]; decide) (by rw [t1.2.2.1]; decide) (by rw [t1.2.2.1]; decide)
  have b3 := resp_none (x := ⟨me, 0, none⟩) (m := M1) rfl
  have b4 := sent_none (x := ⟨me, 0, none⟩) (n := k) (at' := 11) rfl
  replace b2 := b2.1
  replace hM0' := hid hM0'
  replace hM1' := hid hM1'
  clear hk
  go_wp2_with fail
  refine (HR gx ⟨me, 0, none⟩ n 0 w1 hX hn).mono ?_
  rintro e w2 ⟨rfl, h9, oq⟩
  replace hP := hP.only oq n_hP_hX
  replace hb := Only.below hb oq l_hX hb.size
  replace hX := h9
  clear h9 oq
  rw [hM0'.out]
  rw [b0] at hX
  have hn1 := bnew w2 (Obj.cells (msK.enc (zeroM)).toArray 34)
  have hM0 := Box.new w2 (msK.enc (zeroM)) 34
  go_upto_region 5 with (guard_target =~ wpList _ _ _ (⟨none, _, _, _, _, _⟩ :: _) _ _; refine msT.store (op := ⟨none, .store _ _ _, _, _, _, _⟩) (by rfl) _ _ (by rfl) (w2.heap.size) (M0) (zeroM) _ (by rfl) (by rfl) hM0 ?_)
  have n_hP_hM : G ≠ w2.heap.size := by have h1 := hP.lt; have h2 := Nat.le_refl w2.heap.size; omega
  have n_hX_hM : gx ≠ w2.heap.size := by have h1 := hX.lt; have h2 := Nat.le_refl w2.heap.size; omega
  have l_hM : w.heap.size ≤ w2.heap.size := Nat.le_trans hb.size (Nat.le_refl w2.heap.size)
  have hM := hM0.rowK (msK.enc (M0))
  replace hP := (hP.below hn1).rowK_other (k := w2.heap.size) n_hP_hM (msK.enc (M0)).toArray
  replace hX := (hX.below hn1).row (k := w2.heap.size) n_hX_hM (msK.enc (M0)).toArray
  have hW := below_setRow hn1 (Nat.le_refl _) (msK.enc (M0)).toArray
  replace hb := bnext hb hW
  change Code.wp Try.prog _ _ _ ((w2.alloc (Obj.cells (msK.enc (zeroM)).toArray 34)).setRow w2.heap.size (msK.enc (M0)).toArray)
  generalize (w2.alloc (Obj.cells (msK.enc (zeroM)).toArray 34)).setRow w2.heap.size (msK.enc (M0)).toArray = w3 at *
  clear hn1 hM0 hW
  generalize w2.heap.size = gm at *
  have c6 : w3.cell? ⟨gm, 6, none⟩ = some (.int .i64 k) := by rw [hM.cell 6 _ rfl]; show some (Value.int .i64 M0.1.sq) = _; rw [t0.2.1]
  go_wp2_with fail
  clear c6
  refine (HS gx ⟨me, 0, some (k, none)⟩ k 10 w3 hX).mono ?_
  rintro e w4 ⟨rfl, h9, oq⟩
  replace hP := hP.only oq n_hP_hX
  replace hM := hM.only oq (Ne.symm n_hX_hM)
  replace hb := Only.below hb oq l_hX hb.size
  replace hX := h9
  clear h9 oq
  rw [b1.2] at hX
  go_wp2_with (first | (guard_target =~ wpList _ _ _ (⟨some 23, _, _, _, _, _⟩ :: _) _ _; refine msT.load (op := ⟨some 23, .load _ _, _, _, _, _⟩) (by rfl) _ (by rfl) gm 0 (by rfl) (M0) hM.rangeK ?_) | (guard_target =~ wpList _ _ _ (⟨some 24, _, _, _, _, _⟩ :: _) _ _; refine wpList_build_any (op := ⟨some 24, .build _ _, _, _, _, _⟩) (by rfl) _ _ (by rfl) _ (by rfl) (prK.enc (8, 1)).toArray (by kernel_rfl) ?_))
  refine (HA M0 (8, 1) 50 3 w4 ok0).mono ?_
  rintro e w5 ⟨rfl, bq⟩
  replace hP := hP.below bq
  replace hX := hX.below bq
  replace hM := hM.below bq
  replace hb := bnext hb bq
  clear bq
  rw [hM1'.out, b2]
  have hn1 := bnew w5 (Obj.cells (msK.enc (zeroM)).toArray 34)
  have hM0 := Box.new w5 (msK.enc (zeroM)) 34
  go_upto_region 7 with (guard_target =~ wpList _ _ _ (⟨none, _, _, _, _, _⟩ :: _) _ _; refine msT.store (op := ⟨none, .store _ _ _, _, _, _, _⟩) (by rfl) _ _ (by rfl) (w5.heap.size) (M1) (zeroM) _ (by rfl) (by rfl) hM0 ?_)
  have n_hP_hN : G ≠ w5.heap.size := by have h1 := hP.lt; have h2 := Nat.le_refl w5.heap.size; omega
  have n_hX_hN : gx ≠ w5.heap.size := by have h1 := hX.lt; have h2 := Nat.le_refl w5.heap.size; omega
  have n_hM_hN : gm ≠ w5.heap.size := by have h1 := hM.lt; have h2 := Nat.le_refl w5.heap.size; omega
  have l_hN : w.heap.size ≤ w5.heap.size := Nat.le_trans hb.size (Nat.le_refl w5.heap.size)
  have hN := hM0.rowK (msK.enc (M1))
  replace hP := (hP.below hn1).rowK_other (k := w5.heap.size) n_hP_hN (msK.enc (M1)).toArray
  replace hX := (hX.below hn1).row (k := w5.heap.size) n_hX_hN (msK.enc (M1)).toArray
  replace hM := (hM.below hn1).rowK_other (k := w5.heap.size) n_hM_hN (msK.enc (M1)).toArray
  have hW := below_setRow hn1 (Nat.le_refl _) (msK.enc (M1)).toArray
  replace hb := bnext hb hW
  change Code.wp Try.prog _ _ _ ((w5.alloc (Obj.cells (msK.enc (zeroM)).toArray 34)).setRow w5.heap.size (msK.enc (M1)).toArray)
  generalize (w5.alloc (Obj.cells (msK.enc (zeroM)).toArray 34)).setRow w5.heap.size (msK.enc (M1)).toArray = w6 at *
  clear hn1 hM0 hW
  generalize w5.heap.size = gn at *
  go_wp2_with fail
  refine (HC gx ⟨me, 0, some (k, some 10)⟩ w6 hX).mono ?_
  rintro e w7 ⟨rfl, h9, oq⟩
  replace hP := hP.only oq n_hP_hX
  replace hM := hM.only oq (Ne.symm n_hX_hM)
  replace hN := hN.only oq (Ne.symm n_hX_hN)
  replace hb := Only.below hb oq l_hX hb.size
  replace hX := h9
  clear h9 oq
  replace hX : XAt R w7 gx ⟨me, 0, none⟩ := hX
  go_wp2_with (guard_target =~ wpList _ _ _ (⟨some 32, _, _, _, _, _⟩ :: _) _ _; refine msT.load (op := ⟨some 32, .load _ _, _, _, _, _⟩) (by rfl) _ (by rfl) gn 0 (by rfl) (M1) hN.rangeK ?_)
  refine (HP gx ⟨me, 0, none⟩ M1 w7 hX ok1).mono ?_
  rintro e w8 ⟨rfl, h9, oq⟩
  replace hP := hP.only oq n_hP_hX
  replace hM := hM.only oq (Ne.symm n_hX_hM)
  replace hN := hN.only oq (Ne.symm n_hX_hN)
  replace hb := Only.below hb oq l_hX hb.size
  replace hX := h9
  clear h9 oq
  rw [b3.1]
  rw [b3.2.2] at hX
  have c6 : w8.cell? ⟨gm, 6, none⟩ = some (.int .i64 k) := by rw [hM.cell 6 _ rfl]; show some (Value.int .i64 M0.1.sq) = _; rw [t0.2.1]
  go_wp2_with fail
  clear c6
  refine (HS gx ⟨me, 0, none⟩ k 11 w8 hX).mono ?_
  rintro e w9 ⟨rfl, h9, oq⟩
  replace hP := hP.only oq n_hP_hX
  replace hM := hM.only oq (Ne.symm n_hX_hM)
  replace hN := hN.only oq (Ne.symm n_hX_hN)
  replace hb := Only.below hb oq l_hX hb.size
  replace hX := h9
  clear h9 oq
  rw [b4.1]
  have d0 : w9.cell? ⟨gn, 0, none⟩ = some (.int .i64 9) := by rw [hN.cell 0 _ rfl]; show some (Value.int .i64 M1.1.ty) = _; rw [t1.1]
  have d7 : w9.cell? ⟨gn, 7, none⟩ = some (.int .i64 3) := by rw [hN.cell 7 _ rfl]; show some (Value.int .i64 M1.1.lg) = _; rw [t1.2.1]
  go_wp2_with fail
  refine (awake17_from HNew HR HS HP _).mono ?_
  rintro e wz ⟨rfl, bz⟩
  go_wp2_with fail
  go_ret
  exact ⟨rfl, bnext hb bz⟩

end Go.Proofs.Ytnlmncpiccehjaa
