/- carillonlaw17's DelayNext, DelayRound from contracts (gen_dellaws.py). -/
import Derived.Test.YtnlmncpiccehjaaDelLaws1
namespace Go.Proofs.Ytnlmncpiccehjaa
open Go.RowKit Go.Proofs
set_option maxRecDepth 50000
set_option linter.unusedVariables false
set_option linter.unusedSimpArgs false

set_option maxRecDepth 100000 in
set_option maxHeartbeats 8000000 in
theorem delayNext_from {R : List Value → Xs → Prop} (HNew : CNewX R) (HR : CReq R) (HS : CSent R) (HP : CResp R) (HQ : CAns) (me : Int × Int) (hme : 0 ≤ me.1 ∧ me.1 < 18446744073709551616) (n at' stamp : Int) (w : World) :
    Calls Try.prog 5 #[.agg (prK.enc me).toArray, .int .i64 n, .int .i64 at', .int .i64 stamp] w fun e w' => e = .returned (.bool true) ∧ Below w.heap.size w w' := by
  have z0 := bnew w (Obj.cells (prK.enc me).toArray 24)
  have hP := Box.new w (prK.enc me) 24
  have hb := z0
  clear z0
  go_enter Try.func5, Try.ntmps5
  go_upto_region 1 with fail
  change Code.wp Try.prog _ _ _ (w.alloc (Obj.cells (prK.enc me).toArray 24))
  generalize (w.alloc (Obj.cells (prK.enc me).toArray 24)) = W at *
  generalize hG : w.heap.size = G at *
  rw [← hG] at hb
  have l_hP : w.heap.size ≤ G := by omega
  go_wp2_with (guard_target =~ wpList _ _ _ (⟨some 28, _, _, _, _, _⟩ :: _) _ _; refine prT.load (op := ⟨some 28, .load _ _, _, _, _, _⟩) (by rfl) _ (by rfl) G 0 (by rfl) (me) hP.rangeK ?_)
  refine (HNew me 0 W hme).mono ?_
  rintro e w1 ⟨gx, rfl, hg, h9, bq⟩
  have n_hP_hX : G ≠ gx := by have h1 := hP.lt; have h2 := hg; omega
  have l_hX : w.heap.size ≤ gx := Nat.le_trans hb.size (hg)
  replace hP := hP.below bq
  replace hb := bnext hb bq
  clear bq
  have hX := h9
  clear h9 hg
  go_wp2_with fail
  refine (place_in n 65535 _ (by decide) (by decide)).mono ?_
  rintro e w0 ⟨k, rfl, hk0, hk1, -, rfl⟩
  have ek : k % 65536 = k := by omega
  have ek1 : (k + 1) % 65536 = k + 1 := by omega
  have wk1 : wrap64 (k + 1) = k + 1 := by unfold wrap64; omega
  obtain ⟨A, hA0⟩ : ∃ A, reqM ⟨me, 0, none⟩ k = A := ⟨_, rfl⟩
  obtain ⟨B, hB0⟩ : ∃ B, reqM ⟨me, 0, some (k, some 10)⟩ (k + 1) = B := ⟨_, rfl⟩
  have tA : A.1.ty = 1 ∧ A.1.sq = k ∧ A.1.co = 0 ∧ A.1.sc = me.1 ∧ A.1.sp = me.2 := by rw [← hA0]; exact ⟨rfl, ek, rfl, rfl, rfl⟩
  have tB : B.1.ty = 1 ∧ B.1.sq = k + 1 ∧ B.1.co = 0 ∧ B.1.sc = me.1 ∧ B.1.sp = me.2 := by rw [← hB0]; exact ⟨rfl, ek1, rfl, rfl, rfl⟩
  have okA : HdOk A.1 := hd_okx (by rw [tA.2.2.2.1]; exact hme.1) (by rw [tA.2.2.2.1]; exact hme.2) (by rw [tA.2.2.1]; decide) (by rw [tA.2.2.1]; decide)
  have okB : HdOk B.1 := hd_okx (by rw [tB.2.2.2.1]; exact hme.1) (by rw [tB.2.2.2.1]; exact hme.2) (by rw [tB.2.2.1]; decide) (by rw [tB.2.2.1]; decide)
  have b0 : reqS ⟨me, 0, none⟩ k = ⟨me, 0, some (k, none)⟩ := by unfold reqS; rw [ek]
  have b1 := sent_yes (x := ⟨me, 0, some (k, none)⟩) (n := k) (at' := 10) rfl
  have b2 : reqS ⟨me, 0, some (k, some 10)⟩ (k + 1) = ⟨me, 0, some (k + 1, none)⟩ := by unfold reqS; rw [ek1]
  replace hA0 := hid hA0
  replace hB0 := hid hB0
  clear ek ek1
  go_wp2_with fail
  refine (HR gx ⟨me, 0, none⟩ k 0 w1 hX (by omega)).mono ?_
  rintro e w2 ⟨rfl, h9, oq⟩
  replace hP := hP.only oq n_hP_hX
  replace hb := Only.below hb oq l_hX hb.size
  replace hX := h9
  clear h9 oq
  rw [hA0.out]
  rw [b0] at hX
  have hn1 := bnew w2 (Obj.cells (msK.enc (zeroM)).toArray 34)
  have hM0 := Box.new w2 (msK.enc (zeroM)) 34
  go_upto_region 6 with (guard_target =~ wpList _ _ _ (⟨none, _, _, _, _, _⟩ :: _) _ _; refine msT.store (op := ⟨none, .store _ _ _, _, _, _, _⟩) (by rfl) _ _ (by rfl) (w2.heap.size) (A) (zeroM) _ (by rfl) (by rfl) hM0 ?_)
  have n_hP_hA : G ≠ w2.heap.size := by have h1 := hP.lt; have h2 := Nat.le_refl w2.heap.size; omega
  have n_hX_hA : gx ≠ w2.heap.size := by have h1 := hX.lt; have h2 := Nat.le_refl w2.heap.size; omega
  have l_hA : w.heap.size ≤ w2.heap.size := Nat.le_trans hb.size (Nat.le_refl w2.heap.size)
  have hA := hM0.rowK (msK.enc (A))
  replace hP := (hP.below hn1).rowK_other (k := w2.heap.size) n_hP_hA (msK.enc (A)).toArray
  replace hX := (hX.below hn1).row (k := w2.heap.size) n_hX_hA (msK.enc (A)).toArray
  have hW := below_setRow hn1 (Nat.le_refl _) (msK.enc (A)).toArray
  replace hb := bnext hb hW
  change Code.wp Try.prog _ _ _ ((w2.alloc (Obj.cells (msK.enc (zeroM)).toArray 34)).setRow w2.heap.size (msK.enc (A)).toArray)
  generalize (w2.alloc (Obj.cells (msK.enc (zeroM)).toArray 34)).setRow w2.heap.size (msK.enc (A)).toArray = w3 at *
  clear hn1 hM0 hW
  generalize w2.heap.size = ga at *
  have c6 : w3.cell? ⟨ga, 6, none⟩ = some (.int .i64 (k)) := by rw [hA.cell 6 _ rfl]; show some (Value.int .i64 _) = _; rw [tA.2.1]
  go_wp2_with fail
  clear c6
  refine (HS gx ⟨me, 0, some (k, none)⟩ k 10 w3 hX).mono ?_
  rintro e w4 ⟨rfl, h9, oq⟩
  replace hP := hP.only oq n_hP_hX
  replace hA := hA.only oq (Ne.symm n_hX_hA)
  replace hb := Only.below hb oq l_hX hb.size
  replace hX := h9
  clear h9 oq
  rw [b1.2] at hX
  go_wp2_with fail
  refine (HR gx ⟨me, 0, some (k, some 10)⟩ (k + 1) 0 w4 hX (by omega)).mono ?_
  rintro e w5 ⟨rfl, h9, oq⟩
  replace hP := hP.only oq n_hP_hX
  replace hA := hA.only oq (Ne.symm n_hX_hA)
  replace hb := Only.below hb oq l_hX hb.size
  replace hX := h9
  clear h9 oq
  rw [hB0.out]
  rw [b2] at hX
  have hn1 := bnew w5 (Obj.cells (msK.enc (zeroM)).toArray 34)
  have hM0 := Box.new w5 (msK.enc (zeroM)) 34
  go_upto_region 8 with (guard_target =~ wpList _ _ _ (⟨none, _, _, _, _, _⟩ :: _) _ _; refine msT.store (op := ⟨none, .store _ _ _, _, _, _, _⟩) (by rfl) _ _ (by rfl) (w5.heap.size) (B) (zeroM) _ (by rfl) (by rfl) hM0 ?_)
  have n_hP_hB : G ≠ w5.heap.size := by have h1 := hP.lt; have h2 := Nat.le_refl w5.heap.size; omega
  have n_hX_hB : gx ≠ w5.heap.size := by have h1 := hX.lt; have h2 := Nat.le_refl w5.heap.size; omega
  have n_hA_hB : ga ≠ w5.heap.size := by have h1 := hA.lt; have h2 := Nat.le_refl w5.heap.size; omega
  have l_hB : w.heap.size ≤ w5.heap.size := Nat.le_trans hb.size (Nat.le_refl w5.heap.size)
  have hB := hM0.rowK (msK.enc (B))
  replace hP := (hP.below hn1).rowK_other (k := w5.heap.size) n_hP_hB (msK.enc (B)).toArray
  replace hX := (hX.below hn1).row (k := w5.heap.size) n_hX_hB (msK.enc (B)).toArray
  replace hA := (hA.below hn1).rowK_other (k := w5.heap.size) n_hA_hB (msK.enc (B)).toArray
  have hW := below_setRow hn1 (Nat.le_refl _) (msK.enc (B)).toArray
  replace hb := bnext hb hW
  change Code.wp Try.prog _ _ _ ((w5.alloc (Obj.cells (msK.enc (zeroM)).toArray 34)).setRow w5.heap.size (msK.enc (B)).toArray)
  generalize (w5.alloc (Obj.cells (msK.enc (zeroM)).toArray 34)).setRow w5.heap.size (msK.enc (B)).toArray = w6 at *
  clear hn1 hM0 hW
  generalize w5.heap.size = gb at *
  obtain ⟨P, hP0⟩ : ∃ P, answM A (8, 1) 500 0 = P := ⟨_, rfl⟩
  have aP := answ_yes (me := (8, 1)) (log := 0) (at' := 500) tA.1 (by decide) (by decide)
  rw [hP0] at aP
  have tP : P.1.ty = 9 ∧ P.1.sq = k ∧ P.1.co = 0 ∧ P.1.sc = 8 := by rw [aP.2]; exact ⟨rfl, tA.2.1, tA.2.2.1, rfl⟩
  have okP : HdOk P.1 := hd_okx (by rw [tP.2.2.2]; decide) (by rw [tP.2.2.2]; decide) (by rw [tP.2.2.1]; decide) (by rw [tP.2.2.1]; decide)
  replace aP := aP.1
  replace hP0 := hid hP0
  go_wp2_with (first | (guard_target =~ wpList _ _ _ (⟨some 46, _, _, _, _, _⟩ :: _) _ _; refine msT.load (op := ⟨some 46, .load _ _, _, _, _, _⟩) (by rfl) _ (by rfl) ga 0 (by rfl) (A) hA.rangeK ?_) | (guard_target =~ wpList _ _ _ (⟨some 47, _, _, _, _, _⟩ :: _) _ _; refine wpList_build_any (op := ⟨some 47, .build _ _, _, _, _, _⟩) (by rfl) _ _ (by rfl) _ (by rfl) (prK.enc (8, 1)).toArray (by kernel_rfl) ?_))
  refine (HQ A (8, 1) 500 0 w6 okA).mono ?_
  rintro e w7 ⟨rfl, bq⟩
  replace hP := hP.below bq
  replace hX := hX.below bq
  replace hA := hA.below bq
  replace hB := hB.below bq
  replace hb := bnext hb bq
  clear bq
  rw [hP0.out, aP]
  have hn1 := bnew w7 (Obj.cells (msK.enc (zeroM)).toArray 34)
  have hM0 := Box.new w7 (msK.enc (zeroM)) 34
  go_upto_region 9 with (guard_target =~ wpList _ _ _ (⟨none, _, _, _, _, _⟩ :: _) _ _; refine msT.store (op := ⟨none, .store _ _ _, _, _, _, _⟩) (by rfl) _ _ (by rfl) (w7.heap.size) (P) (zeroM) _ (by rfl) (by rfl) hM0 ?_)
  have n_hP_hS1 : G ≠ w7.heap.size := by have h1 := hP.lt; have h2 := Nat.le_refl w7.heap.size; omega
  have n_hX_hS1 : gx ≠ w7.heap.size := by have h1 := hX.lt; have h2 := Nat.le_refl w7.heap.size; omega
  have n_hA_hS1 : ga ≠ w7.heap.size := by have h1 := hA.lt; have h2 := Nat.le_refl w7.heap.size; omega
  have n_hB_hS1 : gb ≠ w7.heap.size := by have h1 := hB.lt; have h2 := Nat.le_refl w7.heap.size; omega
  have l_hS1 : w.heap.size ≤ w7.heap.size := Nat.le_trans hb.size (Nat.le_refl w7.heap.size)
  have hS1 := hM0.rowK (msK.enc (P))
  replace hP := (hP.below hn1).rowK_other (k := w7.heap.size) n_hP_hS1 (msK.enc (P)).toArray
  replace hX := (hX.below hn1).row (k := w7.heap.size) n_hX_hS1 (msK.enc (P)).toArray
  replace hA := (hA.below hn1).rowK_other (k := w7.heap.size) n_hA_hS1 (msK.enc (P)).toArray
  replace hB := (hB.below hn1).rowK_other (k := w7.heap.size) n_hB_hS1 (msK.enc (P)).toArray
  have hW := below_setRow hn1 (Nat.le_refl _) (msK.enc (P)).toArray
  replace hb := bnext hb hW
  change Code.wp Try.prog _ _ _ ((w7.alloc (Obj.cells (msK.enc (zeroM)).toArray 34)).setRow w7.heap.size (msK.enc (P)).toArray)
  generalize (w7.alloc (Obj.cells (msK.enc (zeroM)).toArray 34)).setRow w7.heap.size (msK.enc (P)).toArray = w8 at *
  clear hn1 hM0 hW
  generalize w7.heap.size = gp at *
  go_wp2_with fail
  refine (place_in stamp 1099511627776 _ (by decide) (by decide)).mono ?_
  rintro e w0 ⟨s, rfl, hs0, hs1, -, rfl⟩
  obtain ⟨Q9, hQ0⟩ : ∃ Q9, answM B (8, 1) s 0 = Q9 := ⟨_, rfl⟩
  have aQ := answ_yes (me := (8, 1)) (log := 0) (at' := s) tB.1 (by omega) (by omega)
  rw [hQ0] at aQ
  have tQ : Q9.1.ty = 9 ∧ Q9.1.sq = k + 1 ∧ Q9.1.co = 0 ∧ Q9.1.sc = 8 ∧ Q9.2.st = s ∧ Q9.2.tc = me.1 ∧ Q9.2.tp = me.2 := by rw [aQ.2]; exact ⟨rfl, tB.2.1, tB.2.2.1, rfl, rfl, tB.2.2.2.1, tB.2.2.2.2⟩
  have okQ : HdOk Q9.1 := hd_okx (by rw [tQ.2.2.2.1]; decide) (by rw [tQ.2.2.2.1]; decide) (by rw [tQ.2.2.1]; decide) (by rw [tQ.2.2.1]; decide)
  replace aQ := aQ.1
  replace hQ0 := hid hQ0
  go_wp2_with (first | (guard_target =~ wpList _ _ _ (⟨some 54, _, _, _, _, _⟩ :: _) _ _; refine msT.load (op := ⟨some 54, .load _ _, _, _, _, _⟩) (by rfl) _ (by rfl) gb 0 (by rfl) (B) hB.rangeK ?_) | (guard_target =~ wpList _ _ _ (⟨some 55, _, _, _, _, _⟩ :: _) _ _; refine wpList_build_any (op := ⟨some 55, .build _ _, _, _, _, _⟩) (by rfl) _ _ (by rfl) _ (by rfl) (prK.enc (8, 1)).toArray (by kernel_rfl) ?_))
  refine (HQ B (8, 1) s 0 w8 okB).mono ?_
  rintro e w9 ⟨rfl, bq⟩
  replace hP := hP.below bq
  replace hX := hX.below bq
  replace hA := hA.below bq
  replace hB := hB.below bq
  replace hS1 := hS1.below bq
  replace hb := bnext hb bq
  clear bq
  rw [hQ0.out, aQ]
  have hn1 := bnew w9 (Obj.cells (msK.enc (zeroM)).toArray 34)
  have hM0 := Box.new w9 (msK.enc (zeroM)) 34
  go_upto_region 11 with (guard_target =~ wpList _ _ _ (⟨none, _, _, _, _, _⟩ :: _) _ _; refine msT.store (op := ⟨none, .store _ _ _, _, _, _, _⟩) (by rfl) _ _ (by rfl) (w9.heap.size) (Q9) (zeroM) _ (by rfl) (by rfl) hM0 ?_)
  have n_hP_hS2 : G ≠ w9.heap.size := by have h1 := hP.lt; have h2 := Nat.le_refl w9.heap.size; omega
  have n_hX_hS2 : gx ≠ w9.heap.size := by have h1 := hX.lt; have h2 := Nat.le_refl w9.heap.size; omega
  have n_hA_hS2 : ga ≠ w9.heap.size := by have h1 := hA.lt; have h2 := Nat.le_refl w9.heap.size; omega
  have n_hB_hS2 : gb ≠ w9.heap.size := by have h1 := hB.lt; have h2 := Nat.le_refl w9.heap.size; omega
  have n_hS1_hS2 : gp ≠ w9.heap.size := by have h1 := hS1.lt; have h2 := Nat.le_refl w9.heap.size; omega
  have l_hS2 : w.heap.size ≤ w9.heap.size := Nat.le_trans hb.size (Nat.le_refl w9.heap.size)
  have hS2 := hM0.rowK (msK.enc (Q9))
  replace hP := (hP.below hn1).rowK_other (k := w9.heap.size) n_hP_hS2 (msK.enc (Q9)).toArray
  replace hX := (hX.below hn1).row (k := w9.heap.size) n_hX_hS2 (msK.enc (Q9)).toArray
  replace hA := (hA.below hn1).rowK_other (k := w9.heap.size) n_hA_hS2 (msK.enc (Q9)).toArray
  replace hB := (hB.below hn1).rowK_other (k := w9.heap.size) n_hB_hS2 (msK.enc (Q9)).toArray
  replace hS1 := (hS1.below hn1).rowK_other (k := w9.heap.size) n_hS1_hS2 (msK.enc (Q9)).toArray
  have hW := below_setRow hn1 (Nat.le_refl _) (msK.enc (Q9)).toArray
  replace hb := bnext hb hW
  change Code.wp Try.prog _ _ _ ((w9.alloc (Obj.cells (msK.enc (zeroM)).toArray 34)).setRow w9.heap.size (msK.enc (Q9)).toArray)
  generalize (w9.alloc (Obj.cells (msK.enc (zeroM)).toArray 34)).setRow w9.heap.size (msK.enc (Q9)).toArray = w10 at *
  clear hn1 hM0 hW
  generalize w9.heap.size = gq at *
  have r1 := resp_unsent (x := ⟨me, 0, some (k + 1, none)⟩) (m := P) rfl
  have r2 := resp_unsent (x := ⟨me, 0, some (k + 1, none)⟩) (m := Q9) rfl
  go_wp2_with (guard_target =~ wpList _ _ _ (⟨some 62, _, _, _, _, _⟩ :: _) _ _; refine msT.load (op := ⟨some 62, .load _ _, _, _, _, _⟩) (by rfl) _ (by rfl) gp 0 (by rfl) (P) hS1.rangeK ?_)
  refine (HP gx ⟨me, 0, some (k + 1, none)⟩ P w10 hX okP).mono ?_
  rintro e w11 ⟨rfl, h9, oq⟩
  replace hP := hP.only oq n_hP_hX
  replace hA := hA.only oq (Ne.symm n_hX_hA)
  replace hB := hB.only oq (Ne.symm n_hX_hB)
  replace hS1 := hS1.only oq (Ne.symm n_hX_hS1)
  replace hS2 := hS2.only oq (Ne.symm n_hX_hS2)
  replace hb := Only.below hb oq l_hX hb.size
  replace hX := h9
  clear h9 oq
  rw [r1.1]
  rw [r1.2.2] at hX
  go_wp2_with (guard_target =~ wpList _ _ _ (⟨some 68, _, _, _, _, _⟩ :: _) _ _; refine msT.load (op := ⟨some 68, .load _ _, _, _, _, _⟩) (by rfl) _ (by rfl) gq 0 (by rfl) (Q9) hS2.rangeK ?_)
  refine (HP gx ⟨me, 0, some (k + 1, none)⟩ Q9 w11 hX okQ).mono ?_
  rintro e w12 ⟨rfl, h9, oq⟩
  replace hP := hP.only oq n_hP_hX
  replace hA := hA.only oq (Ne.symm n_hX_hA)
  replace hB := hB.only oq (Ne.symm n_hX_hB)
  replace hS1 := hS1.only oq (Ne.symm n_hX_hS1)
  replace hS2 := hS2.only oq (Ne.symm n_hX_hS2)
  replace hb := Only.below hb oq l_hX hb.size
  replace hX := h9
  clear h9 oq
  rw [r2.1]
  rw [r2.2.2] at hX
  clear r1 r2
  go_wp2_with fail
  refine (place_in at' 1099511627776 _ (by decide) (by decide)).mono ?_
  rintro e w0 ⟨t, rfl, ht0, ht1, -, rfl⟩
  have b3 := sent_yes (x := ⟨me, 0, some (k + 1, none)⟩) (n := k + 1) (at' := t) rfl
  have r3 := resp_no (x := ⟨me, 0, some (k + 1, some t)⟩) (m := P) (s := k + 1) (t := t) rfl (.inr (.inr (by rw [tP.2.1]; omega)))
  have r4 := resp_yes (x := ⟨me, 0, some (k + 1, some t)⟩) (m := Q9) (s := k + 1) (t := t) rfl tQ.1 tQ.2.2.2.2.2.1 tQ.2.2.2.2.2.2 tQ.2.1
  have hd : diffX Q9.2.st t Q9.1.co = s - t := by rw [tQ.2.2.2.2.1, tQ.2.2.1, diffX_in (by omega) (by omega) (by omega)]; omega
  rw [hd] at r4
  have c6 : w12.cell? ⟨gb, 6, none⟩ = some (.int .i64 (k + 1)) := by rw [hB.cell 6 _ rfl]; show some (Value.int .i64 _) = _; rw [tB.2.1]
  go_wp2_with fail
  clear c6
  refine (HS gx ⟨me, 0, some (k + 1, none)⟩ (k + 1) t w12 hX).mono ?_
  rintro e w13 ⟨rfl, h9, oq⟩
  replace hP := hP.only oq n_hP_hX
  replace hA := hA.only oq (Ne.symm n_hX_hA)
  replace hB := hB.only oq (Ne.symm n_hX_hB)
  replace hS1 := hS1.only oq (Ne.symm n_hX_hS1)
  replace hS2 := hS2.only oq (Ne.symm n_hX_hS2)
  replace hb := Only.below hb oq l_hX hb.size
  replace hX := h9
  clear h9 oq
  rw [b3.1]
  rw [b3.2] at hX
  go_wp2_with (guard_target =~ wpList _ _ _ (⟨some 81, _, _, _, _, _⟩ :: _) _ _; refine msT.load (op := ⟨some 81, .load _ _, _, _, _, _⟩) (by rfl) _ (by rfl) gp 0 (by rfl) (P) hS1.rangeK ?_)
  refine (HP gx ⟨me, 0, some (k + 1, some t)⟩ P w13 hX okP).mono ?_
  rintro e w14 ⟨rfl, h9, oq⟩
  replace hP := hP.only oq n_hP_hX
  replace hA := hA.only oq (Ne.symm n_hX_hA)
  replace hB := hB.only oq (Ne.symm n_hX_hB)
  replace hS1 := hS1.only oq (Ne.symm n_hX_hS1)
  replace hS2 := hS2.only oq (Ne.symm n_hX_hS2)
  replace hb := Only.below hb oq l_hX hb.size
  replace hX := h9
  clear h9 oq
  rw [r3.1]
  rw [r3.2.2] at hX
  go_wp2_with (guard_target =~ wpList _ _ _ (⟨some 87, _, _, _, _, _⟩ :: _) _ _; refine msT.load (op := ⟨some 87, .load _ _, _, _, _, _⟩) (by rfl) _ (by rfl) gq 0 (by rfl) (Q9) hS2.rangeK ?_)
  refine (HP gx ⟨me, 0, some (k + 1, some t)⟩ Q9 w14 hX okQ).mono ?_
  rintro e w15 ⟨rfl, h9, oq⟩
  replace hP := hP.only oq n_hP_hX
  replace hA := hA.only oq (Ne.symm n_hX_hA)
  replace hB := hB.only oq (Ne.symm n_hX_hB)
  replace hS1 := hS1.only oq (Ne.symm n_hX_hS1)
  replace hS2 := hS2.only oq (Ne.symm n_hX_hS2)
  replace hb := Only.below hb oq l_hX hb.size
  replace hX := h9
  clear h9 oq
  rw [r4.1, r4.2.1]
  clear r3 r4 b3
  have wst : wrap64 (s - t) = s - t := by unfold wrap64; omega
  have c6 : w15.cell? ⟨gb, 6, none⟩ = some (.int .i64 (k + 1)) := by rw [hB.cell 6 _ rfl]; show some (Value.int .i64 _) = _; rw [tB.2.1]
  go_wp2_with fail
  refine (awake17_from HNew HR HS HP _).mono ?_
  rintro e wz ⟨rfl, bz⟩
  go_wp2_with fail
  go_ret
  exact ⟨rfl, bnext hb bz⟩

set_option maxRecDepth 100000 in
set_option maxHeartbeats 8000000 in
theorem delayRound_from {R : List Value → Xs → Prop} (HNew : CNewX R) (HR : CReq R) (HS : CSent R) (HP : CResp R) (HA : CAns) (me ms : Int × Int) (hme : 0 ≤ me.1 ∧ me.1 < 18446744073709551616) (hms : 0 ≤ ms.1 ∧ ms.1 < 18446744073709551616) (n t3 t4 corr : Int) (hn : -9223372036854775808 ≤ n ∧ n ≤ 9223372036854775807) (ot : Int × Int) (w : World) :
    Calls Try.prog 4 #[.agg (prK.enc me).toArray, .agg (prK.enc ms).toArray, .int .i64 n, .int .i64 t3, .int .i64 t4, .int .i64 corr, .agg (prK.enc ot).toArray] w fun e w' => e = .returned (.bool true) ∧ Below w.heap.size w w' := by
  have z0 := bnew w (Obj.cells (prK.enc me).toArray 24)
  have hP := Box.new w (prK.enc me) 24
  have z1 := bnew (w.alloc (Obj.cells (prK.enc me).toArray 24)) (Obj.cells (prK.enc ms).toArray 24)
  have hQ := Box.new (w.alloc (Obj.cells (prK.enc me).toArray 24)) (prK.enc ms) 24
  replace hP := hP.below z1
  have z2 := bnew ((w.alloc (Obj.cells (prK.enc me).toArray 24)).alloc (Obj.cells (prK.enc ms).toArray 24)) (Obj.cells (prK.enc ot).toArray 24)
  have hO := Box.new ((w.alloc (Obj.cells (prK.enc me).toArray 24)).alloc (Obj.cells (prK.enc ms).toArray 24)) (prK.enc ot) 24
  replace hP := hP.below z2
  replace hQ := hQ.below z2
  have hb := z0
  replace hb := bnext hb z1
  replace hb := bnext hb z2
  clear z0
  clear z1
  clear z2
  have s1 : (w.alloc (Obj.cells (prK.enc me).toArray 24)).heap.size = w.heap.size + 1 := by simp
  rw [s1] at hQ
  have s2 : ((w.alloc (Obj.cells (prK.enc me).toArray 24)).alloc (Obj.cells (prK.enc ms).toArray 24)).heap.size = w.heap.size + 1 + 1 := by simp
  rw [s2] at hO
  go_enter Try.func4, Try.ntmps4
  go_upto_region 1 with fail
  change Code.wp Try.prog _ _ _ (((w.alloc (Obj.cells (prK.enc me).toArray 24)).alloc (Obj.cells (prK.enc ms).toArray 24)).alloc (Obj.cells (prK.enc ot).toArray 24))
  generalize (((w.alloc (Obj.cells (prK.enc me).toArray 24)).alloc (Obj.cells (prK.enc ms).toArray 24)).alloc (Obj.cells (prK.enc ot).toArray 24)) = W at *
  clear s1
  clear s2
  generalize hG : w.heap.size = G at *
  rw [← hG] at hb
  have l_hP : w.heap.size ≤ G := by omega
  have l_hQ : w.heap.size ≤ G + 1 := by omega
  have n_hP_hQ : G ≠ G + 1 := by omega
  have l_hO : w.heap.size ≤ G + 1 + 1 := by omega
  have n_hP_hO : G ≠ G + 1 + 1 := by omega
  have n_hQ_hO : G + 1 ≠ G + 1 + 1 := by omega
  go_wp2_with (guard_target =~ wpList _ _ _ (⟨some 28, _, _, _, _, _⟩ :: _) _ _; refine prT.load (op := ⟨some 28, .load _ _, _, _, _, _⟩) (by rfl) _ (by rfl) G 0 (by rfl) (me) hP.rangeK ?_)
  refine (HNew me 3 W hme).mono ?_
  rintro e w1 ⟨gx, rfl, hg, h9, bq⟩
  have n_hP_hX : G ≠ gx := by have h1 := hP.lt; have h2 := hg; omega
  have n_hQ_hX : G + 1 ≠ gx := by have h1 := hQ.lt; have h2 := hg; omega
  have n_hO_hX : G + 1 + 1 ≠ gx := by have h1 := hO.lt; have h2 := hg; omega
  have l_hX : w.heap.size ≤ gx := Nat.le_trans hb.size (hg)
  replace hP := hP.below bq
  replace hQ := hQ.below bq
  replace hO := hO.below bq
  replace hb := bnext hb bq
  clear bq
  have hX := h9
  clear h9 hg
  go_wp2_with fail
  refine (place_in t3 1125899906842624 _ (by decide) (by decide)).mono ?_
  rintro e w0 ⟨s, rfl, hs0, hs1, -, rfl⟩
  go_wp2_with fail
  refine (place_in t4 1125899906842624 _ (by decide) (by decide)).mono ?_
  rintro e w0 ⟨r, rfl, hr0, hr1, -, rfl⟩
  obtain ⟨k, hk⟩ : ∃ k, n % 65536 = k := ⟨_, rfl⟩
  have b0 : reqS ⟨me, 3, none⟩ n = ⟨me, 3, some (k, none)⟩ := by rw [← hk]; rfl
  have b00 : reqM ⟨me, 3, none⟩ n = (⟨1, 3, 0, 0, me.1, me.2, k, 127⟩, bd0) := by rw [← hk]; rfl
  clear hk
  go_wp2_with fail
  refine (HR gx ⟨me, 3, none⟩ n 1 w1 hX hn).mono ?_
  rintro e w2 ⟨rfl, h9, oq⟩
  replace hP := hP.only oq n_hP_hX
  replace hQ := hQ.only oq n_hQ_hX
  replace hO := hO.only oq n_hO_hX
  replace hb := Only.below hb oq l_hX hb.size
  replace hX := h9
  clear h9 oq
  rw [b00]
  rw [b0] at hX
  have hn1 := bnew w2 (Obj.cells (msK.enc (zeroM)).toArray 34)
  have hM0 := Box.new w2 (msK.enc (zeroM)) 34
  go_upto_region 6 with (guard_target =~ wpList _ _ _ (⟨none, _, _, _, _, _⟩ :: _) _ _; refine msT.store (op := ⟨none, .store _ _ _, _, _, _, _⟩) (by rfl) _ _ (by rfl) (w2.heap.size) (((⟨1, 3, 0, 0, me.1, me.2, k, 127⟩, bd0) : Hd × Bd)) (zeroM) _ (by rfl) (by rfl) hM0 ?_)
  have n_hP_hM : G ≠ w2.heap.size := by have h1 := hP.lt; have h2 := Nat.le_refl w2.heap.size; omega
  have n_hQ_hM : G + 1 ≠ w2.heap.size := by have h1 := hQ.lt; have h2 := Nat.le_refl w2.heap.size; omega
  have n_hO_hM : G + 1 + 1 ≠ w2.heap.size := by have h1 := hO.lt; have h2 := Nat.le_refl w2.heap.size; omega
  have n_hX_hM : gx ≠ w2.heap.size := by have h1 := hX.lt; have h2 := Nat.le_refl w2.heap.size; omega
  have l_hM : w.heap.size ≤ w2.heap.size := Nat.le_trans hb.size (Nat.le_refl w2.heap.size)
  have hM := hM0.rowK (msK.enc (((⟨1, 3, 0, 0, me.1, me.2, k, 127⟩, bd0) : Hd × Bd)))
  replace hP := (hP.below hn1).rowK_other (k := w2.heap.size) n_hP_hM (msK.enc (((⟨1, 3, 0, 0, me.1, me.2, k, 127⟩, bd0) : Hd × Bd))).toArray
  replace hQ := (hQ.below hn1).rowK_other (k := w2.heap.size) n_hQ_hM (msK.enc (((⟨1, 3, 0, 0, me.1, me.2, k, 127⟩, bd0) : Hd × Bd))).toArray
  replace hO := (hO.below hn1).rowK_other (k := w2.heap.size) n_hO_hM (msK.enc (((⟨1, 3, 0, 0, me.1, me.2, k, 127⟩, bd0) : Hd × Bd))).toArray
  replace hX := (hX.below hn1).row (k := w2.heap.size) n_hX_hM (msK.enc (((⟨1, 3, 0, 0, me.1, me.2, k, 127⟩, bd0) : Hd × Bd))).toArray
  have hW := below_setRow hn1 (Nat.le_refl _) (msK.enc (((⟨1, 3, 0, 0, me.1, me.2, k, 127⟩, bd0) : Hd × Bd))).toArray
  replace hb := bnext hb hW
  change Code.wp Try.prog _ _ _ ((w2.alloc (Obj.cells (msK.enc (zeroM)).toArray 34)).setRow w2.heap.size (msK.enc (((⟨1, 3, 0, 0, me.1, me.2, k, 127⟩, bd0) : Hd × Bd))).toArray)
  generalize (w2.alloc (Obj.cells (msK.enc (zeroM)).toArray 34)).setRow w2.heap.size (msK.enc (((⟨1, 3, 0, 0, me.1, me.2, k, 127⟩, bd0) : Hd × Bd))).toArray = w3 at *
  clear hn1 hM0 hW
  generalize w2.heap.size = gm at *
  go_wp2_with fail
  refine (place_in corr 1099511627776 _ (by decide) (by decide)).mono ?_
  rintro e w0 ⟨c, rfl, hc0, hc1, -, rfl⟩
  obtain ⟨M1, hM1⟩ : ∃ M1 : Hd × Bd, M1 = (⟨1, 3, 0, c, me.1, me.2, k, 127⟩, bd0) := ⟨_, rfl⟩
  have tM : M1.1.ty = 1 := by rw [hM1]
  have okM : HdOk M1.1 := by rw [hM1]; exact hd_okx hme.1 hme.2 (show -9223372036854775808 ≤ c by omega) (show c ≤ 9223372036854775807 by omega)
  have b1 := sent_yes (x := ⟨me, 3, some (k, none)⟩) (n := k) (at' := s) rfl
  have b2 := sent_twice (x := ⟨me, 3, some (k, some s)⟩) (n := k) (at' := s) rfl
  obtain ⟨A, hA0⟩ : ∃ A, answM M1 ms r 0 = A := ⟨_, rfl⟩
  have aA := answ_yes (me := ms) (log := 0) (at' := r) tM (by omega) (by omega)
  rw [hA0, hM1] at aA
  obtain ⟨aB, aA⟩ := aA
  rw [← hM1] at aB
  have hAd : Hid (A = (⟨9, 3, 0, c, ms.1, ms.2, k, 0⟩, { bd0 with st := r, tc := me.1, tp := me.2 })) := hid aA
  clear aA
  replace hM1 := hid hM1
  replace hA0 := hid hA0
  have hc := hM.cell 3 _ rfl
  have hf := hM.free 3
  go_upto_region 7 with fail
  replace hM := hM.set 3 (.int .i64 c)
  replace hP := hP.other n_hP_hM 3 (.int .i64 c)
  replace hQ := hQ.other n_hQ_hM 3 (.int .i64 c)
  replace hO := hO.other n_hO_hM 3 (.int .i64 c)
  replace hX := hX.setCell n_hX_hM 3 (.int .i64 c)
  replace hb := hb.setCell (p := ⟨gm, 3, none⟩) l_hM (.int .i64 c)
  generalize World.setCell _ _ _ = w4 at *
  clear hc hf
  replace hM : Box w4 gm (msK.enc ((⟨1, 3, 0, c, me.1, me.2, k, 127⟩, bd0) : Hd × Bd)) _ := hM
  have m_hM_1 : w4.cell? ⟨gm, 1, none⟩ = some (.int .i64 (3)) := hM.cell 1 _ rfl
  have m_hM_4 : w4.cell? ⟨gm, 4, none⟩ = some (.int .u64 (me.1)) := hM.cell 4 _ rfl
  have m_hM_5 : w4.cell? ⟨gm, 5, none⟩ = some (.int .i64 (me.2)) := hM.cell 5 _ rfl
  have m_hM_6 : w4.cell? ⟨gm, 6, none⟩ = some (.int .i64 (k)) := hM.cell 6 _ rfl
  have m_hP_0 : w4.cell? ⟨G, 0, none⟩ = some (.int .u64 (me.1)) := hP.cell 0 _ rfl
  have m_hP_1 : w4.cell? ⟨G, 1, none⟩ = some (.int .i64 (me.2)) := hP.cell 1 _ rfl
  go_wp2_with fail
  clear m_hM_1 m_hM_4 m_hM_5 m_hM_6 m_hP_0 m_hP_1
  refine (HS gx ⟨me, 3, some (k, none)⟩ k s w4 hX).mono ?_
  rintro e w5 ⟨rfl, h9, oq⟩
  replace hP := hP.only oq n_hP_hX
  replace hQ := hQ.only oq n_hQ_hX
  replace hO := hO.only oq n_hO_hX
  replace hM := hM.only oq (Ne.symm n_hX_hM)
  replace hb := Only.below hb oq l_hX hb.size
  replace hX := h9
  clear h9 oq
  rw [b1.1]
  rw [b1.2] at hX
  have m_hM_1 : w5.cell? ⟨gm, 1, none⟩ = some (.int .i64 (3)) := hM.cell 1 _ rfl
  have m_hM_4 : w5.cell? ⟨gm, 4, none⟩ = some (.int .u64 (me.1)) := hM.cell 4 _ rfl
  have m_hM_5 : w5.cell? ⟨gm, 5, none⟩ = some (.int .i64 (me.2)) := hM.cell 5 _ rfl
  have m_hM_6 : w5.cell? ⟨gm, 6, none⟩ = some (.int .i64 (k)) := hM.cell 6 _ rfl
  go_wp2_with fail
  clear m_hM_1 m_hM_4 m_hM_5 m_hM_6
  refine (HS gx ⟨me, 3, some (k, some s)⟩ k s w5 hX).mono ?_
  rintro e w6 ⟨rfl, h9, oq⟩
  replace hP := hP.only oq n_hP_hX
  replace hQ := hQ.only oq n_hQ_hX
  replace hO := hO.only oq n_hO_hX
  replace hM := hM.only oq (Ne.symm n_hX_hM)
  replace hb := Only.below hb oq l_hX hb.size
  replace hX := h9
  clear h9 oq
  rw [b2.1]
  rw [b2.2] at hX
  rw [← hM1.out] at hM
  go_wp2_with (first | (guard_target =~ wpList _ _ _ (⟨some 67, _, _, _, _, _⟩ :: _) _ _; refine msT.load (op := ⟨some 67, .load _ _, _, _, _, _⟩) (by rfl) _ (by rfl) gm 0 (by rfl) (M1) hM.rangeK ?_) | (guard_target =~ wpList _ _ _ (⟨some 68, _, _, _, _, _⟩ :: _) _ _; refine prT.load (op := ⟨some 68, .load _ _, _, _, _, _⟩) (by rfl) _ (by rfl) (G + 1) 0 (by rfl) (ms) hQ.rangeK ?_))
  refine (HA M1 ms r 0 w6 okM).mono ?_
  rintro e w7 ⟨rfl, bq⟩
  replace hP := hP.below bq
  replace hQ := hQ.below bq
  replace hO := hO.below bq
  replace hX := hX.below bq
  replace hM := hM.below bq
  replace hb := bnext hb bq
  clear bq
  rw [hA0.out, aB]
  have hn1 := bnew w7 (Obj.cells (msK.enc (zeroM)).toArray 34)
  have hM0 := Box.new w7 (msK.enc (zeroM)) 34
  go_upto_region 10 with (guard_target =~ wpList _ _ _ (⟨none, _, _, _, _, _⟩ :: _) _ _; refine msT.store (op := ⟨none, .store _ _ _, _, _, _, _⟩) (by rfl) _ _ (by rfl) (w7.heap.size) (A) (zeroM) _ (by rfl) (by rfl) hM0 ?_)
  have n_hP_hA : G ≠ w7.heap.size := by have h1 := hP.lt; have h2 := Nat.le_refl w7.heap.size; omega
  have n_hQ_hA : G + 1 ≠ w7.heap.size := by have h1 := hQ.lt; have h2 := Nat.le_refl w7.heap.size; omega
  have n_hO_hA : G + 1 + 1 ≠ w7.heap.size := by have h1 := hO.lt; have h2 := Nat.le_refl w7.heap.size; omega
  have n_hX_hA : gx ≠ w7.heap.size := by have h1 := hX.lt; have h2 := Nat.le_refl w7.heap.size; omega
  have n_hM_hA : gm ≠ w7.heap.size := by have h1 := hM.lt; have h2 := Nat.le_refl w7.heap.size; omega
  have l_hA : w.heap.size ≤ w7.heap.size := Nat.le_trans hb.size (Nat.le_refl w7.heap.size)
  have hA := hM0.rowK (msK.enc (A))
  replace hP := (hP.below hn1).rowK_other (k := w7.heap.size) n_hP_hA (msK.enc (A)).toArray
  replace hQ := (hQ.below hn1).rowK_other (k := w7.heap.size) n_hQ_hA (msK.enc (A)).toArray
  replace hO := (hO.below hn1).rowK_other (k := w7.heap.size) n_hO_hA (msK.enc (A)).toArray
  replace hX := (hX.below hn1).row (k := w7.heap.size) n_hX_hA (msK.enc (A)).toArray
  replace hM := (hM.below hn1).rowK_other (k := w7.heap.size) n_hM_hA (msK.enc (A)).toArray
  have hW := below_setRow hn1 (Nat.le_refl _) (msK.enc (A)).toArray
  replace hb := bnext hb hW
  change Code.wp Try.prog _ _ _ ((w7.alloc (Obj.cells (msK.enc (zeroM)).toArray 34)).setRow w7.heap.size (msK.enc (A)).toArray)
  generalize (w7.alloc (Obj.cells (msK.enc (zeroM)).toArray 34)).setRow w7.heap.size (msK.enc (A)).toArray = w8 at *
  clear hn1 hM0 hW
  generalize w7.heap.size = ga at *
  have hAb : Box w8 ga (msK.enc ((⟨9, 3, 0, c, ms.1, ms.2, k, 0⟩, { bd0 with st := r, tc := me.1, tp := me.2 }) : Hd × Bd)) _ := hAd.out ▸ hA
  have hMb : Box w8 gm (msK.enc ((⟨1, 3, 0, c, me.1, me.2, k, 127⟩, bd0) : Hd × Bd)) _ := hM1.out ▸ hM
  have d4 : w8.cell? ⟨ga, 4, none⟩ = some (.int .u64 (ms.1)) := hAb.cell 4 _ rfl
  have d5 : w8.cell? ⟨ga, 5, none⟩ = some (.int .i64 (ms.2)) := hAb.cell 5 _ rfl
  have d6 : w8.cell? ⟨ga, 6, none⟩ = some (.int .i64 (k)) := hAb.cell 6 _ rfl
  have d8 : w8.cell? ⟨ga, 8, none⟩ = some (.int .i64 (r)) := hAb.cell 8 _ rfl
  have d9 : w8.cell? ⟨ga, 9, none⟩ = some (.int .u64 (me.1)) := hAb.cell 9 _ rfl
  have d10 : w8.cell? ⟨ga, 10, none⟩ = some (.int .i64 (me.2)) := hAb.cell 10 _ rfl
  have e6 : w8.cell? ⟨gm, 6, none⟩ = some (.int .i64 k) := hMb.cell 6 _ rfl
  have m_hP_0 : w8.cell? ⟨G, 0, none⟩ = some (.int .u64 (me.1)) := hP.cell 0 _ rfl
  have m_hP_1 : w8.cell? ⟨G, 1, none⟩ = some (.int .i64 (me.2)) := hP.cell 1 _ rfl
  have m_hQ_0 : w8.cell? ⟨G + 1, 0, none⟩ = some (.int .u64 (ms.1)) := hQ.cell 0 _ rfl
  have m_hQ_1 : w8.cell? ⟨G + 1, 1, none⟩ = some (.int .i64 (ms.2)) := hQ.cell 1 _ rfl
  clear hAb hMb
  go_upto_region 12 with fail
  clear d4 d5 d6 d8 d9 d10 e6 m_hP_0 m_hP_1 m_hQ_0 m_hQ_1
  have hn1 := bnew w8 (Obj.cells (msK.enc (zeroM)).toArray 34)
  have hM0 := Box.new w8 (msK.enc (zeroM)) 34
  go_upto_region 13 with (first | (guard_target =~ wpList _ _ _ (⟨some 100, _, _, _, _, _⟩ :: _) _ _; refine msT.load (op := ⟨some 100, .load _ _, _, _, _, _⟩) (by rfl) _ (by rfl) ga 0 (by rfl) (A) hA.rangeK ?_) | (guard_target =~ wpList _ _ _ (⟨none, _, _, _, _, _⟩ :: _) _ _; refine msT.store (op := ⟨none, .store _ _ _, _, _, _, _⟩) (by rfl) _ _ (by rfl) (w8.heap.size) (A) (zeroM) _ (by rfl) (by rfl) hM0 ?_))
  have n_hP_hB : G ≠ w8.heap.size := by have h1 := hP.lt; have h2 := Nat.le_refl w8.heap.size; omega
  have n_hQ_hB : G + 1 ≠ w8.heap.size := by have h1 := hQ.lt; have h2 := Nat.le_refl w8.heap.size; omega
  have n_hO_hB : G + 1 + 1 ≠ w8.heap.size := by have h1 := hO.lt; have h2 := Nat.le_refl w8.heap.size; omega
  have n_hX_hB : gx ≠ w8.heap.size := by have h1 := hX.lt; have h2 := Nat.le_refl w8.heap.size; omega
  have n_hM_hB : gm ≠ w8.heap.size := by have h1 := hM.lt; have h2 := Nat.le_refl w8.heap.size; omega
  have n_hA_hB : ga ≠ w8.heap.size := by have h1 := hA.lt; have h2 := Nat.le_refl w8.heap.size; omega
  have l_hB : w.heap.size ≤ w8.heap.size := Nat.le_trans hb.size (Nat.le_refl w8.heap.size)
  have hB := hM0.rowK (msK.enc (A))
  replace hP := (hP.below hn1).rowK_other (k := w8.heap.size) n_hP_hB (msK.enc (A)).toArray
  replace hQ := (hQ.below hn1).rowK_other (k := w8.heap.size) n_hQ_hB (msK.enc (A)).toArray
  replace hO := (hO.below hn1).rowK_other (k := w8.heap.size) n_hO_hB (msK.enc (A)).toArray
  replace hX := (hX.below hn1).row (k := w8.heap.size) n_hX_hB (msK.enc (A)).toArray
  replace hM := (hM.below hn1).rowK_other (k := w8.heap.size) n_hM_hB (msK.enc (A)).toArray
  replace hA := (hA.below hn1).rowK_other (k := w8.heap.size) n_hA_hB (msK.enc (A)).toArray
  have hW := below_setRow hn1 (Nat.le_refl _) (msK.enc (A)).toArray
  replace hb := bnext hb hW
  change Code.wp Try.prog _ _ _ ((w8.alloc (Obj.cells (msK.enc (zeroM)).toArray 34)).setRow w8.heap.size (msK.enc (A)).toArray)
  generalize (w8.alloc (Obj.cells (msK.enc (zeroM)).toArray 34)).setRow w8.heap.size (msK.enc (A)).toArray = w9 at *
  clear hn1 hM0 hW
  generalize w8.heap.size = gb at *
  rw [hAd.out] at hB
  have f9 := hB.free 9
  have f10 := hB.free 10
  have q9 : w9.cell? ⟨gb, 9, none⟩ = some (.int .u64 me.1) := hB.cell 9 _ rfl
  have q10 : w9.cell? ⟨gb, 10, none⟩ = some (.int .i64 me.2) := hB.cell 10 _ rfl
  have o0 : w9.cell? ⟨G + 1 + 1, 0, none⟩ = some (.int .u64 ot.1) := hO.cell 0 _ rfl
  have o1 : w9.cell? ⟨G + 1 + 1, 1, none⟩ = some (.int .i64 ot.2) := hO.cell 1 _ rfl
  go_upto_region 14 with fail
  clear f9 f10 q9 q10 o0 o1
  replace hB := (hB.set 9 (.int .u64 ot.1)).set 10 (.int .i64 ot.2)
  replace hb := (hb.setCell (p := ⟨gb, 9, none⟩) l_hB (.int .u64 ot.1)).setCell (p := ⟨gb, 10, none⟩) l_hB (.int .i64 ot.2)
  replace hP := (hP.other n_hP_hB 9 (.int .u64 ot.1)).other n_hP_hB 10 (.int .i64 ot.2)
  replace hQ := (hQ.other n_hQ_hB 9 (.int .u64 ot.1)).other n_hQ_hB 10 (.int .i64 ot.2)
  replace hO := (hO.other n_hO_hB 9 (.int .u64 ot.1)).other n_hO_hB 10 (.int .i64 ot.2)
  replace hX := (hX.setCell n_hX_hB 9 (.int .u64 ot.1)).setCell n_hX_hB 10 (.int .i64 ot.2)
  replace hM := (hM.other n_hM_hB 9 (.int .u64 ot.1)).other n_hM_hB 10 (.int .i64 ot.2)
  replace hA := (hA.other n_hA_hB 9 (.int .u64 ot.1)).other n_hA_hB 10 (.int .i64 ot.2)
  generalize World.setCell (World.setCell _ _ _) _ _ = w10 at *
  replace hB : Box w10 gb (msK.enc ((⟨9, 3, 0, c, ms.1, ms.2, k, 0⟩, { bd0 with st := r, tc := ot.1, tp := ot.2 }) : Hd × Bd)) 34 := hB
  obtain ⟨B9, hB9⟩ : ∃ B9 : Hd × Bd, B9 = ((⟨9, 3, 0, c, ms.1, ms.2, k, 0⟩, { bd0 with st := r, tc := ot.1, tp := ot.2 }) : Hd × Bd) := ⟨_, rfl⟩
  rw [← hB9] at hB
  have okA : HdOk A.1 := by rw [hAd.out]; exact hd_okx hms.1 hms.2 (show -9223372036854775808 ≤ c by omega) (show c ≤ 9223372036854775807 by omega)
  have okB : HdOk B9.1 := by rw [hB9]; exact hd_okx hms.1 hms.2 (show -9223372036854775808 ≤ c by omega) (show c ≤ 9223372036854775807 by omega)
  have tB9 : B9.2.tc = ot.1 ∧ B9.2.tp = ot.2 := by rw [hB9]; exact ⟨rfl, rfl⟩
  replace hB9 := hid hB9
  have r1 := resp_yes (x := ⟨me, 3, some (k, some s)⟩) (m := A) (s := k) (t := s) rfl (by rw [hAd.out]) (by rw [hAd.out]) (by rw [hAd.out]) (by rw [hAd.out])
  have r2 := resp_none (x := ⟨me, 3, none⟩) (m := A) rfl
  have hd : diffX A.2.st s A.1.co = r - s - c / 65536 := by rw [hAd.out]; show diffX r s c = _; exact diffX_in (by omega) (by omega) (by omega)
  rw [hd] at r1
  have hq1 : c.tdiv 65536 = c / 65536 := by rw [Int.tdiv_eq_ediv_of_nonneg hc0]
  have hq2 : wrap64 (r - s) = r - s := by unfold wrap64; omega
  have hq3 : wrap64 (r - s - c / 65536) = r - s - c / 65536 := by unfold wrap64; omega
  clear hd
  have o0 : w10.cell? ⟨G + 1 + 1, 0, none⟩ = some (.int .u64 ot.1) := hO.cell 0 _ rfl
  have o1 : w10.cell? ⟨G + 1 + 1, 1, none⟩ = some (.int .i64 ot.2) := hO.cell 1 _ rfl
  have m_hP_0 : w10.cell? ⟨G, 0, none⟩ = some (.int .u64 me.1) := hP.cell 0 _ rfl
  have m_hP_1 : w10.cell? ⟨G, 1, none⟩ = some (.int .i64 me.2) := hP.cell 1 _ rfl
  by_cases h1 : ot.1 = me.1
  · by_cases h2 : ot.2 = me.2
    · rw [h1] at o0
      rw [h2] at o1
      go_upto_region 18 with fail
      clear o0 o1 m_hP_0 m_hP_1
      go_wp2_with (guard_target =~ wpList _ _ _ (⟨some 115, _, _, _, _, _⟩ :: _) _ _; refine msT.load (op := ⟨some 115, .load _ _, _, _, _, _⟩) (by rfl) _ (by rfl) ga 0 (by rfl) (A) hA.rangeK ?_)
      refine (HP gx ⟨me, 3, some (k, some s)⟩ A w10 hX okA).mono ?_
      rintro e w11 ⟨rfl, h9, oq⟩
      replace hP := hP.only oq n_hP_hX
      replace hQ := hQ.only oq n_hQ_hX
      replace hO := hO.only oq n_hO_hX
      replace hM := hM.only oq (Ne.symm n_hX_hM)
      replace hA := hA.only oq (Ne.symm n_hX_hA)
      replace hB := hB.only oq (Ne.symm n_hX_hB)
      replace hb := Only.below hb oq l_hX hb.size
      replace hX := h9
      clear h9 oq
      rw [r1.1, r1.2.1]
      rw [r1.2.2] at hX
      replace hX : XAt R w11 gx ⟨me, 3, none⟩ := hX
      go_wp2_with (guard_target =~ wpList _ _ _ (⟨some 121, _, _, _, _, _⟩ :: _) _ _; refine msT.load (op := ⟨some 121, .load _ _, _, _, _, _⟩) (by rfl) _ (by rfl) ga 0 (by rfl) (A) hA.rangeK ?_)
      refine (HP gx ⟨me, 3, none⟩ A w11 hX okA).mono ?_
      rintro e w12 ⟨rfl, h9, oq⟩
      replace hP := hP.only oq n_hP_hX
      replace hQ := hQ.only oq n_hQ_hX
      replace hO := hO.only oq n_hO_hX
      replace hM := hM.only oq (Ne.symm n_hX_hM)
      replace hA := hA.only oq (Ne.symm n_hX_hA)
      replace hB := hB.only oq (Ne.symm n_hX_hB)
      replace hb := Only.below hb oq l_hX hb.size
      replace hX := h9
      clear h9 oq
      rw [r2.1]
      have hMb : Box w12 gm (msK.enc ((⟨1, 3, 0, c, me.1, me.2, k, 127⟩, bd0) : Hd × Bd)) _ := hM1.out ▸ hM
      have e3 : w12.cell? ⟨gm, 3, none⟩ = some (.int .i64 c) := hMb.cell 3 _ rfl
      clear hMb
      go_wp2_with fail
      refine (awake17_from HNew HR HS HP _).mono ?_
      rintro e wz ⟨rfl, bz⟩
      go_wp2_with fail
      go_ret
      exact ⟨rfl, bnext hb bz⟩
    · have f2 : (ot.2 == me.2) = false := beq_false_of_ne h2
      have rn := resp_no (x := ⟨me, 3, some (k, some s)⟩) (m := B9) (s := k) (t := s) rfl (.inr (.inl (by rw [tB9.2]; exact h2)))
      rw [h1] at o0
      go_wp2_with (guard_target =~ wpList _ _ _ (⟨some 108, _, _, _, _, _⟩ :: _) _ _; refine msT.load (op := ⟨some 108, .load _ _, _, _, _, _⟩) (by rfl) _ (by rfl) gb 0 (by rfl) (B9) hB.rangeK ?_)
      clear o0 o1 m_hP_0 m_hP_1
      refine (HP gx ⟨me, 3, some (k, some s)⟩ B9 w10 hX okB).mono ?_
      rintro e w11 ⟨rfl, h9, oq⟩
      replace hP := hP.only oq n_hP_hX
      replace hQ := hQ.only oq n_hQ_hX
      replace hO := hO.only oq n_hO_hX
      replace hM := hM.only oq (Ne.symm n_hX_hM)
      replace hA := hA.only oq (Ne.symm n_hX_hA)
      replace hB := hB.only oq (Ne.symm n_hX_hB)
      replace hb := Only.below hb oq l_hX hb.size
      replace hX := h9
      clear h9 oq
      rw [rn.1]
      rw [rn.2.2] at hX
      go_wp2_with (guard_target =~ wpList _ _ _ (⟨some 115, _, _, _, _, _⟩ :: _) _ _; refine msT.load (op := ⟨some 115, .load _ _, _, _, _, _⟩) (by rfl) _ (by rfl) ga 0 (by rfl) (A) hA.rangeK ?_)
      refine (HP gx ⟨me, 3, some (k, some s)⟩ A w11 hX okA).mono ?_
      rintro e w12 ⟨rfl, h9, oq⟩
      replace hP := hP.only oq n_hP_hX
      replace hQ := hQ.only oq n_hQ_hX
      replace hO := hO.only oq n_hO_hX
      replace hM := hM.only oq (Ne.symm n_hX_hM)
      replace hA := hA.only oq (Ne.symm n_hX_hA)
      replace hB := hB.only oq (Ne.symm n_hX_hB)
      replace hb := Only.below hb oq l_hX hb.size
      replace hX := h9
      clear h9 oq
      rw [r1.1, r1.2.1]
      rw [r1.2.2] at hX
      replace hX : XAt R w12 gx ⟨me, 3, none⟩ := hX
      go_wp2_with (guard_target =~ wpList _ _ _ (⟨some 121, _, _, _, _, _⟩ :: _) _ _; refine msT.load (op := ⟨some 121, .load _ _, _, _, _, _⟩) (by rfl) _ (by rfl) ga 0 (by rfl) (A) hA.rangeK ?_)
      refine (HP gx ⟨me, 3, none⟩ A w12 hX okA).mono ?_
      rintro e w13 ⟨rfl, h9, oq⟩
      replace hP := hP.only oq n_hP_hX
      replace hQ := hQ.only oq n_hQ_hX
      replace hO := hO.only oq n_hO_hX
      replace hM := hM.only oq (Ne.symm n_hX_hM)
      replace hA := hA.only oq (Ne.symm n_hX_hA)
      replace hB := hB.only oq (Ne.symm n_hX_hB)
      replace hb := Only.below hb oq l_hX hb.size
      replace hX := h9
      clear h9 oq
      rw [r2.1]
      have hMb : Box w13 gm (msK.enc ((⟨1, 3, 0, c, me.1, me.2, k, 127⟩, bd0) : Hd × Bd)) _ := hM1.out ▸ hM
      have e3 : w13.cell? ⟨gm, 3, none⟩ = some (.int .i64 c) := hMb.cell 3 _ rfl
      clear hMb
      go_wp2_with fail
      refine (awake17_from HNew HR HS HP _).mono ?_
      rintro e wz ⟨rfl, bz⟩
      go_wp2_with fail
      go_ret
      exact ⟨rfl, bnext hb bz⟩
  · have f1 : (ot.1 == me.1) = false := beq_false_of_ne h1
    have rn := resp_no (x := ⟨me, 3, some (k, some s)⟩) (m := B9) (s := k) (t := s) rfl (.inl (by rw [tB9.1]; exact h1))
    go_wp2_with (guard_target =~ wpList _ _ _ (⟨some 108, _, _, _, _, _⟩ :: _) _ _; refine msT.load (op := ⟨some 108, .load _ _, _, _, _, _⟩) (by rfl) _ (by rfl) gb 0 (by rfl) (B9) hB.rangeK ?_)
    clear o0 o1 m_hP_0 m_hP_1
    refine (HP gx ⟨me, 3, some (k, some s)⟩ B9 w10 hX okB).mono ?_
    rintro e w11 ⟨rfl, h9, oq⟩
    replace hP := hP.only oq n_hP_hX
    replace hQ := hQ.only oq n_hQ_hX
    replace hO := hO.only oq n_hO_hX
    replace hM := hM.only oq (Ne.symm n_hX_hM)
    replace hA := hA.only oq (Ne.symm n_hX_hA)
    replace hB := hB.only oq (Ne.symm n_hX_hB)
    replace hb := Only.below hb oq l_hX hb.size
    replace hX := h9
    clear h9 oq
    rw [rn.1]
    rw [rn.2.2] at hX
    go_wp2_with (guard_target =~ wpList _ _ _ (⟨some 115, _, _, _, _, _⟩ :: _) _ _; refine msT.load (op := ⟨some 115, .load _ _, _, _, _, _⟩) (by rfl) _ (by rfl) ga 0 (by rfl) (A) hA.rangeK ?_)
    refine (HP gx ⟨me, 3, some (k, some s)⟩ A w11 hX okA).mono ?_
    rintro e w12 ⟨rfl, h9, oq⟩
    replace hP := hP.only oq n_hP_hX
    replace hQ := hQ.only oq n_hQ_hX
    replace hO := hO.only oq n_hO_hX
    replace hM := hM.only oq (Ne.symm n_hX_hM)
    replace hA := hA.only oq (Ne.symm n_hX_hA)
    replace hB := hB.only oq (Ne.symm n_hX_hB)
    replace hb := Only.below hb oq l_hX hb.size
    replace hX := h9
    clear h9 oq
    rw [r1.1, r1.2.1]
    rw [r1.2.2] at hX
    replace hX : XAt R w12 gx ⟨me, 3, none⟩ := hX
    go_wp2_with (guard_target =~ wpList _ _ _ (⟨some 121, _, _, _, _, _⟩ :: _) _ _; refine msT.load (op := ⟨some 121, .load _ _, _, _, _, _⟩) (by rfl) _ (by rfl) ga 0 (by rfl) (A) hA.rangeK ?_)
    refine (HP gx ⟨me, 3, none⟩ A w12 hX okA).mono ?_
    rintro e w13 ⟨rfl, h9, oq⟩
    replace hP := hP.only oq n_hP_hX
    replace hQ := hQ.only oq n_hQ_hX
    replace hO := hO.only oq n_hO_hX
    replace hM := hM.only oq (Ne.symm n_hX_hM)
    replace hA := hA.only oq (Ne.symm n_hX_hA)
    replace hB := hB.only oq (Ne.symm n_hX_hB)
    replace hb := Only.below hb oq l_hX hb.size
    replace hX := h9
    clear h9 oq
    rw [r2.1]
    have hMb : Box w13 gm (msK.enc ((⟨1, 3, 0, c, me.1, me.2, k, 127⟩, bd0) : Hd × Bd)) _ := hM1.out ▸ hM
    have e3 : w13.cell? ⟨gm, 3, none⟩ = some (.int .i64 c) := hMb.cell 3 _ rfl
    clear hMb
    go_wp2_with fail
    refine (awake17_from HNew HR HS HP _).mono ?_
    rintro e wz ⟨rfl, bz⟩
    go_wp2_with fail
    go_ret
    exact ⟨rfl, bnext hb bz⟩

end Go.Proofs.Ytnlmncpiccehjaa
