/- carillonlaw17's DelayApart from contracts (gen_dellaws.py). -/
import Derived.Test.YtnlmncpiccehjaaDelLaws2
namespace Go.Proofs.Ytnlmncpiccehjaa
open Go.RowKit Go.Proofs
set_option maxRecDepth 50000
set_option linter.unusedVariables false
set_option linter.unusedSimpArgs false

set_option maxRecDepth 100000 in
set_option maxHeartbeats 8000000 in
theorem delayApart_from {R : List Value → Xs → Prop} (HNew : CNewX R) (HR : CReq R) (HS : CSent R) (HP : CResp R) (HQ : CAns) (a b : Int × Int) (ha : 0 ≤ a.1 ∧ a.1 < 18446744073709551616) (hb0 : 0 ≤ b.1 ∧ b.1 < 18446744073709551616) (n s t : Int) (w : World) :
    Calls Try.prog 7 #[.agg (prK.enc a).toArray, .agg (prK.enc b).toArray, .int .i64 n, .int .i64 s, .int .i64 t] w fun e w' => e = .returned (.bool true) ∧ Below w.heap.size w w' := by
  have z0 := bnew w (Obj.cells (prK.enc a).toArray 24)
  have hP := Box.new w (prK.enc a) 24
  have z1 := bnew (w.alloc (Obj.cells (prK.enc a).toArray 24)) (Obj.cells (prK.enc b).toArray 24)
  have hQ := Box.new (w.alloc (Obj.cells (prK.enc a).toArray 24)) (prK.enc b) 24
  replace hP := hP.below z1
  have hb := z0
  replace hb := bnext hb z1
  clear z0
  clear z1
  have s1 : (w.alloc (Obj.cells (prK.enc a).toArray 24)).heap.size = w.heap.size + 1 := by simp
  rw [s1] at hQ
  go_enter Try.func7, Try.ntmps7
  go_upto_region 1 with fail
  change Code.wp Try.prog _ _ _ ((w.alloc (Obj.cells (prK.enc a).toArray 24)).alloc (Obj.cells (prK.enc b).toArray 24))
  generalize ((w.alloc (Obj.cells (prK.enc a).toArray 24)).alloc (Obj.cells (prK.enc b).toArray 24)) = W at *
  clear s1
  generalize hG : w.heap.size = G at *
  rw [← hG] at hb
  have l_hP : w.heap.size ≤ G := by omega
  have l_hQ : w.heap.size ≤ G + 1 := by omega
  have n_hP_hQ : G ≠ G + 1 := by omega
  have p0 : W.cell? ⟨G, 0, none⟩ = some (.int .u64 a.1) := hP.cell 0 _ rfl
  have p1 : W.cell? ⟨G, 1, none⟩ = some (.int .i64 a.2) := hP.cell 1 _ rfl
  have q0 : W.cell? ⟨G + 1, 0, none⟩ = some (.int .u64 b.1) := hQ.cell 0 _ rfl
  have q1 : W.cell? ⟨G + 1, 1, none⟩ = some (.int .i64 b.2) := hQ.cell 1 _ rfl
  by_cases h1 : a.1 = b.1
  · by_cases h2 : a.2 = b.2
    · rw [← h1] at q0
      rw [← h2] at q1
      go_wp2_with fail
      refine (awake17_from HNew HR HS HP _).mono ?_
      rintro e wz ⟨rfl, bz⟩
      go_wp2_with fail
      go_ret
      exact ⟨rfl, bnext hb bz⟩
    · have f2 : (a.2 == b.2) = false := beq_false_of_ne h2
      have hne : a.1 ≠ b.1 ∨ a.2 ≠ b.2 := .inr h2
      rw [← h1] at q0
      go_upto_region 3 with fail
      replace hne := hid hne
      clear h1 h2 f2
      replace hne := hne.out
      clear p0 p1 q0 q1
      refine wp_region_held_drew (S := fun w' => Below W.drew.heap.size W.drew w') (by kernel_rfl) (Below.refl _ _) ?_
      intro hHeld
      have bq := Below.drew (Below.refl W.heap.size W)
      generalize W.drew = WD at *
      replace hP := hP.below bq
      replace hQ := hQ.below bq
      replace hb := bnext hb bq
      clear bq
      refine rtake 0 rfl (by rfl) (by kernel_rfl) (by kernel_rfl) (by kernel_rfl) (fun _ _ _ h => h) hHeld (fun wx hwx => prT.exec _ rfl G 0 rfl a (hP.below hwx).rangeK) ?_
      try simp only [Act.put, List.setIfInBounds_toArray, List.set_cons_zero, List.set_cons_succ]
      refine rtake 2 rfl (by rfl) (by kernel_rfl) (by kernel_rfl) (by kernel_rfl) (fun _ _ _ h => h) hHeld (fun wx hwx => prT.exec _ rfl (G + 1) 0 rfl b (hQ.below hwx).rangeK) ?_
      try simp only [Act.put, List.setIfInBounds_toArray, List.set_cons_zero, List.set_cons_succ]
      refine rcall 1 rfl (by kernel_rfl) (by rfl) (fun K' hK => ?_)
      go_simp
      refine (HNew a 0 WD ha).mono ?_
      rintro e w1 ⟨gx, rfl, hg, h9, bq⟩
      refine hK.out _ _ bq ?_
      clear hK K'
      refine wpAnyH_mono (S' := fun w' => Below w1.heap.size w1 w') (fun w' h => bnext bq h) _ _ _ _ ?_
      clear hHeld
      have hHeld := Below.refl w1.heap.size w1
      try simp only [Act.put, List.setIfInBounds_toArray, List.set_cons_zero, List.set_cons_succ]
      have n_hP_hX : G ≠ gx := by have h1 := hP.lt; have h2 := hg; omega
      have n_hQ_hX : G + 1 ≠ gx := by have h1 := hQ.lt; have h2 := hg; omega
      have l_hX : w.heap.size ≤ gx := Nat.le_trans hb.size (hg)
      replace hP := hP.below bq
      replace hQ := hQ.below bq
      replace hb := bnext hb bq
      clear bq
      have hX := h9
      clear h9 hg
      refine rcall 3 rfl (by kernel_rfl) (by rfl) (fun K' hK => ?_)
      go_simp
      refine (HNew b 0 w1 hb0).mono ?_
      rintro e w2 ⟨gy, rfl, hg, h9, bq⟩
      refine hK.out _ _ bq ?_
      clear hK K'
      refine wpAnyH_mono (S' := fun w' => Below w2.heap.size w2 w') (fun w' h => bnext bq h) _ _ _ _ ?_
      clear hHeld
      have hHeld := Below.refl w2.heap.size w2
      try simp only [Act.put, List.setIfInBounds_toArray, List.set_cons_zero, List.set_cons_succ]
      have n_hP_hY : G ≠ gy := by have h1 := hP.lt; have h2 := hg; omega
      have n_hQ_hY : G + 1 ≠ gy := by have h1 := hQ.lt; have h2 := hg; omega
      have n_hX_hY : gx ≠ gy := by have h1 := hX.lt; have h2 := hg; omega
      have l_hY : w.heap.size ≤ gy := Nat.le_trans hb.size (hg)
      replace hP := hP.below bq
      replace hQ := hQ.below bq
      replace hX := hX.below bq
      replace hb := bnext hb bq
      clear bq
      have hY := h9
      clear h9 hg
      refine rtake 4 rfl (by rfl) (by kernel_rfl) (by kernel_rfl) (by kernel_rfl) (fun _ _ _ h => h) hHeld (fun wx hwx => by go_simp; try with_reducible rfl) ?_
      try simp only [Act.put, List.setIfInBounds_toArray, List.set_cons_zero, List.set_cons_succ]
      refine rtake 5 rfl (by rfl) (by kernel_rfl) (by kernel_rfl) (by kernel_rfl) (fun _ _ _ h => h) hHeld (fun wx hwx => by go_simp; try with_reducible rfl) ?_
      try simp only [Act.put, List.setIfInBounds_toArray, List.set_cons_zero, List.set_cons_succ]
      refine wpAnyH_done (by kernel_rfl) ?_ _
      clear hHeld
      go_wp2_with fail
      refine (place_in n 65536 _ (by decide) (by decide)).mono ?_
      rintro e w0 ⟨k, rfl, hk0, hk1, -, rfl⟩
      have ek : k % 65536 = k := by omega
      obtain ⟨A, hA0⟩ : ∃ A, reqM ⟨a, 0, none⟩ k = A := ⟨_, rfl⟩
      obtain ⟨B, hB0⟩ : ∃ B, reqM ⟨b, 0, none⟩ k = B := ⟨_, rfl⟩
      have tA : A.1.ty = 1 ∧ A.1.sq = k ∧ A.1.co = 0 ∧ A.1.sc = a.1 ∧ A.1.sp = a.2 := by rw [← hA0]; exact ⟨rfl, ek, rfl, rfl, rfl⟩
      have tB : B.1.ty = 1 ∧ B.1.sq = k ∧ B.1.co = 0 ∧ B.1.sc = b.1 ∧ B.1.sp = b.2 := by rw [← hB0]; exact ⟨rfl, ek, rfl, rfl, rfl⟩
      have okA : HdOk A.1 := hd_okx (by rw [tA.2.2.2.1]; exact ha.1) (by rw [tA.2.2.2.1]; exact ha.2) (by rw [tA.2.2.1]; decide) (by rw [tA.2.2.1]; decide)
      have okB : HdOk B.1 := hd_okx (by rw [tB.2.2.2.1]; exact hb0.1) (by rw [tB.2.2.2.1]; exact hb0.2) (by rw [tB.2.2.1]; decide) (by rw [tB.2.2.1]; decide)
      have r0 : reqS ⟨a, 0, none⟩ k = ⟨a, 0, some (k, none)⟩ := by unfold reqS; rw [ek]
      have r1 : reqS ⟨b, 0, none⟩ k = ⟨b, 0, some (k, none)⟩ := by unfold reqS; rw [ek]
      replace hA0 := hid hA0
      replace hB0 := hid hB0
      clear ek
      go_wp2_with fail
      refine (HR gx ⟨a, 0, none⟩ k 0 w2 hX (by omega)).mono ?_
      rintro e w3 ⟨rfl, h9, oq⟩
      replace hP := hP.only oq n_hP_hX
      replace hQ := hQ.only oq n_hQ_hX
      replace hY := hY.only oq (Ne.symm n_hX_hY)
      replace hb := Only.below hb oq l_hX hb.size
      replace hX := h9
      clear h9 oq
      rw [hA0.out]
      rw [r0] at hX
      go_wp2_with fail
      refine (HR gy ⟨b, 0, none⟩ k 0 w3 hY (by omega)).mono ?_
      rintro e w4 ⟨rfl, h9, oq⟩
      replace hP := hP.only oq n_hP_hY
      replace hQ := hQ.only oq n_hQ_hY
      replace hX := hX.only oq n_hX_hY
      replace hb := Only.below hb oq l_hY hb.size
      replace hY := h9
      clear h9 oq
      rw [hB0.out]
      rw [r1] at hY
      have z0 := bnew w4 (Obj.cells (msK.enc zeroM).toArray 34)
      have z1 := bnew (w4.alloc (Obj.cells (msK.enc zeroM).toArray 34)) (Obj.cells (msK.enc zeroM).toArray 34)
      have sz : (w4.alloc (Obj.cells (msK.enc zeroM).toArray 34)).heap.size = w4.heap.size + 1 := by simp
      have N1 := (Box.new w4 (msK.enc zeroM) 34).below z1
      have N2 := Box.new (w4.alloc (Obj.cells (msK.enc zeroM).toArray 34)) (msK.enc zeroM) 34
      rw [sz] at N2
      have hz := bnext z0 z1
      have ne12 : w4.heap.size + 1 ≠ w4.heap.size := by omega
      have N2r := N2.rowK_other ne12 (msK.enc A).toArray
      go_upto_region 8 with (first | (guard_target =~ wpList _ _ _ (⟨none, _, _, _, _, _⟩ :: _) _ _; refine msT.store (op := ⟨none, .store _ _ _, _, _, _, _⟩) (by rfl) _ _ (by rfl) (w4.heap.size) (A) (zeroM) _ (by rfl) (by rfl) N1 ?_) | (guard_target =~ wpList _ _ _ (⟨none, _, _, _, _, _⟩ :: _) _ _; refine msT.store (op := ⟨none, .store _ _ _, _, _, _, _⟩) (by rfl) _ _ (by rfl) (w4.heap.size + 1) (B) (zeroM) _ (by rfl) (by rfl) N2r ?_))
      have n_hP_hA : G ≠ w4.heap.size := by have h1 := hP.lt; have h2 := Nat.le_refl w4.heap.size; omega
      have n_hQ_hA : G + 1 ≠ w4.heap.size := by have h1 := hQ.lt; have h2 := Nat.le_refl w4.heap.size; omega
      have n_hX_hA : gx ≠ w4.heap.size := by have h1 := hX.lt; have h2 := Nat.le_refl w4.heap.size; omega
      have n_hY_hA : gy ≠ w4.heap.size := by have h1 := hY.lt; have h2 := Nat.le_refl w4.heap.size; omega
      have l_hA : w.heap.size ≤ w4.heap.size := Nat.le_trans hb.size (Nat.le_refl w4.heap.size)
      have n_hP_hB : G ≠ w4.heap.size + 1 := by have h1 := hP.lt; have h2 := Nat.le_succ w4.heap.size; omega
      have n_hQ_hB : G + 1 ≠ w4.heap.size + 1 := by have h1 := hQ.lt; have h2 := Nat.le_succ w4.heap.size; omega
      have n_hX_hB : gx ≠ w4.heap.size + 1 := by have h1 := hX.lt; have h2 := Nat.le_succ w4.heap.size; omega
      have n_hY_hB : gy ≠ w4.heap.size + 1 := by have h1 := hY.lt; have h2 := Nat.le_succ w4.heap.size; omega
      have l_hB : w.heap.size ≤ w4.heap.size + 1 := Nat.le_trans hb.size (Nat.le_succ w4.heap.size)
      have hA := (N1.rowK (msK.enc A)).rowK_other (Ne.symm ne12) (msK.enc B).toArray
      have hB := N2r.rowK (msK.enc B)
      have bq := below_setRow (below_setRow hz (Nat.le_refl _) (msK.enc A).toArray) (Nat.le_succ _) (msK.enc B).toArray
      change Code.wp Try.prog _ _ _ ((((w4.alloc (Obj.cells (msK.enc zeroM).toArray 34)).alloc (Obj.cells (msK.enc zeroM).toArray 34)).setRow w4.heap.size (msK.enc A).toArray).setRow (w4.heap.size + 1) (msK.enc B).toArray)
      generalize ((((w4.alloc (Obj.cells (msK.enc zeroM).toArray 34)).alloc (Obj.cells (msK.enc zeroM).toArray 34)).setRow w4.heap.size (msK.enc A).toArray).setRow (w4.heap.size + 1) (msK.enc B).toArray) = w5 at *
      clear z0 z1 sz N1 N2 N2r hz
      replace hP := hP.below bq
      replace hQ := hQ.below bq
      replace hX := hX.below bq
      replace hY := hY.below bq
      replace hb := bnext hb bq
      clear bq
      generalize hgB : w4.heap.size + 1 = gb at *
      have n_hA_hB : w4.heap.size ≠ gb := by omega
      generalize w4.heap.size = ga at *
      clear hgB ne12
      go_wp2_with fail
      refine (place_in s 1099511627776 _ (by decide) (by decide)).mono ?_
      rintro e w0 ⟨u, rfl, hu0, hu1, -, rfl⟩
      go_wp2_with fail
      refine (place_in t 1099511627776 _ (by decide) (by decide)).mono ?_
      rintro e w0 ⟨v, rfl, hv0, hv1, -, rfl⟩
      have b1 := sent_yes (x := ⟨a, 0, some (k, none)⟩) (n := k) (at' := u) rfl
      have b2 := sent_yes (x := ⟨b, 0, some (k, none)⟩) (n := k) (at' := v) rfl
      go_wp2_with fail
      refine (HS gx ⟨a, 0, some (k, none)⟩ k u w5 hX).mono ?_
      rintro e w6 ⟨rfl, h9, oq⟩
      replace hP := hP.only oq n_hP_hX
      replace hQ := hQ.only oq n_hQ_hX
      replace hY := hY.only oq (Ne.symm n_hX_hY)
      replace hA := hA.only oq (Ne.symm n_hX_hA)
      replace hB := hB.only oq (Ne.symm n_hX_hB)
      replace hb := Only.below hb oq l_hX hb.size
      replace hX := h9
      clear h9 oq
      rw [b1.2] at hX
      go_wp2_with fail
      refine (HS gy ⟨b, 0, some (k, none)⟩ k v w6 hY).mono ?_
      rintro e w7 ⟨rfl, h9, oq⟩
      replace hP := hP.only oq n_hP_hY
      replace hQ := hQ.only oq n_hQ_hY
      replace hX := hX.only oq n_hX_hY
      replace hA := hA.only oq (Ne.symm n_hY_hA)
      replace hB := hB.only oq (Ne.symm n_hY_hB)
      replace hb := Only.below hb oq l_hY hb.size
      replace hY := h9
      clear h9 oq
      rw [b2.2] at hY
      clear b1 b2
      obtain ⟨P, hP0⟩ : ∃ P, answM A (8, 1) 2199023255552 0 = P := ⟨_, rfl⟩
      have aP := answ_yes (me := (8, 1)) (log := 0) (at' := 2199023255552) tA.1 (by decide) (by decide)
      rw [hP0] at aP
      have tP : P.1.ty = 9 ∧ P.1.sq = k ∧ P.1.co = 0 ∧ P.1.sc = 8 ∧ P.2.st = 2199023255552 ∧ P.2.tc = a.1 ∧ P.2.tp = a.2 := by rw [aP.2]; exact ⟨rfl, tA.2.1, tA.2.2.1, rfl, rfl, tA.2.2.2.1, tA.2.2.2.2⟩
      have okP : HdOk P.1 := hd_okx (by rw [tP.2.2.2.1]; decide) (by rw [tP.2.2.2.1]; decide) (by rw [tP.2.2.1]; decide) (by rw [tP.2.2.1]; decide)
      replace aP := aP.1
      replace hP0 := hid hP0
      go_wp2_with (first | (guard_target =~ wpList _ _ _ (⟨some 65, _, _, _, _, _⟩ :: _) _ _; refine msT.load (op := ⟨some 65, .load _ _, _, _, _, _⟩) (by rfl) _ (by rfl) ga 0 (by rfl) (A) hA.rangeK ?_) | (guard_target =~ wpList _ _ _ (⟨some 66, _, _, _, _, _⟩ :: _) _ _; refine wpList_build_any (op := ⟨some 66, .build _ _, _, _, _, _⟩) (by rfl) _ _ (by rfl) _ (by rfl) (prK.enc (8, 1)).toArray (by kernel_rfl) ?_))
      refine (HQ A (8, 1) 2199023255552 0 w7 okA).mono ?_
      rintro e w8 ⟨rfl, bq⟩
      replace hP := hP.below bq
      replace hQ := hQ.below bq
      replace hX := hX.below bq
      replace hY := hY.below bq
      replace hA := hA.below bq
      replace hB := hB.below bq
      replace hb := bnext hb bq
      clear bq
      rw [hP0.out, aP]
      have hn1 := bnew w8 (Obj.cells (msK.enc (zeroM)).toArray 34)
      have hM0 := Box.new w8 (msK.enc (zeroM)) 34
      go_upto_region 12 with (guard_target =~ wpList _ _ _ (⟨none, _, _, _, _, _⟩ :: _) _ _; refine msT.store (op := ⟨none, .store _ _ _, _, _, _, _⟩) (by rfl) _ _ (by rfl) (w8.heap.size) (P) (zeroM) _ (by rfl) (by rfl) hM0 ?_)
      have n_hP_hR1 : G ≠ w8.heap.size := by have h1 := hP.lt; have h2 := Nat.le_refl w8.heap.size; omega
      have n_hQ_hR1 : G + 1 ≠ w8.heap.size := by have h1 := hQ.lt; have h2 := Nat.le_refl w8.heap.size; omega
      have n_hX_hR1 : gx ≠ w8.heap.size := by have h1 := hX.lt; have h2 := Nat.le_refl w8.heap.size; omega
      have n_hY_hR1 : gy ≠ w8.heap.size := by have h1 := hY.lt; have h2 := Nat.le_refl w8.heap.size; omega
      have n_hA_hR1 : ga ≠ w8.heap.size := by have h1 := hA.lt; have h2 := Nat.le_refl w8.heap.size; omega
      have n_hB_hR1 : gb ≠ w8.heap.size := by have h1 := hB.lt; have h2 := Nat.le_refl w8.heap.size; omega
      have l_hR1 : w.heap.size ≤ w8.heap.size := Nat.le_trans hb.size (Nat.le_refl w8.heap.size)
      have hR1 := hM0.rowK (msK.enc (P))
      replace hP := (hP.below hn1).rowK_other (k := w8.heap.size) n_hP_hR1 (msK.enc (P)).toArray
      replace hQ := (hQ.below hn1).rowK_other (k := w8.heap.size) n_hQ_hR1 (msK.enc (P)).toArray
      replace hX := (hX.below hn1).row (k := w8.heap.size) n_hX_hR1 (msK.enc (P)).toArray
      replace hY := (hY.below hn1).row (k := w8.heap.size) n_hY_hR1 (msK.enc (P)).toArray
      replace hA := (hA.below hn1).rowK_other (k := w8.heap.size) n_hA_hR1 (msK.enc (P)).toArray
      replace hB := (hB.below hn1).rowK_other (k := w8.heap.size) n_hB_hR1 (msK.enc (P)).toArray
      have hW := below_setRow hn1 (Nat.le_refl _) (msK.enc (P)).toArray
      replace hb := bnext hb hW
      change Code.wp Try.prog _ _ _ ((w8.alloc (Obj.cells (msK.enc (zeroM)).toArray 34)).setRow w8.heap.size (msK.enc (P)).toArray)
      generalize (w8.alloc (Obj.cells (msK.enc (zeroM)).toArray 34)).setRow w8.heap.size (msK.enc (P)).toArray = w9 at *
      clear hn1 hM0 hW
      generalize w8.heap.size = gp at *
      obtain ⟨Q9, hQ90⟩ : ∃ P, answM B (8, 1) 4398046511104 0 = P := ⟨_, rfl⟩
      have aQ9 := answ_yes (me := (8, 1)) (log := 0) (at' := 4398046511104) tB.1 (by decide) (by decide)
      rw [hQ90] at aQ9
      have tQ9 : Q9.1.ty = 9 ∧ Q9.1.sq = k ∧ Q9.1.co = 0 ∧ Q9.1.sc = 8 ∧ Q9.2.st = 4398046511104 ∧ Q9.2.tc = b.1 ∧ Q9.2.tp = b.2 := by rw [aQ9.2]; exact ⟨rfl, tB.2.1, tB.2.2.1, rfl, rfl, tB.2.2.2.1, tB.2.2.2.2⟩
      have okQ9 : HdOk Q9.1 := hd_okx (by rw [tQ9.2.2.2.1]; decide) (by rw [tQ9.2.2.2.1]; decide) (by rw [tQ9.2.2.1]; decide) (by rw [tQ9.2.2.1]; decide)
      replace aQ9 := aQ9.1
      replace hQ90 := hid hQ90
      go_wp2_with (first | (guard_target =~ wpList _ _ _ (⟨some 71, _, _, _, _, _⟩ :: _) _ _; refine msT.load (op := ⟨some 71, .load _ _, _, _, _, _⟩) (by rfl) _ (by rfl) gb 0 (by rfl) (B) hB.rangeK ?_) | (guard_target =~ wpList _ _ _ (⟨some 72, _, _, _, _, _⟩ :: _) _ _; refine wpList_build_any (op := ⟨some 72, .build _ _, _, _, _, _⟩) (by rfl) _ _ (by rfl) _ (by rfl) (prK.enc (8, 1)).toArray (by kernel_rfl) ?_))
      refine (HQ B (8, 1) 4398046511104 0 w9 okB).mono ?_
      rintro e w10 ⟨rfl, bq⟩
      replace hP := hP.below bq
      replace hQ := hQ.below bq
      replace hX := hX.below bq
      replace hY := hY.below bq
      replace hA := hA.below bq
      replace hB := hB.below bq
      replace hR1 := hR1.below bq
      replace hb := bnext hb bq
      clear bq
      rw [hQ90.out, aQ9]
      have hn1 := bnew w10 (Obj.cells (msK.enc (zeroM)).toArray 34)
      have hM0 := Box.new w10 (msK.enc (zeroM)) 34
      go_upto_region 13 with (guard_target =~ wpList _ _ _ (⟨none, _, _, _, _, _⟩ :: _) _ _; refine msT.store (op := ⟨none, .store _ _ _, _, _, _, _⟩) (by rfl) _ _ (by rfl) (w10.heap.size) (Q9) (zeroM) _ (by rfl) (by rfl) hM0 ?_)
      have n_hP_hR2 : G ≠ w10.heap.size := by have h1 := hP.lt; have h2 := Nat.le_refl w10.heap.size; omega
      have n_hQ_hR2 : G + 1 ≠ w10.heap.size := by have h1 := hQ.lt; have h2 := Nat.le_refl w10.heap.size; omega
      have n_hX_hR2 : gx ≠ w10.heap.size := by have h1 := hX.lt; have h2 := Nat.le_refl w10.heap.size; omega
      have n_hY_hR2 : gy ≠ w10.heap.size := by have h1 := hY.lt; have h2 := Nat.le_refl w10.heap.size; omega
      have n_hA_hR2 : ga ≠ w10.heap.size := by have h1 := hA.lt; have h2 := Nat.le_refl w10.heap.size; omega
      have n_hB_hR2 : gb ≠ w10.heap.size := by have h1 := hB.lt; have h2 := Nat.le_refl w10.heap.size; omega
      have n_hR1_hR2 : gp ≠ w10.heap.size := by have h1 := hR1.lt; have h2 := Nat.le_refl w10.heap.size; omega
      have l_hR2 : w.heap.size ≤ w10.heap.size := Nat.le_trans hb.size (Nat.le_refl w10.heap.size)
      have hR2 := hM0.rowK (msK.enc (Q9))
      replace hP := (hP.below hn1).rowK_other (k := w10.heap.size) n_hP_hR2 (msK.enc (Q9)).toArray
      replace hQ := (hQ.below hn1).rowK_other (k := w10.heap.size) n_hQ_hR2 (msK.enc (Q9)).toArray
      replace hX := (hX.below hn1).row (k := w10.heap.size) n_hX_hR2 (msK.enc (Q9)).toArray
      replace hY := (hY.below hn1).row (k := w10.heap.size) n_hY_hR2 (msK.enc (Q9)).toArray
      replace hA := (hA.below hn1).rowK_other (k := w10.heap.size) n_hA_hR2 (msK.enc (Q9)).toArray
      replace hB := (hB.below hn1).rowK_other (k := w10.heap.size) n_hB_hR2 (msK.enc (Q9)).toArray
      replace hR1 := (hR1.below hn1).rowK_other (k := w10.heap.size) n_hR1_hR2 (msK.enc (Q9)).toArray
      have hW := below_setRow hn1 (Nat.le_refl _) (msK.enc (Q9)).toArray
      replace hb := bnext hb hW
      change Code.wp Try.prog _ _ _ ((w10.alloc (Obj.cells (msK.enc (zeroM)).toArray 34)).setRow w10.heap.size (msK.enc (Q9)).toArray)
      generalize (w10.alloc (Obj.cells (msK.enc (zeroM)).toArray 34)).setRow w10.heap.size (msK.enc (Q9)).toArray = w11 at *
      clear hn1 hM0 hW
      generalize w10.heap.size = gq at *
      have r3 := resp_no (x := ⟨a, 0, some (k, some u)⟩) (m := Q9) (s := k) (t := u) rfl (by rcases hne with h | h; exact .inl (by rw [tQ9.2.2.2.2.2.1]; exact Ne.symm h); exact .inr (.inl (by rw [tQ9.2.2.2.2.2.2]; exact Ne.symm h)))
      have r4 := resp_no (x := ⟨b, 0, some (k, some v)⟩) (m := P) (s := k) (t := v) rfl (by rcases hne with h | h; exact .inl (by rw [tP.2.2.2.2.2.1]; exact h); exact .inr (.inl (by rw [tP.2.2.2.2.2.2]; exact h)))
      have r5 := resp_yes (x := ⟨a, 0, some (k, some u)⟩) (m := P) (s := k) (t := u) rfl tP.1 tP.2.2.2.2.2.1 tP.2.2.2.2.2.2 tP.2.1
      have r6 := resp_yes (x := ⟨b, 0, some (k, some v)⟩) (m := Q9) (s := k) (t := v) rfl tQ9.1 tQ9.2.2.2.2.2.1 tQ9.2.2.2.2.2.2 tQ9.2.1
      have hd1 : diffX P.2.st u P.1.co = 2199023255552 - u := by rw [tP.2.2.2.2.1, tP.2.2.1, diffX_in (by omega) (by omega) (by omega)]; omega
      have hd2 : diffX Q9.2.st v Q9.1.co = 4398046511104 - v := by unfold diffX wrap64; rw [tQ9.2.2.2.2.1, tQ9.2.2.1]; omega
      rw [hd1] at r5
      rw [hd2] at r6
      have w1' : wrap64 (2199023255552 - u) = 2199023255552 - u := by unfold wrap64; omega
      have w2' : wrap64 (4398046511104 - v) = 4398046511104 - v := by unfold wrap64; omega
      clear hd1 hd2
      go_wp2_with (guard_target =~ wpList _ _ _ (⟨some 78, _, _, _, _, _⟩ :: _) _ _; refine msT.load (op := ⟨some 78, .load _ _, _, _, _, _⟩) (by rfl) _ (by rfl) gq 0 (by rfl) (Q9) hR2.rangeK ?_)
      refine (HP gx ⟨a, 0, some (k, some u)⟩ Q9 w11 hX okQ9).mono ?_
      rintro e w12 ⟨rfl, h9, oq⟩
      replace hP := hP.only oq n_hP_hX
      replace hQ := hQ.only oq n_hQ_hX
      replace hY := hY.only oq (Ne.symm n_hX_hY)
      replace hA := hA.only oq (Ne.symm n_hX_hA)
      replace hB := hB.only oq (Ne.symm n_hX_hB)
      replace hR1 := hR1.only oq (Ne.symm n_hX_hR1)
      replace hR2 := hR2.only oq (Ne.symm n_hX_hR2)
      replace hb := Only.below hb oq l_hX hb.size
      replace hX := h9
      clear h9 oq
      rw [r3.1]
      rw [r3.2.2] at hX
      go_wp2_with (guard_target =~ wpList _ _ _ (⟨some 84, _, _, _, _, _⟩ :: _) _ _; refine msT.load (op := ⟨some 84, .load _ _, _, _, _, _⟩) (by rfl) _ (by rfl) gp 0 (by rfl) (P) hR1.rangeK ?_)
      refine (HP gy ⟨b, 0, some (k, some v)⟩ P w12 hY okP).mono ?_
      rintro e w13 ⟨rfl, h9, oq⟩
      replace hP := hP.only oq n_hP_hY
      replace hQ := hQ.only oq n_hQ_hY
      replace hX := hX.only oq n_hX_hY
      replace hA := hA.only oq (Ne.symm n_hY_hA)
      replace hB := hB.only oq (Ne.symm n_hY_hB)
      replace hR1 := hR1.only oq (Ne.symm n_hY_hR1)
      replace hR2 := hR2.only oq (Ne.symm n_hY_hR2)
      replace hb := Only.below hb oq l_hY hb.size
      replace hY := h9
      clear h9 oq
      rw [r4.1]
      rw [r4.2.2] at hY
      go_wp2_with (guard_target =~ wpList _ _ _ (⟨some 90, _, _, _, _, _⟩ :: _) _ _; refine msT.load (op := ⟨some 90, .load _ _, _, _, _, _⟩) (by rfl) _ (by rfl) gp 0 (by rfl) (P) hR1.rangeK ?_)
      refine (HP gx ⟨a, 0, some (k, some u)⟩ P w13 hX okP).mono ?_
      rintro e w14 ⟨rfl, h9, oq⟩
      replace hP := hP.only oq n_hP_hX
      replace hQ := hQ.only oq n_hQ_hX
      replace hY := hY.only oq (Ne.symm n_hX_hY)
      replace hA := hA.only oq (Ne.symm n_hX_hA)
      replace hB := hB.only oq (Ne.symm n_hX_hB)
      replace hR1 := hR1.only oq (Ne.symm n_hX_hR1)
      replace hR2 := hR2.only oq (Ne.symm n_hX_hR2)
      replace hb := Only.below hb oq l_hX hb.size
      replace hX := h9
      clear h9 oq
      rw [r5.1, r5.2.1]
      go_wp2_with (guard_target =~ wpList _ _ _ (⟨some 96, _, _, _, _, _⟩ :: _) _ _; refine msT.load (op := ⟨some 96, .load _ _, _, _, _, _⟩) (by rfl) _ (by rfl) gq 0 (by rfl) (Q9) hR2.rangeK ?_)
      refine (HP gy ⟨b, 0, some (k, some v)⟩ Q9 w14 hY okQ9).mono ?_
      rintro e w15 ⟨rfl, h9, oq⟩
      replace hP := hP.only oq n_hP_hY
      replace hQ := hQ.only oq n_hQ_hY
      replace hX := hX.only oq n_hX_hY
      replace hA := hA.only oq (Ne.symm n_hY_hA)
      replace hB := hB.only oq (Ne.symm n_hY_hB)
      replace hR1 := hR1.only oq (Ne.symm n_hY_hR1)
      replace hR2 := hR2.only oq (Ne.symm n_hY_hR2)
      replace hb := Only.below hb oq l_hY hb.size
      replace hY := h9
      clear h9 oq
      rw [r6.1, r6.2.1]
      clear r3 r4 r5 r6
      go_wp2_with fail
      refine (awake17_from HNew HR HS HP _).mono ?_
      rintro e wz ⟨rfl, bz⟩
      go_wp2_with fail
      go_ret
      exact ⟨rfl, bnext hb bz⟩
  · have f1 : (a.1 == b.1) = false := beq_false_of_ne h1
    have hne : a.1 ≠ b.1 ∨ a.2 ≠ b.2 := .inl h1
    go_upto_region 3 with fail
    clear h1 f1
    clear p0 p1 q0 q1
    refine wp_region_held_drew (S := fun w' => Below W.drew.heap.size W.drew w') (by kernel_rfl) (Below.refl _ _) ?_
    intro hHeld
    have bq := Below.drew (Below.refl W.heap.size W)
    generalize W.drew = WD at *
    replace hP := hP.below bq
    replace hQ := hQ.below bq
    replace hb := bnext hb bq
    clear bq
    refine rtake 0 rfl (by rfl) (by kernel_rfl) (by kernel_rfl) (by kernel_rfl) (fun _ _ _ h => h) hHeld (fun wx hwx => prT.exec _ rfl G 0 rfl a (hP.below hwx).rangeK) ?_
    try simp only [Act.put, List.setIfInBounds_toArray, List.set_cons_zero, List.set_cons_succ]
    refine rtake 2 rfl (by rfl) (by kernel_rfl) (by kernel_rfl) (by kernel_rfl) (fun _ _ _ h => h) hHeld (fun wx hwx => prT.exec _ rfl (G + 1) 0 rfl b (hQ.below hwx).rangeK) ?_
    try simp only [Act.put, List.setIfInBounds_toArray, List.set_cons_zero, List.set_cons_succ]
    refine rcall 1 rfl (by kernel_rfl) (by rfl) (fun K' hK => ?_)
    go_simp
    refine (HNew a 0 WD ha).mono ?_
    rintro e w1 ⟨gx, rfl, hg, h9, bq⟩
    refine hK.out _ _ bq ?_
    clear hK K'
    refine wpAnyH_mono (S' := fun w' => Below w1.heap.size w1 w') (fun w' h => bnext bq h) _ _ _ _ ?_
    clear hHeld
    have hHeld := Below.refl w1.heap.size w1
    try simp only [Act.put, List.setIfInBounds_toArray, List.set_cons_zero, List.set_cons_succ]
    have n_hP_hX : G ≠ gx := by have h1 := hP.lt; have h2 := hg; omega
    have n_hQ_hX : G + 1 ≠ gx := by have h1 := hQ.lt; have h2 := hg; omega
    have l_hX : w.heap.size ≤ gx := Nat.le_trans hb.size (hg)
    replace hP := hP.below bq
    replace hQ := hQ.below bq
    replace hb := bnext hb bq
    clear bq
    have hX := h9
    clear h9 hg
    refine rcall 3 rfl (by kernel_rfl) (by rfl) (fun K' hK => ?_)
    go_simp
    refine (HNew b 0 w1 hb0).mono ?_
    rintro e w2 ⟨gy, rfl, hg, h9, bq⟩
    refine hK.out _ _ bq ?_
    clear hK K'
    refine wpAnyH_mono (S' := fun w' => Below w2.heap.size w2 w') (fun w' h => bnext bq h) _ _ _ _ ?_
    clear hHeld
    have hHeld := Below.refl w2.heap.size w2
    try simp only [Act.put, List.setIfInBounds_toArray, List.set_cons_zero, List.set_cons_succ]
    have n_hP_hY : G ≠ gy := by have h1 := hP.lt; have h2 := hg; omega
    have n_hQ_hY : G + 1 ≠ gy := by have h1 := hQ.lt; have h2 := hg; omega
    have n_hX_hY : gx ≠ gy := by have h1 := hX.lt; have h2 := hg; omega
    have l_hY : w.heap.size ≤ gy := Nat.le_trans hb.size (hg)
    replace hP := hP.below bq
    replace hQ := hQ.below bq
    replace hX := hX.below bq
    replace hb := bnext hb bq
    clear bq
    have hY := h9
    clear h9 hg
    refine rtake 4 rfl (by rfl) (by kernel_rfl) (by kernel_rfl) (by kernel_rfl) (fun _ _ _ h => h) hHeld (fun wx hwx => by go_simp; try with_reducible rfl) ?_
    try simp only [Act.put, List.setIfInBounds_toArray, List.set_cons_zero, List.set_cons_succ]
    refine rtake 5 rfl (by rfl) (by kernel_rfl) (by kernel_rfl) (by kernel_rfl) (fun _ _ _ h => h) hHeld (fun wx hwx => by go_simp; try with_reducible rfl) ?_
    try simp only [Act.put, List.setIfInBounds_toArray, List.set_cons_zero, List.set_cons_succ]
    refine wpAnyH_done (by kernel_rfl) ?_ _
    clear hHeld
    go_wp2_with fail
    refine (place_in n 65536 _ (by decide) (by decide)).mono ?_
    rintro e w0 ⟨k, rfl, hk0, hk1, -, rfl⟩
    have ek : k % 65536 = k := by omega
    obtain ⟨A, hA0⟩ : ∃ A, reqM ⟨a, 0, none⟩ k = A := ⟨_, rfl⟩
    obtain ⟨B, hB0⟩ : ∃ B, reqM ⟨b, 0, none⟩ k = B := ⟨_, rfl⟩
    have tA : A.1.ty = 1 ∧ A.1.sq = k ∧ A.1.co = 0 ∧ A.1.sc = a.1 ∧ A.1.sp = a.2 := by rw [← hA0]; exact ⟨rfl, ek, rfl, rfl, rfl⟩
    have tB : B.1.ty = 1 ∧ B.1.sq = k ∧ B.1.co = 0 ∧ B.1.sc = b.1 ∧ B.1.sp = b.2 := by rw [← hB0]; exact ⟨rfl, ek, rfl, rfl, rfl⟩
    have okA : HdOk A.1 := hd_okx (by rw [tA.2.2.2.1]; exact ha.1) (by rw [tA.2.2.2.1]; exact ha.2) (by rw [tA.2.2.1]; decide) (by rw [tA.2.2.1]; decide)
    have okB : HdOk B.1 := hd_okx (by rw [tB.2.2.2.1]; exact hb0.1) (by rw [tB.2.2.2.1]; exact hb0.2) (by rw [tB.2.2.1]; decide) (by rw [tB.2.2.1]; decide)
    have r0 : reqS ⟨a, 0, none⟩ k = ⟨a, 0, some (k, none)⟩ := by unfold reqS; rw [ek]
    have r1 : reqS ⟨b, 0, none⟩ k = ⟨b, 0, some (k, none)⟩ := by unfold reqS; rw [ek]
    replace hA0 := hid hA0
    replace hB0 := hid hB0
    clear ek
    go_wp2_with fail
    refine (HR gx ⟨a, 0, none⟩ k 0 w2 hX (by omega)).mono ?_
    rintro e w3 ⟨rfl, h9, oq⟩
    replace hP := hP.only oq n_hP_hX
    replace hQ := hQ.only oq n_hQ_hX
    replace hY := hY.only oq (Ne.symm n_hX_hY)
    replace hb := Only.below hb oq l_hX hb.size
    replace hX := h9
    clear h9 oq
    rw [hA0.out]
    rw [r0] at hX
    go_wp2_with fail
    refine (HR gy ⟨b, 0, none⟩ k 0 w3 hY (by omega)).mono ?_
    rintro e w4 ⟨rfl, h9, oq⟩
    replace hP := hP.only oq n_hP_hY
    replace hQ := hQ.only oq n_hQ_hY
    replace hX := hX.only oq n_hX_hY
    replace hb := Only.below hb oq l_hY hb.size
    replace hY := h9
    clear h9 oq
    rw [hB0.out]
    rw [r1] at hY
    have z0 := bnew w4 (Obj.cells (msK.enc zeroM).toArray 34)
    have z1 := bnew (w4.alloc (Obj.cells (msK.enc zeroM).toArray 34)) (Obj.cells (msK.enc zeroM).toArray 34)
    have sz : (w4.alloc (Obj.cells (msK.enc zeroM).toArray 34)).heap.size = w4.heap.size + 1 := by simp
    have N1 := (Box.new w4 (msK.enc zeroM) 34).below z1
    have N2 := Box.new (w4.alloc (Obj.cells (msK.enc zeroM).toArray 34)) (msK.enc zeroM) 34
    rw [sz] at N2
    have hz := bnext z0 z1
    have ne12 : w4.heap.size + 1 ≠ w4.heap.size := by omega
    have N2r := N2.rowK_other ne12 (msK.enc A).toArray
    go_upto_region 8 with (first | (guard_target =~ wpList _ _ _ (⟨none, _, _, _, _, _⟩ :: _) _ _; refine msT.store (op := ⟨none, .store _ _ _, _, _, _, _⟩) (by rfl) _ _ (by rfl) (w4.heap.size) (A) (zeroM) _ (by rfl) (by rfl) N1 ?_) | (guard_target =~ wpList _ _ _ (⟨none, _, _, _, _, _⟩ :: _) _ _; refine msT.store (op := ⟨none, .store _ _ _, _, _, _, _⟩) (by rfl) _ _ (by rfl) (w4.heap.size + 1) (B) (zeroM) _ (by rfl) (by rfl) N2r ?_))
    have n_hP_hA : G ≠ w4.heap.size := by have h1 := hP.lt; have h2 := Nat.le_refl w4.heap.size; omega
    have n_hQ_hA : G + 1 ≠ w4.heap.size := by have h1 := hQ.lt; have h2 := Nat.le_refl w4.heap.size; omega
    have n_hX_hA : gx ≠ w4.heap.size := by have h1 := hX.lt; have h2 := Nat.le_refl w4.heap.size; omega
    have n_hY_hA : gy ≠ w4.heap.size := by have h1 := hY.lt; have h2 := Nat.le_refl w4.heap.size; omega
    have l_hA : w.heap.size ≤ w4.heap.size := Nat.le_trans hb.size (Nat.le_refl w4.heap.size)
    have n_hP_hB : G ≠ w4.heap.size + 1 := by have h1 := hP.lt; have h2 := Nat.le_succ w4.heap.size; omega
    have n_hQ_hB : G + 1 ≠ w4.heap.size + 1 := by have h1 := hQ.lt; have h2 := Nat.le_succ w4.heap.size; omega
    have n_hX_hB : gx ≠ w4.heap.size + 1 := by have h1 := hX.lt; have h2 := Nat.le_succ w4.heap.size; omega
    have n_hY_hB : gy ≠ w4.heap.size + 1 := by have h1 := hY.lt; have h2 := Nat.le_succ w4.heap.size; omega
    have l_hB : w.heap.size ≤ w4.heap.size + 1 := Nat.le_trans hb.size (Nat.le_succ w4.heap.size)
    have hA := (N1.rowK (msK.enc A)).rowK_other (Ne.symm ne12) (msK.enc B).toArray
    have hB := N2r.rowK (msK.enc B)
    have bq := below_setRow (below_setRow hz (Nat.le_refl _) (msK.enc A).toArray) (Nat.le_succ _) (msK.enc B).toArray
    change Code.wp Try.prog _ _ _ ((((w4.alloc (Obj.cells (msK.enc zeroM).toArray 34)).alloc (Obj.cells (msK.enc zeroM).toArray 34)).setRow w4.heap.size (msK.enc A).toArray).setRow (w4.heap.size + 1) (msK.enc B).toArray)
    generalize ((((w4.alloc (Obj.cells (msK.enc zeroM).toArray 34)).alloc (Obj.cells (msK.enc zeroM).toArray 34)).setRow w4.heap.size (msK.enc A).toArray).setRow (w4.heap.size + 1) (msK.enc B).toArray) = w5 at *
    clear z0 z1 sz N1 N2 N2r hz
    replace hP := hP.below bq
    replace hQ := hQ.below bq
    replace hX := hX.below bq
    replace hY := hY.below bq
    replace hb := bnext hb bq
    clear bq
    generalize hgB : w4.heap.size + 1 = gb at *
    have n_hA_hB : w4.heap.size ≠ gb := by omega
    generalize w4.heap.size = ga at *
    clear hgB ne12
    go_wp2_with fail
    refine (place_in s 1099511627776 _ (by decide) (by decide)).mono ?_
    rintro e w0 ⟨u, rfl, hu0, hu1, -, rfl⟩
    go_wp2_with fail
    refine (place_in t 1099511627776 _ (by decide) (by decide)).mono ?_
    rintro e w0 ⟨v, rfl, hv0, hv1, -, rfl⟩
    have b1 := sent_yes (x := ⟨a, 0, some (k, none)⟩) (n := k) (at' := u) rfl
    have b2 := sent_yes (x := ⟨b, 0, some (k, none)⟩) (n := k) (at' := v) rfl
    go_wp2_with fail
    refine (HS gx ⟨a, 0, some (k, none)⟩ k u w5 hX).mono ?_
    rintro e w6 ⟨rfl, h9, oq⟩
    replace hP := hP.only oq n_hP_hX
    replace hQ := hQ.only oq n_hQ_hX
    replace hY := hY.only oq (Ne.symm n_hX_hY)
    replace hA := hA.only oq (Ne.symm n_hX_hA)
    replace hB := hB.only oq (Ne.symm n_hX_hB)
    replace hb := Only.below hb oq l_hX hb.size
    replace hX := h9
    clear h9 oq
    rw [b1.2] at hX
    go_wp2_with fail
    refine (HS gy ⟨b, 0, some (k, none)⟩ k v w6 hY).mono ?_
    rintro e w7 ⟨rfl, h9, oq⟩
    replace hP := hP.only oq n_hP_hY
    replace hQ := hQ.only oq n_hQ_hY
    replace hX := hX.only oq n_hX_hY
    replace hA := hA.only oq (Ne.symm n_hY_hA)
    replace hB := hB.only oq (Ne.symm n_hY_hB)
    replace hb := Only.below hb oq l_hY hb.size
    replace hY := h9
    clear h9 oq
    rw [b2.2] at hY
    clear b1 b2
    obtain ⟨P, hP0⟩ : ∃ P, answM A (8, 1) 2199023255552 0 = P := ⟨_, rfl⟩
    have aP := answ_yes (me := (8, 1)) (log := 0) (at' := 2199023255552) tA.1 (by decide) (by decide)
    rw [hP0] at aP
    have tP : P.1.ty = 9 ∧ P.1.sq = k ∧ P.1.co = 0 ∧ P.1.sc = 8 ∧ P.2.st = 2199023255552 ∧ P.2.tc = a.1 ∧ P.2.tp = a.2 := by rw [aP.2]; exact ⟨rfl, tA.2.1, tA.2.2.1, rfl, rfl, tA.2.2.2.1, tA.2.2.2.2⟩
    have okP : HdOk P.1 := hd_okx (by rw [tP.2.2.2.1]; decide) (by rw [tP.2.2.2.1]; decide) (by rw [tP.2.2.1]; decide) (by rw [tP.2.2.1]; decide)
    replace aP := aP.1
    replace hP0 := hid hP0
    go_wp2_with (first | (guard_target =~ wpList _ _ _ (⟨some 65, _, _, _, _, _⟩ :: _) _ _; refine msT.load (op := ⟨some 65, .load _ _, _, _, _, _⟩) (by rfl) _ (by rfl) ga 0 (by rfl) (A) hA.rangeK ?_) | (guard_target =~ wpList _ _ _ (⟨some 66, _, _, _, _, _⟩ :: _) _ _; refine wpList_build_any (op := ⟨some 66, .build _ _, _, _, _, _⟩) (by rfl) _ _ (by rfl) _ (by rfl) (prK.enc (8, 1)).toArray (by kernel_rfl) ?_))
    refine (HQ A (8, 1) 2199023255552 0 w7 okA).mono ?_
    rintro e w8 ⟨rfl, bq⟩
    replace hP := hP.below bq
    replace hQ := hQ.below bq
    replace hX := hX.below bq
    replace hY := hY.below bq
    replace hA := hA.below bq
    replace hB := hB.below bq
    replace hb := bnext hb bq
    clear bq
    rw [hP0.out, aP]
    have hn1 := bnew w8 (Obj.cells (msK.enc (zeroM)).toArray 34)
    have hM0 := Box.new w8 (msK.enc (zeroM)) 34
    go_upto_region 12 with (guard_target =~ wpList _ _ _ (⟨none, _, _, _, _, _⟩ :: _) _ _; refine msT.store (op := ⟨none, .store _ _ _, _, _, _, _⟩) (by rfl) _ _ (by rfl) (w8.heap.size) (P) (zeroM) _ (by rfl) (by rfl) hM0 ?_)
    have n_hP_hR1 : G ≠ w8.heap.size := by have h1 := hP.lt; have h2 := Nat.le_refl w8.heap.size; omega
    have n_hQ_hR1 : G + 1 ≠ w8.heap.size := by have h1 := hQ.lt; have h2 := Nat.le_refl w8.heap.size; omega
    have n_hX_hR1 : gx ≠ w8.heap.size := by have h1 := hX.lt; have h2 := Nat.le_refl w8.heap.size; omega
    have n_hY_hR1 : gy ≠ w8.heap.size := by have h1 := hY.lt; have h2 := Nat.le_refl w8.heap.size; omega
    have n_hA_hR1 : ga ≠ w8.heap.size := by have h1 := hA.lt; have h2 := Nat.le_refl w8.heap.size; omega
    have n_hB_hR1 : gb ≠ w8.heap.size := by have h1 := hB.lt; have h2 := Nat.le_refl w8.heap.size; omega
    have l_hR1 : w.heap.size ≤ w8.heap.size := Nat.le_trans hb.size (Nat.le_refl w8.heap.size)
    have hR1 := hM0.rowK (msK.enc (P))
    replace hP := (hP.below hn1).rowK_other (k := w8.heap.size) n_hP_hR1 (msK.enc (P)).toArray
    replace hQ := (hQ.below hn1).rowK_other (k := w8.heap.size) n_hQ_hR1 (msK.enc (P)).toArray
    replace hX := (hX.below hn1).row (k := w8.heap.size) n_hX_hR1 (msK.enc (P)).toArray
    replace hY := (hY.below hn1).row (k := w8.heap.size) n_hY_hR1 (msK.enc (P)).toArray
    replace hA := (hA.below hn1).rowK_other (k := w8.heap.size) n_hA_hR1 (msK.enc (P)).toArray
    replace hB := (hB.below hn1).rowK_other (k := w8.heap.size) n_hB_hR1 (msK.enc (P)).toArray
    have hW := below_setRow hn1 (Nat.le_refl _) (msK.enc (P)).toArray
    replace hb := bnext hb hW
    change Code.wp Try.prog _ _ _ ((w8.alloc (Obj.cells (msK.enc (zeroM)).toArray 34)).setRow w8.heap.size (msK.enc (P)).toArray)
    generalize (w8.alloc (Obj.cells (msK.enc (zeroM)).toArray 34)).setRow w8.heap.size (msK.enc (P)).toArray = w9 at *
    clear hn1 hM0 hW
    generalize w8.heap.size = gp at *
    obtain ⟨Q9, hQ90⟩ : ∃ P, answM B (8, 1) 4398046511104 0 = P := ⟨_, rfl⟩
    have aQ9 := answ_yes (me := (8, 1)) (log := 0) (at' := 4398046511104) tB.1 (by decide) (by decide)
    rw [hQ90] at aQ9
    have tQ9 : Q9.1.ty = 9 ∧ Q9.1.sq = k ∧ Q9.1.co = 0 ∧ Q9.1.sc = 8 ∧ Q9.2.st = 4398046511104 ∧ Q9.2.tc = b.1 ∧ Q9.2.tp = b.2 := by rw [aQ9.2]; exact ⟨rfl, tB.2.1, tB.2.2.1, rfl, rfl, tB.2.2.2.1, tB.2.2.2.2⟩
    have okQ9 : HdOk Q9.1 := hd_okx (by rw [tQ9.2.2.2.1]; decide) (by rw [tQ9.2.2.2.1]; decide) (by rw [tQ9.2.2.1]; decide) (by rw [tQ9.2.2.1]; decide)
    replace aQ9 := aQ9.1
    replace hQ90 := hid hQ90
    go_wp2_with (first | (guard_target =~ wpList _ _ _ (⟨some 71, _, _, _, _, _⟩ :: _) _ _; refine msT.load (op := ⟨some 71, .load _ _, _, _, _, _⟩) (by rfl) _ (by rfl) gb 0 (by rfl) (B) hB.rangeK ?_) | (guard_target =~ wpList _ _ _ (⟨some 72, _, _, _, _, _⟩ :: _) _ _; refine wpList_build_any (op := ⟨some 72, .build _ _, _, _, _, _⟩) (by rfl) _ _ (by rfl) _ (by rfl) (prK.enc (8, 1)).toArray (by kernel_rfl) ?_))
    refine (HQ B (8, 1) 4398046511104 0 w9 okB).mono ?_
    rintro e w10 ⟨rfl, bq⟩
    replace hP := hP.below bq
    replace hQ := hQ.below bq
    replace hX := hX.below bq
    replace hY := hY.below bq
    replace hA := hA.below bq
    replace hB := hB.below bq
    replace hR1 := hR1.below bq
    replace hb := bnext hb bq
    clear bq
    rw [hQ90.out, aQ9]
    have hn1 := bnew w10 (Obj.cells (msK.enc (zeroM)).toArray 34)
    have hM0 := Box.new w10 (msK.enc (zeroM)) 34
    go_upto_region 13 with (guard_target =~ wpList _ _ _ (⟨none, _, _, _, _, _⟩ :: _) _ _; refine msT.store (op := ⟨none, .store _ _ _, _, _, _, _⟩) (by rfl) _ _ (by rfl) (w10.heap.size) (Q9) (zeroM) _ (by rfl) (by rfl) hM0 ?_)
    have n_hP_hR2 : G ≠ w10.heap.size := by have h1 := hP.lt; have h2 := Nat.le_refl w10.heap.size; omega
    have n_hQ_hR2 : G + 1 ≠ w10.heap.size := by have h1 := hQ.lt; have h2 := Nat.le_refl w10.heap.size; omega
    have n_hX_hR2 : gx ≠ w10.heap.size := by have h1 := hX.lt; have h2 := Nat.le_refl w10.heap.size; omega
    have n_hY_hR2 : gy ≠ w10.heap.size := by have h1 := hY.lt; have h2 := Nat.le_refl w10.heap.size; omega
    have n_hA_hR2 : ga ≠ w10.heap.size := by have h1 := hA.lt; have h2 := Nat.le_refl w10.heap.size; omega
    have n_hB_hR2 : gb ≠ w10.heap.size := by have h1 := hB.lt; have h2 := Nat.le_refl w10.heap.size; omega
    have n_hR1_hR2 : gp ≠ w10.heap.size := by have h1 := hR1.lt; have h2 := Nat.le_refl w10.heap.size; omega
    have l_hR2 : w.heap.size ≤ w10.heap.size := Nat.le_trans hb.size (Nat.le_refl w10.heap.size)
    have hR2 := hM0.rowK (msK.enc (Q9))
    replace hP := (hP.below hn1).rowK_other (k := w10.heap.size) n_hP_hR2 (msK.enc (Q9)).toArray
    replace hQ := (hQ.below hn1).rowK_other (k := w10.heap.size) n_hQ_hR2 (msK.enc (Q9)).toArray
    replace hX := (hX.below hn1).row (k := w10.heap.size) n_hX_hR2 (msK.enc (Q9)).toArray
    replace hY := (hY.below hn1).row (k := w10.heap.size) n_hY_hR2 (msK.enc (Q9)).toArray
    replace hA := (hA.below hn1).rowK_other (k := w10.heap.size) n_hA_hR2 (msK.enc (Q9)).toArray
    replace hB := (hB.below hn1).rowK_other (k := w10.heap.size) n_hB_hR2 (msK.enc (Q9)).toArray
    replace hR1 := (hR1.below hn1).rowK_other (k := w10.heap.size) n_hR1_hR2 (msK.enc (Q9)).toArray
    have hW := below_setRow hn1 (Nat.le_refl _) (msK.enc (Q9)).toArray
    replace hb := bnext hb hW
    change Code.wp Try.prog _ _ _ ((w10.alloc (Obj.cells (msK.enc (zeroM)).toArray 34)).setRow w10.heap.size (msK.enc (Q9)).toArray)
    generalize (w10.alloc (Obj.cells (msK.enc (zeroM)).toArray 34)).setRow w10.heap.size (msK.enc (Q9)).toArray = w11 at *
    clear hn1 hM0 hW
    generalize w10.heap.size = gq at *
    have r3 := resp_no (x := ⟨a, 0, some (k, some u)⟩) (m := Q9) (s := k) (t := u) rfl (by rcases hne with h | h; exact .inl (by rw [tQ9.2.2.2.2.2.1]; exact Ne.symm h); exact .inr (.inl (by rw [tQ9.2.2.2.2.2.2]; exact Ne.symm h)))
    have r4 := resp_no (x := ⟨b, 0, some (k, some v)⟩) (m := P) (s := k) (t := v) rfl (by rcases hne with h | h; exact .inl (by rw [tP.2.2.2.2.2.1]; exact h); exact .inr (.inl (by rw [tP.2.2.2.2.2.2]; exact h)))
    have r5 := resp_yes (x := ⟨a, 0, some (k, some u)⟩) (m := P) (s := k) (t := u) rfl tP.1 tP.2.2.2.2.2.1 tP.2.2.2.2.2.2 tP.2.1
    have r6 := resp_yes (x := ⟨b, 0, some (k, some v)⟩) (m := Q9) (s := k) (t := v) rfl tQ9.1 tQ9.2.2.2.2.2.1 tQ9.2.2.2.2.2.2 tQ9.2.1
    have hd1 : diffX P.2.st u P.1.co = 2199023255552 - u := by rw [tP.2.2.2.2.1, tP.2.2.1, diffX_in (by omega) (by omega) (by omega)]; omega
    have hd2 : diffX Q9.2.st v Q9.1.co = 4398046511104 - v := by unfold diffX wrap64; rw [tQ9.2.2.2.2.1, tQ9.2.2.1]; omega
    rw [hd1] at r5
    rw [hd2] at r6
    have w1' : wrap64 (2199023255552 - u) = 2199023255552 - u := by unfold wrap64; omega
    have w2' : wrap64 (4398046511104 - v) = 4398046511104 - v := by unfold wrap64; omega
    clear hd1 hd2
    go_wp2_with (guard_target =~ wpList _ _ _ (⟨some 78, _, _, _, _, _⟩ :: _) _ _; refine msT.load (op := ⟨some 78, .load _ _, _, _, _, _⟩) (by rfl) _ (by rfl) gq 0 (by rfl) (Q9) hR2.rangeK ?_)
    refine (HP gx ⟨a, 0, some (k, some u)⟩ Q9 w11 hX okQ9).mono ?_
    rintro e w12 ⟨rfl, h9, oq⟩
    replace hP := hP.only oq n_hP_hX
    replace hQ := hQ.only oq n_hQ_hX
    replace hY := hY.only oq (Ne.symm n_hX_hY)
    replace hA := hA.only oq (Ne.symm n_hX_hA)
    replace hB := hB.only oq (Ne.symm n_hX_hB)
    replace hR1 := hR1.only oq (Ne.symm n_hX_hR1)
    replace hR2 := hR2.only oq (Ne.symm n_hX_hR2)
    replace hb := Only.below hb oq l_hX hb.size
    replace hX := h9
    clear h9 oq
    rw [r3.1]
    rw [r3.2.2] at hX
    go_wp2_with (guard_target =~ wpList _ _ _ (⟨some 84, _, _, _, _, _⟩ :: _) _ _; refine msT.load (op := ⟨some 84, .load _ _, _, _, _, _⟩) (by rfl) _ (by rfl) gp 0 (by rfl) (P) hR1.rangeK ?_)
    refine (HP gy ⟨b, 0, some (k, some v)⟩ P w12 hY okP).mono ?_
    rintro e w13 ⟨rfl, h9, oq⟩
    replace hP := hP.only oq n_hP_hY
    replace hQ := hQ.only oq n_hQ_hY
    replace hX := hX.only oq n_hX_hY
    replace hA := hA.only oq (Ne.symm n_hY_hA)
    replace hB := hB.only oq (Ne.symm n_hY_hB)
    replace hR1 := hR1.only oq (Ne.symm n_hY_hR1)
    replace hR2 := hR2.only oq (Ne.symm n_hY_hR2)
    replace hb := Only.below hb oq l_hY hb.size
    replace hY := h9
    clear h9 oq
    rw [r4.1]
    rw [r4.2.2] at hY
    go_wp2_with (guard_target =~ wpList _ _ _ (⟨some 90, _, _, _, _, _⟩ :: _) _ _; refine msT.load (op := ⟨some 90, .load _ _, _, _, _, _⟩) (by rfl) _ (by rfl) gp 0 (by rfl) (P) hR1.rangeK ?_)
    refine (HP gx ⟨a, 0, some (k, some u)⟩ P w13 hX okP).mono ?_
    rintro e w14 ⟨rfl, h9, oq⟩
    replace hP := hP.only oq n_hP_hX
    replace hQ := hQ.only oq n_hQ_hX
    replace hY := hY.only oq (Ne.symm n_hX_hY)
    replace hA := hA.only oq (Ne.symm n_hX_hA)
    replace hB := hB.only oq (Ne.symm n_hX_hB)
    replace hR1 := hR1.only oq (Ne.symm n_hX_hR1)
    replace hR2 := hR2.only oq (Ne.symm n_hX_hR2)
    replace hb := Only.below hb oq l_hX hb.size
    replace hX := h9
    clear h9 oq
    rw [r5.1, r5.2.1]
    go_wp2_with (guard_target =~ wpList _ _ _ (⟨some 96, _, _, _, _, _⟩ :: _) _ _; refine msT.load (op := ⟨some 96, .load _ _, _, _, _, _⟩) (by rfl) _ (by rfl) gq 0 (by rfl) (Q9) hR2.rangeK ?_)
    refine (HP gy ⟨b, 0, some (k, some v)⟩ Q9 w14 hY okQ9).mono ?_
    rintro e w15 ⟨rfl, h9, oq⟩
    replace hP := hP.only oq n_hP_hY
    replace hQ := hQ.only oq n_hQ_hY
    replace hX := hX.only oq n_hX_hY
    replace hA := hA.only oq (Ne.symm n_hY_hA)
    replace hB := hB.only oq (Ne.symm n_hY_hB)
    replace hR1 := hR1.only oq (Ne.symm n_hY_hR1)
    replace hR2 := hR2.only oq (Ne.symm n_hY_hR2)
    replace hb := Only.below hb oq l_hY hb.size
    replace hY := h9
    clear h9 oq
    rw [r6.1, r6.2.1]
    clear r3 r4 r5 r6
    go_wp2_with fail
    refine (awake17_from HNew HR HS HP _).mono ?_
    rintro e wz ⟨rfl, bz⟩
    go_wp2_with fail
    go_ret
    exact ⟨rfl, bnext hb bz⟩

end Go.Proofs.Ytnlmncpiccehjaa
