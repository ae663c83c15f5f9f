/- carillonlaw18's awake, PeerRound, PeerOnce, from contracts (gen_peelaws.py). -/
import Derived.Test.YtelonfmmcpgodaaPee
import Derived.Test.YtelonfmmcpgodaaBuild
import Derived.Test.YtelonfmmcpgodaaPlace
import Derived.Test.YtelonfmmcpgodaaNum
namespace Go.Proofs.Ytelonfmmcpgodaa
open Go.RowKit Go.Proofs
set_option maxRecDepth 50000
set_option linter.unusedVariables false
set_option linter.unusedSimpArgs false

set_option maxRecDepth 100000 in
set_option maxHeartbeats 8000000 in
theorem awake18_from {R : List Value → Ps → Prop} (HNew : CNewP R) (HR : CReqP R) (HS : CSentP R) (HP : CResP R) (HF : CFolP R) (HA : CAnsP) (HU : CFupP) (w : World) :
    Calls Try.prog 13 #[] w fun e w' => e = .returned (.bool true) ∧ Below w.heap.size w w' := by
  go_enter Try.func13, Try.ntmps13
  go_upto_region 1 with fail
  have hb := Below.refl w.heap.size w
  have z0 := bnew w (Obj.cells (prK.enc ((0, 0))).toArray 24)
  have z1 := bnew (w.alloc (Obj.cells (prK.enc ((0, 0))).toArray 24)) (Obj.cells (prK.enc ((0, 0))).toArray 24)
  have sz : (w.alloc (Obj.cells (prK.enc ((0, 0))).toArray 24)).heap.size = w.heap.size + 1 := by simp
  have N1 := (Box.new w (prK.enc ((0, 0))) 24).below z1
  have N2 := Box.new (w.alloc (Obj.cells (prK.enc ((0, 0))).toArray 24)) (prK.enc ((0, 0))) 24
  rw [sz] at N2
  have hz := bnext z0 z1
  have ne12 : w.heap.size + 1 ≠ w.heap.size := by omega
  have N2r := N2.rowK_other ne12 (prK.enc ((1, 1))).toArray
  go_upto_region 2 with (first | (guard_target =~ wpList _ _ _ (⟨some 12, _, _, _, _, _⟩ :: _) _ _; refine wpList_build_any (op := ⟨some 12, .build _ _, _, _, _, _⟩) (by rfl) _ _ (by rfl) _ (by rfl) (prK.enc (1, 1)).toArray (by kernel_rfl) ?_) | (guard_target =~ wpList _ _ _ (⟨some 13, _, _, _, _, _⟩ :: _) _ _; refine wpList_build_any (op := ⟨some 13, .build _ _, _, _, _, _⟩) (by rfl) _ _ (by rfl) _ (by rfl) (prK.enc (2, 1)).toArray (by kernel_rfl) ?_) | (guard_target =~ wpList _ _ _ (⟨none, _, _, _, _, _⟩ :: _) _ _; refine prT18.store (op := ⟨none, .store _ _ _, _, _, _, _⟩) (by rfl) _ _ (by rfl) (w.heap.size) ((1, 1)) ((0, 0)) _ (by rfl) (by rfl) N1 ?_) | (guard_target =~ wpList _ _ _ (⟨none, _, _, _, _, _⟩ :: _) _ _; refine prT18.store (op := ⟨none, .store _ _ _, _, _, _, _⟩) (by rfl) _ _ (by rfl) (w.heap.size + 1) ((2, 1)) ((0, 0)) _ (by rfl) (by rfl) N2r ?_))
  have l_hP : w.heap.size ≤ w.heap.size := Nat.le_trans hb.size (Nat.le_refl w.heap.size)
  have l_hQ : w.heap.size ≤ w.heap.size + 1 := Nat.le_trans hb.size (Nat.le_succ w.heap.size)
  have hP := (N1.rowK (prK.enc ((1, 1)))).rowK_other (Ne.symm ne12) (prK.enc ((2, 1))).toArray
  have hQ := N2r.rowK (prK.enc ((2, 1)))
  have bq := below_setRow (below_setRow hz (Nat.le_refl _) (prK.enc ((1, 1))).toArray) (Nat.le_succ _) (prK.enc ((2, 1))).toArray
  change Code.wp Try.prog _ _ _ ((((w.alloc (Obj.cells (prK.enc ((0, 0))).toArray 24)).alloc (Obj.cells (prK.enc ((0, 0))).toArray 24)).setRow w.heap.size (prK.enc ((1, 1))).toArray).setRow (w.heap.size + 1) (prK.enc ((2, 1))).toArray)
  generalize ((((w.alloc (Obj.cells (prK.enc ((0, 0))).toArray 24)).alloc (Obj.cells (prK.enc ((0, 0))).toArray 24)).setRow w.heap.size (prK.enc ((1, 1))).toArray).setRow (w.heap.size + 1) (prK.enc ((2, 1))).toArray) = w1 at *
  clear z0 z1 sz N1 N2 N2r hz
  replace hb := bnext hb bq
  clear bq
  generalize hgB : w.heap.size + 1 = gq at *
  have n_hP_hQ : w.heap.size ≠ gq := by omega
  clear hgB ne12
  go_wp2_with (guard_target =~ wpList _ _ _ (⟨some 14, _, _, _, _, _⟩ :: _) _ _; refine prT18.load (op := ⟨some 14, .load _ _, _, _, _, _⟩) (by rfl) _ (by rfl) w.heap.size 0 (by rfl) ((1, 1)) hP.rangeK ?_)
  refine (HNew (1, 1) 0 w1 (by decide)).mono ?_
  rintro e w2 ⟨gx, rfl, hg, h9, bq⟩
  have n_hP_hX : w.heap.size ≠ gx := by have h1 := hP.lt; have h2 := hg; omega
  have n_hQ_hX : gq ≠ gx := by have h1 := hQ.lt; have h2 := hg; omega
  have l_hX : w.heap.size ≤ gx := Nat.le_trans hb.size (hg)
  replace hP := hP.below bq
  replace hQ := hQ.below bq
  replace hb := bnext hb bq
  clear bq
  have hX := h9
  clear h9 hg
  obtain ⟨m1, hm1⟩ : ∃ m1 : Hd × Bd, m1 = ((⟨2, 0, 0, 0, 1, 1, 1, 127⟩, bd0) : Hd × Bd) := ⟨_, rfl⟩
  obtain ⟨m2, hm2⟩ : ∃ m2 : Hd × Bd, m2 = ((⟨3, 0, 512, 0, 2, 1, 1, 127⟩, { bd0 with st := 50, tc := 1, tp := 1 }) : Hd × Bd) := ⟨_, rfl⟩
  obtain ⟨m3, hm3⟩ : ∃ m3 : Hd × Bd, m3 = ((⟨10, 0, 0, 0, 2, 1, 1, 127⟩, { bd0 with st := 60, tc := 1, tp := 1 }) : Hd × Bd) := ⟨_, rfl⟩
  have ok1 : HdOk m1.1 := by rw [hm1]; exact hd_okp (by decide) (by decide) (by decide) (by decide)
  have ok2 : HdOk m2.1 := by rw [hm2]; exact hd_okp (by decide) (by decide) (by decide) (by decide)
  have ok3 : HdOk m3.1 := by rw [hm3]; exact hd_okp (by decide) (by decide) (by decide) (by decide)
  have b0 : preqM ⟨(1, 1), 0, none, none, none, false⟩ 1 = m1 := by rw [hm1]; rfl
  have b00 : preqS ⟨(1, 1), 0, none, none, none, false⟩ 1 = ⟨(1, 1), 0, some 1, none, none, false⟩ := rfl
  have b1 := psent_yes (x := ⟨(1, 1), 0, some 1, none, none, false⟩) (n := 1) (at' := 0) rfl rfl
  have b2 : pansM m1 (2, 1) 50 = m2 := by rw [hm1, hm2]; rfl
  have b3 := pres_yes (x := ⟨(1, 1), 0, some 1, some 0, none, false⟩) (m := m2) (at' := 110) (s := 1) (t := 0) rfl rfl rfl (by rw [hm2]) (by rw [hm2]) (by rw [hm2]) (by rw [hm2])
  have b4 : pfupM m1 (2, 1) 60 = m3 := by rw [hm1, hm3]; rfl
  have b5 := pfol_yes (x := ⟨(1, 1), 0, some 1, some 0, some (m2, 110), false⟩) (m := m3) (s := 1) (t := 0) (r := m2) (c := 110) rfl rfl rfl (by rw [hm3]) (by rw [hm3]) (by rw [hm3]) rfl (by rw [hm3]) (by rw [hm2, hm3]) (by rw [hm2, hm3])
  have b6 : wrap64 (wrap64 (wrap64 (110 - 0) - wrap64 (m3.2.st - m2.2.st)) - addI m2.1.co m3.1.co / 65536) / 2 = 50 := by rw [hm2, hm3]; show wrap64 (wrap64 (wrap64 (110 - 0) - wrap64 (60 - 50)) - addI 0 0 / 65536) / 2 = 50; unfold wrap64 addI; decide
  rw [b6] at b5
  replace hm1 := hid hm1
  replace hm2 := hid hm2
  replace hm3 := hid hm3
  clear b6
  go_wp2_with fail
  refine (HR gx ⟨(1, 1), 0, none, none, none, false⟩ 1 w2 hX (by decide)).mono ?_
  rintro e w3 ⟨rfl, h9, oq⟩
  replace hP := hP.only oq n_hP_hX
  replace hQ := hQ.only oq n_hQ_hX
  replace hb := Only.below hb oq l_hX hb.size
  replace hX := h9
  clear h9 oq
  rw [b0]
  rw [b00] at hX
  have hn1 := bnew w3 (Obj.cells (msK.enc (zeroM)).toArray 31)
  have hM0 := Box.new w3 (msK.enc (zeroM)) 31
  go_upto_region 6 with (guard_target =~ wpList _ _ _ (⟨none, _, _, _, _, _⟩ :: _) _ _; refine msT.store (op := ⟨none, .store _ _ _, _, _, _, _⟩) (by rfl) _ _ (by rfl) (w3.heap.size) (m1) (zeroM) _ (by rfl) (by rfl) hM0 ?_)
  have n_hP_hM : w.heap.size ≠ w3.heap.size := by have h1 := hP.lt; have h2 := Nat.le_refl w3.heap.size; omega
  have n_hQ_hM : gq ≠ w3.heap.size := by have h1 := hQ.lt; have h2 := Nat.le_refl w3.heap.size; omega
  have n_hX_hM : gx ≠ w3.heap.size := by have h1 := hX.lt; have h2 := Nat.le_refl w3.heap.size; omega
  have l_hM : w.heap.size ≤ w3.heap.size := Nat.le_trans hb.size (Nat.le_refl w3.heap.size)
  have hM := hM0.rowK (msK.enc (m1))
  replace hP := (hP.below hn1).rowK_other (k := w3.heap.size) n_hP_hM (msK.enc (m1)).toArray
  replace hQ := (hQ.below hn1).rowK_other (k := w3.heap.size) n_hQ_hM (msK.enc (m1)).toArray
  replace hX := (hX.below hn1).row (k := w3.heap.size) n_hX_hM (msK.enc (m1)).toArray
  have hW := below_setRow hn1 (Nat.le_refl _) (msK.enc (m1)).toArray
  replace hb := bnext hb hW
  change Code.wp Try.prog _ _ _ ((w3.alloc (Obj.cells (msK.enc (zeroM)).toArray 31)).setRow w3.heap.size (msK.enc (m1)).toArray)
  generalize (w3.alloc (Obj.cells (msK.enc (zeroM)).toArray 31)).setRow w3.heap.size (msK.enc (m1)).toArray = w4 at *
  clear hn1 hM0 hW
  generalize w3.heap.size = gm at *
  go_wp2_with fail
  refine (HS gx ⟨(1, 1), 0, some 1, none, none, false⟩ 1 0 w4 hX).mono ?_
  rintro e w5 ⟨rfl, h9, oq⟩
  replace hP := hP.only oq n_hP_hX
  replace hQ := hQ.only oq n_hQ_hX
  replace hM := hM.only oq (Ne.symm n_hX_hM)
  replace hb := Only.below hb oq l_hX hb.size
  replace hX := h9
  clear h9 oq
  rw [b1.2] at hX
  go_wp2_with (first | (guard_target =~ wpList _ _ _ (⟨some 23, _, _, _, _, _⟩ :: _) _ _; refine msT.load (op := ⟨some 23, .load _ _, _, _, _, _⟩) (by rfl) _ (by rfl) gm 0 (by rfl) (m1) hM.rangeK ?_) | (guard_target =~ wpList _ _ _ (⟨some 24, _, _, _, _, _⟩ :: _) _ _; refine prT18.load (op := ⟨some 24, .load _ _, _, _, _, _⟩) (by rfl) _ (by rfl) gq 0 (by rfl) ((2, 1)) hQ.rangeK ?_))
  refine (HA m1 (2, 1) 50 w5 ok1).mono ?_
  rintro e w6 ⟨rfl, bq⟩
  replace hP := hP.below bq
  replace hQ := hQ.below bq
  replace hX := hX.below bq
  replace hM := hM.below bq
  replace hb := bnext hb bq
  clear bq
  rw [b2]
  have hn1 := bnew w6 (Obj.cells (msK.enc (zeroM)).toArray 31)
  have hM0 := Box.new w6 (msK.enc (zeroM)) 31
  go_upto_region 8 with (guard_target =~ wpList _ _ _ (⟨none, _, _, _, _, _⟩ :: _) _ _; refine msT.store (op := ⟨none, .store _ _ _, _, _, _, _⟩) (by rfl) _ _ (by rfl) (w6.heap.size) (m2) (zeroM) _ (by rfl) (by rfl) hM0 ?_)
  have n_hP_hA : w.heap.size ≠ w6.heap.size := by have h1 := hP.lt; have h2 := Nat.le_refl w6.heap.size; omega
  have n_hQ_hA : gq ≠ w6.heap.size := by have h1 := hQ.lt; have h2 := Nat.le_refl w6.heap.size; omega
  have n_hX_hA : gx ≠ w6.heap.size := by have h1 := hX.lt; have h2 := Nat.le_refl w6.heap.size; omega
  have n_hM_hA : gm ≠ w6.heap.size := by have h1 := hM.lt; have h2 := Nat.le_refl w6.heap.size; omega
  have l_hA : w.heap.size ≤ w6.heap.size := Nat.le_trans hb.size (Nat.le_refl w6.heap.size)
  have hA := hM0.rowK (msK.enc (m2))
  replace hP := (hP.below hn1).rowK_other (k := w6.heap.size) n_hP_hA (msK.enc (m2)).toArray
  replace hQ := (hQ.below hn1).rowK_other (k := w6.heap.size) n_hQ_hA (msK.enc (m2)).toArray
  replace hX := (hX.below hn1).row (k := w6.heap.size) n_hX_hA (msK.enc (m2)).toArray
  replace hM := (hM.below hn1).rowK_other (k := w6.heap.size) n_hM_hA (msK.enc (m2)).toArray
  have hW := below_setRow hn1 (Nat.le_refl _) (msK.enc (m2)).toArray
  replace hb := bnext hb hW
  change Code.wp Try.prog _ _ _ ((w6.alloc (Obj.cells (msK.enc (zeroM)).toArray 31)).setRow w6.heap.size (msK.enc (m2)).toArray)
  generalize (w6.alloc (Obj.cells (msK.enc (zeroM)).toArray 31)).setRow w6.heap.size (msK.enc (m2)).toArray = w7 at *
  clear hn1 hM0 hW
  generalize w6.heap.size = ga at *
  go_wp2_with (guard_target =~ wpList _ _ _ (⟨some 29, _, _, _, _, _⟩ :: _) _ _; refine msT.load (op := ⟨some 29, .load _ _, _, _, _, _⟩) (by rfl) _ (by rfl) ga 0 (by rfl) (m2) hA.rangeK ?_)
  refine (HP gx ⟨(1, 1), 0, some 1, some 0, none, false⟩ m2 110 w7 hX ok2).mono ?_
  rintro e w8 ⟨rfl, h9, oq⟩
  replace hP := hP.only oq n_hP_hX
  replace hQ := hQ.only oq n_hQ_hX
  replace hM := hM.only oq (Ne.symm n_hX_hM)
  replace hA := hA.only oq (Ne.symm n_hX_hA)
  replace hb := Only.below hb oq l_hX hb.size
  replace hX := h9
  clear h9 oq
  rw [b3.1]
  rw [b3.2] at hX
  go_wp2_with (first | (guard_target =~ wpList _ _ _ (⟨some 32, _, _, _, _, _⟩ :: _) _ _; refine msT.load (op := ⟨some 32, .load _ _, _, _, _, _⟩) (by rfl) _ (by rfl) gm 0 (by rfl) (m1) hM.rangeK ?_) | (guard_target =~ wpList _ _ _ (⟨some 33, _, _, _, _, _⟩ :: _) _ _; refine prT18.load (op := ⟨some 33, .load _ _, _, _, _, _⟩) (by rfl) _ (by rfl) gq 0 (by rfl) ((2, 1)) hQ.rangeK ?_))
  refine (HU m1 (2, 1) 60 w8 ok1).mono ?_
  rintro e w9 ⟨rfl, bq⟩
  replace hP := hP.below bq
  replace hQ := hQ.below bq
  replace hX := hX.below bq
  replace hM := hM.below bq
  replace hA := hA.below bq
  replace hb := bnext hb bq
  clear bq
  rw [b4]
  have hn1 := bnew w9 (Obj.cells (msK.enc (zeroM)).toArray 31)
  have hM0 := Box.new w9 (msK.enc (zeroM)) 31
  go_upto_region 10 with (guard_target =~ wpList _ _ _ (⟨none, _, _, _, _, _⟩ :: _) _ _; refine msT.store (op := ⟨none, .store _ _ _, _, _, _, _⟩) (by rfl) _ _ (by rfl) (w9.heap.size) (m3) (zeroM) _ (by rfl) (by rfl) hM0 ?_)
  have n_hP_hF : w.heap.size ≠ w9.heap.size := by have h1 := hP.lt; have h2 := Nat.le_refl w9.heap.size; omega
  have n_hQ_hF : gq ≠ w9.heap.size := by have h1 := hQ.lt; have h2 := Nat.le_refl w9.heap.size; omega
  have n_hX_hF : gx ≠ w9.heap.size := by have h1 := hX.lt; have h2 := Nat.le_refl w9.heap.size; omega
  have n_hM_hF : gm ≠ w9.heap.size := by have h1 := hM.lt; have h2 := Nat.le_refl w9.heap.size; omega
  have n_hA_hF : ga ≠ w9.heap.size := by have h1 := hA.lt; have h2 := Nat.le_refl w9.heap.size; omega
  have l_hF : w.heap.size ≤ w9.heap.size := Nat.le_trans hb.size (Nat.le_refl w9.heap.size)
  have hF := hM0.rowK (msK.enc (m3))
  replace hP := (hP.below hn1).rowK_other (k := w9.heap.size) n_hP_hF (msK.enc (m3)).toArray
  replace hQ := (hQ.below hn1).rowK_other (k := w9.heap.size) n_hQ_hF (msK.enc (m3)).toArray
  replace hX := (hX.below hn1).row (k := w9.heap.size) n_hX_hF (msK.enc (m3)).toArray
  replace hM := (hM.below hn1).rowK_other (k := w9.heap.size) n_hM_hF (msK.enc (m3)).toArray
  replace hA := (hA.below hn1).rowK_other (k := w9.heap.size) n_hA_hF (msK.enc (m3)).toArray
  have hW := below_setRow hn1 (Nat.le_refl _) (msK.enc (m3)).toArray
  replace hb := bnext hb hW
  change Code.wp Try.prog _ _ _ ((w9.alloc (Obj.cells (msK.enc (zeroM)).toArray 31)).setRow w9.heap.size (msK.enc (m3)).toArray)
  generalize (w9.alloc (Obj.cells (msK.enc (zeroM)).toArray 31)).setRow w9.heap.size (msK.enc (m3)).toArray = w10 at *
  clear hn1 hM0 hW
  generalize w9.heap.size = gf at *
  go_wp2_with (guard_target =~ wpList _ _ _ (⟨some 39, _, _, _, _, _⟩ :: _) _ _; refine msT.load (op := ⟨some 39, .load _ _, _, _, _, _⟩) (by rfl) _ (by rfl) gf 0 (by rfl) (m3) hF.rangeK ?_)
  refine (HF gx ⟨(1, 1), 0, some 1, some 0, some (m2, 110), false⟩ m3 w10 hX ok3).mono ?_
  rintro e w11 ⟨rfl, h9, oq⟩
  replace hP := hP.only oq n_hP_hX
  replace hQ := hQ.only oq n_hQ_hX
  replace hM := hM.only oq (Ne.symm n_hX_hM)
  replace hA := hA.only oq (Ne.symm n_hX_hA)
  replace hF := hF.only oq (Ne.symm n_hX_hF)
  replace hb := Only.below hb oq l_hX hb.size
  replace hX := h9
  clear h9 oq
  rw [b5.1, b5.2.1]
  go_wp2_with fail
  go_ret
  exact ⟨rfl, hb⟩

set_option maxRecDepth 100000 in
set_option maxHeartbeats 8000000 in
theorem peerRound_from {R : List Value → Ps → Prop} (HNew : CNewP R) (HR : CReqP R) (HS : CSentP R) (HP : CResP R) (HF : CFolP R) (HA : CAnsP) (HU : CFupP) (me yo : Int × Int) (hme : 0 ≤ me.1 ∧ me.1 < 18446744073709551616) (hyo : 0 ≤ yo.1 ∧ yo.1 < 18446744073709551616) (n t way wait ahead : Int) (hn : -9223372036854775808 ≤ n ∧ n ≤ 9223372036854775807) (w : World) :
    Calls Try.prog 3 #[.agg (prK.enc me).toArray, .agg (prK.enc yo).toArray, .int .i64 n, .int .i64 t, .int .i64 way, .int .i64 wait, .int .i64 ahead] w fun e w' => e = .returned (.bool true) ∧ Below w.heap.size w w' := by
  have z0 := bnew w (Obj.cells (prK.enc me).toArray 24)
  have hP := Box.new w (prK.enc me) 24
  have z1 := bnew (w.alloc (Obj.cells (prK.enc me).toArray 24)) (Obj.cells (prK.enc yo).toArray 24)
  have hQ := Box.new (w.alloc (Obj.cells (prK.enc me).toArray 24)) (prK.enc yo) 24
  replace hP := hP.below z1
  have hb := z0
  replace hb := bnext hb z1
  clear z0
  clear z1
  have s1 : (w.alloc (Obj.cells (prK.enc me).toArray 24)).heap.size = w.heap.size + 1 := by simp
  rw [s1] at hQ
  go_enter Try.func3, Try.ntmps3
  go_upto_region 1 with fail
  change Code.wp Try.prog _ _ _ ((w.alloc (Obj.cells (prK.enc me).toArray 24)).alloc (Obj.cells (prK.enc yo).toArray 24))
  generalize ((w.alloc (Obj.cells (prK.enc me).toArray 24)).alloc (Obj.cells (prK.enc yo).toArray 24)) = W at *
  clear s1
  generalize hG : w.heap.size = G at *
  rw [← hG] at hb
  have l_hP : w.heap.size ≤ G := by omega
  have l_hQ : w.heap.size ≤ G + 1 := by omega
  have n_hP_hQ : G ≠ G + 1 := by omega
  go_wp2_with (guard_target =~ wpList _ _ _ (⟨some 32, _, _, _, _, _⟩ :: _) _ _; refine prT18.load (op := ⟨some 32, .load _ _, _, _, _, _⟩) (by rfl) _ (by rfl) G 0 (by rfl) (me) hP.rangeK ?_)
  refine (HNew me 0 W hme).mono ?_
  rintro e w1 ⟨gx, rfl, hg, h9, bq⟩
  have n_hP_hX : G ≠ gx := by have h1 := hP.lt; have h2 := hg; omega
  have n_hQ_hX : G + 1 ≠ gx := by have h1 := hQ.lt; have h2 := hg; omega
  have l_hX : w.heap.size ≤ gx := Nat.le_trans hb.size (hg)
  replace hP := hP.below bq
  replace hQ := hQ.below bq
  replace hb := bnext hb bq
  clear bq
  have hX := h9
  clear h9 hg
  go_wp2_with fail
  refine (place_in t 1099511627776 _ (by decide) (by decide)).mono ?_
  rintro e w0 ⟨s, rfl, hs0, hs1, -, rfl⟩
  go_wp2_with fail
  refine (place_in way 1048576 _ (by decide) (by decide)).mono ?_
  rintro e w0 ⟨d, rfl, hd0, hd1, -, rfl⟩
  go_wp2_with fail
  refine (place_in wait 1073741824 _ (by decide) (by decide)).mono ?_
  rintro e w0 ⟨wt, rfl, hwt0, hwt1, -, rfl⟩
  go_wp2_with fail
  refine (place_in ahead 1099511627776 _ (by decide) (by decide)).mono ?_
  rintro e w0 ⟨o, rfl, ho0, ho1, -, rfl⟩
  obtain ⟨k, hk⟩ : ∃ k, n % 65536 = k := ⟨_, rfl⟩
  obtain ⟨m1, hm1⟩ : ∃ m1 : Hd × Bd, m1 = ((⟨2, 0, 0, 0, me.1, me.2, k, 127⟩, bd0) : Hd × Bd) := ⟨_, rfl⟩
  obtain ⟨m2, hm2⟩ : ∃ m2 : Hd × Bd, m2 = ((⟨3, 0, 512, 0, yo.1, yo.2, k, 127⟩, { bd0 with st := s + d + o, tc := me.1, tp := me.2 }) : Hd × Bd) := ⟨_, rfl⟩
  obtain ⟨m3, hm3⟩ : ∃ m3 : Hd × Bd, m3 = ((⟨10, 0, 0, 0, yo.1, yo.2, k, 127⟩, { bd0 with st := s + d + wt + o, tc := me.1, tp := me.2 }) : Hd × Bd) := ⟨_, rfl⟩
  have z1 : -9223372036854775808 ≤ (0 : Int) := by decide
  have z2 : (0 : Int) ≤ 9223372036854775807 := by decide
  have ok1 : HdOk m1.1 := by rw [hm1]; exact hd_okp hme.1 hme.2 z1 z2
  have ok2 : HdOk m2.1 := by rw [hm2]; exact hd_okp hyo.1 hyo.2 z1 z2
  have ok3 : HdOk m3.1 := by rw [hm3]; exact hd_okp hyo.1 hyo.2 z1 z2
  have b0 : preqM ⟨me, 0, none, none, none, false⟩ n = m1 := by rw [hm1, ← hk]; rfl
  have b00 : preqS ⟨me, 0, none, none, none, false⟩ n = ⟨me, 0, some k, none, none, false⟩ := by rw [← hk]; rfl
  have a1 := pans_yes (m := m1) (me := yo) (at' := s + d + o) (by rw [hm1]) (by omega) (by omega)
  have a2 := pans_yes (m := m1) (me := yo) (at' := s + d + wt + o) (by rw [hm1]) (by omega) (by omega)
  have a3 : pansM m1 yo (s + d + o) = m2 := by rw [a1.2.1, hm1, hm2]
  have a4 : pfupM m1 yo (s + d + wt + o) = m3 := by rw [a2.2.2, hm1, hm3]
  replace a1 := a1.1
  replace a2 := a2.1
  have b1 := pres_unsent (x := ⟨me, 0, some k, none, none, false⟩) (m := m2) (at' := s) rfl
  have b2 := psent_yes (x := ⟨me, 0, some k, none, none, false⟩) (n := k) (at' := s) rfl rfl
  have b3 := pfol_none (x := ⟨me, 0, some k, some s, none, false⟩) (m := m3) rfl
  have b4 := pres_yes (x := ⟨me, 0, some k, some s, none, false⟩) (m := m2) (at' := s + d + wt + d) (s := k) (t := s) rfl rfl rfl (by rw [hm2]) (by rw [hm2]) (by rw [hm2]) (by rw [hm2])
  have b5 := pfol_yes (x := ⟨me, 0, some k, some s, some (m2, s + d + wt + d), false⟩) (m := m3) (s := k) (t := s) (r := m2) (c := s + d + wt + d) rfl rfl rfl (by rw [hm3]) (by rw [hm3]) (by rw [hm3]) rfl (by rw [hm3]) (by rw [hm2, hm3]) (by rw [hm2, hm3])
  have b6 : wrap64 (wrap64 (wrap64 (s + d + wt + d - s) - wrap64 (m3.2.st - m2.2.st)) - addI m2.1.co m3.1.co / 65536) / 2 = d := by
    rw [hm2, hm3]
    show wrap64 (wrap64 (wrap64 (s + d + wt + d - s) - wrap64 (s + d + wt + o - (s + d + o))) - addI 0 0 / 65536) / 2 = d
    unfold wrap64 addI
    omega
  rw [b6] at b5
  have b7 := pfol_none (x := noneP ⟨me, 0, some k, some s, some (m2, s + d + wt + d), false⟩) (m := m3) rfl
  have w1' : wrap64 (s + d) = s + d := by unfold wrap64; omega
  have w2' : wrap64 (s + d + o) = s + d + o := by unfold wrap64; omega
  have w3' : wrap64 (s + d + wt) = s + d + wt := by unfold wrap64; omega
  have w4' : wrap64 (s + d + wt + o) = s + d + wt + o := by unfold wrap64; omega
  have w5' : wrap64 (s + d + wt + d) = s + d + wt + d := by unfold wrap64; omega
  replace hm1 := hid hm1
  replace hm2 := hid hm2
  replace hm3 := hid hm3
  clear b6 hk
  go_wp2_with fail
  refine (HR gx ⟨me, 0, none, none, none, false⟩ n w1 hX hn).mono ?_
  rintro e w2 ⟨rfl, h9, oq⟩
  replace hP := hP.only oq n_hP_hX
  replace hQ := hQ.only oq n_hQ_hX
  replace hb := Only.below hb oq l_hX hb.size
  replace hX := h9
  clear h9 oq
  rw [b0]
  rw [b00] at hX
  have hn1 := bnew w2 (Obj.cells (msK.enc (zeroM)).toArray 31)
  have hM0 := Box.new w2 (msK.enc (zeroM)) 31
  go_upto_region 9 with (guard_target =~ wpList _ _ _ (⟨none, _, _, _, _, _⟩ :: _) _ _; refine msT.store (op := ⟨none, .store _ _ _, _, _, _, _⟩) (by rfl) _ _ (by rfl) (w2.heap.size) (m1) (zeroM) _ (by rfl) (by rfl) hM0 ?_)
  have n_hP_hM : G ≠ w2.heap.size := by have h1 := hP.lt; have h2 := Nat.le_refl w2.heap.size; omega
  have n_hQ_hM : G + 1 ≠ w2.heap.size := by have h1 := hQ.lt; have h2 := Nat.le_refl w2.heap.size; omega
  have n_hX_hM : gx ≠ w2.heap.size := by have h1 := hX.lt; have h2 := Nat.le_refl w2.heap.size; omega
  have l_hM : w.heap.size ≤ w2.heap.size := Nat.le_trans hb.size (Nat.le_refl w2.heap.size)
  have hM := hM0.rowK (msK.enc (m1))
  replace hP := (hP.below hn1).rowK_other (k := w2.heap.size) n_hP_hM (msK.enc (m1)).toArray
  replace hQ := (hQ.below hn1).rowK_other (k := w2.heap.size) n_hQ_hM (msK.enc (m1)).toArray
  replace hX := (hX.below hn1).row (k := w2.heap.size) n_hX_hM (msK.enc (m1)).toArray
  have hW := below_setRow hn1 (Nat.le_refl _) (msK.enc (m1)).toArray
  replace hb := bnext hb hW
  change Code.wp Try.prog _ _ _ ((w2.alloc (Obj.cells (msK.enc (zeroM)).toArray 31)).setRow w2.heap.size (msK.enc (m1)).toArray)
  generalize (w2.alloc (Obj.cells (msK.enc (zeroM)).toArray 31)).setRow w2.heap.size (msK.enc (m1)).toArray = w3 at *
  clear hn1 hM0 hW
  generalize w2.heap.size = gm at *
  go_wp2_with (first | (guard_target =~ wpList _ _ _ (⟨some 48, _, _, _, _, _⟩ :: _) _ _; refine msT.load (op := ⟨some 48, .load _ _, _, _, _, _⟩) (by rfl) _ (by rfl) gm 0 (by rfl) (m1) hM.rangeK ?_) | (guard_target =~ wpList _ _ _ (⟨some 49, _, _, _, _, _⟩ :: _) _ _; refine prT18.load (op := ⟨some 49, .load _ _, _, _, _, _⟩) (by rfl) _ (by rfl) (G + 1) 0 (by rfl) (yo) hQ.rangeK ?_))
  refine (HA m1 yo (s + d + o) w3 ok1).mono ?_
  rintro e w4 ⟨rfl, bq⟩
  replace hP := hP.below bq
  replace hQ := hQ.below bq
  replace hX := hX.below bq
  replace hM := hM.below bq
  replace hb := bnext hb bq
  clear bq
  rw [a3, a1]
  have hn1 := bnew w4 (Obj.cells (msK.enc (zeroM)).toArray 31)
  have hM0 := Box.new w4 (msK.enc (zeroM)) 31
  go_upto_region 10 with (guard_target =~ wpList _ _ _ (⟨none, _, _, _, _, _⟩ :: _) _ _; refine msT.store (op := ⟨none, .store _ _ _, _, _, _, _⟩) (by rfl) _ _ (by rfl) (w4.heap.size) (m2) (zeroM) _ (by rfl) (by rfl) hM0 ?_)
  have n_hP_hA : G ≠ w4.heap.size := by have h1 := hP.lt; have h2 := Nat.le_refl w4.heap.size; omega
  have n_hQ_hA : G + 1 ≠ w4.heap.size := by have h1 := hQ.lt; have h2 := Nat.le_refl w4.heap.size; omega
  have n_hX_hA : gx ≠ w4.heap.size := by have h1 := hX.lt; have h2 := Nat.le_refl w4.heap.size; omega
  have n_hM_hA : gm ≠ w4.heap.size := by have h1 := hM.lt; have h2 := Nat.le_refl w4.heap.size; omega
  have l_hA : w.heap.size ≤ w4.heap.size := Nat.le_trans hb.size (Nat.le_refl w4.heap.size)
  have hA := hM0.rowK (msK.enc (m2))
  replace hP := (hP.below hn1).rowK_other (k := w4.heap.size) n_hP_hA (msK.enc (m2)).toArray
  replace hQ := (hQ.below hn1).rowK_other (k := w4.heap.size) n_hQ_hA (msK.enc (m2)).toArray
  replace hX := (hX.below hn1).row (k := w4.heap.size) n_hX_hA (msK.enc (m2)).toArray
  replace hM := (hM.below hn1).rowK_other (k := w4.heap.size) n_hM_hA (msK.enc (m2)).toArray
  have hW := below_setRow hn1 (Nat.le_refl _) (msK.enc (m2)).toArray
  replace hb := bnext hb hW
  change Code.wp Try.prog _ _ _ ((w4.alloc (Obj.cells (msK.enc (zeroM)).toArray 31)).setRow w4.heap.size (msK.enc (m2)).toArray)
  generalize (w4.alloc (Obj.cells (msK.enc (zeroM)).toArray 31)).setRow w4.heap.size (msK.enc (m2)).toArray = w5 at *
  clear hn1 hM0 hW
  generalize w4.heap.size = ga at *
  go_wp2_with (first | (guard_target =~ wpList _ _ _ (⟨some 59, _, _, _, _, _⟩ :: _) _ _; refine msT.load (op := ⟨some 59, .load _ _, _, _, _, _⟩) (by rfl) _ (by rfl) gm 0 (by rfl) (m1) hM.rangeK ?_) | (guard_target =~ wpList _ _ _ (⟨some 60, _, _, _, _, _⟩ :: _) _ _; refine prT18.load (op := ⟨some 60, .load _ _, _, _, _, _⟩) (by rfl) _ (by rfl) (G + 1) 0 (by rfl) (yo) hQ.rangeK ?_))
  refine (HU m1 yo (s + d + wt + o) w5 ok1).mono ?_
  rintro e w6 ⟨rfl, bq⟩
  replace hP := hP.below bq
  replace hQ := hQ.below bq
  replace hX := hX.below bq
  replace hM := hM.below bq
  replace hA := hA.below bq
  replace hb := bnext hb bq
  clear bq
  rw [a4, a2]
  have hn1 := bnew w6 (Obj.cells (msK.enc (zeroM)).toArray 31)
  have hM0 := Box.new w6 (msK.enc (zeroM)) 31
  go_upto_region 11 with (guard_target =~ wpList _ _ _ (⟨none, _, _, _, _, _⟩ :: _) _ _; refine msT.store (op := ⟨none, .store _ _ _, _, _, _, _⟩) (by rfl) _ _ (by rfl) (w6.heap.size) (m3) (zeroM) _ (by rfl) (by rfl) hM0 ?_)
  have n_hP_hF : G ≠ w6.heap.size := by have h1 := hP.lt; have h2 := Nat.le_refl w6.heap.size; omega
  have n_hQ_hF : G + 1 ≠ w6.heap.size := by have h1 := hQ.lt; have h2 := Nat.le_refl w6.heap.size; omega
  have n_hX_hF : gx ≠ w6.heap.size := by have h1 := hX.lt; have h2 := Nat.le_refl w6.heap.size; omega
  have n_hM_hF : gm ≠ w6.heap.size := by have h1 := hM.lt; have h2 := Nat.le_refl w6.heap.size; omega
  have n_hA_hF : ga ≠ w6.heap.size := by have h1 := hA.lt; have h2 := Nat.le_refl w6.heap.size; omega
  have l_hF : w.heap.size ≤ w6.heap.size := Nat.le_trans hb.size (Nat.le_refl w6.heap.size)
  have hF := hM0.rowK (msK.enc (m3))
  replace hP := (hP.below hn1).rowK_other (k := w6.heap.size) n_hP_hF (msK.enc (m3)).toArray
  replace hQ := (hQ.below hn1).rowK_other (k := w6.heap.size) n_hQ_hF (msK.enc (m3)).toArray
  replace hX := (hX.below hn1).row (k := w6.heap.size) n_hX_hF (msK.enc (m3)).toArray
  replace hM := (hM.below hn1).rowK_other (k := w6.heap.size) n_hM_hF (msK.enc (m3)).toArray
  replace hA := (hA.below hn1).rowK_other (k := w6.heap.size) n_hA_hF (msK.enc (m3)).toArray
  have hW := below_setRow hn1 (Nat.le_refl _) (msK.enc (m3)).toArray
  replace hb := bnext hb hW
  change Code.wp Try.prog _ _ _ ((w6.alloc (Obj.cells (msK.enc (zeroM)).toArray 31)).setRow w6.heap.size (msK.enc (m3)).toArray)
  generalize (w6.alloc (Obj.cells (msK.enc (zeroM)).toArray 31)).setRow w6.heap.size (msK.enc (m3)).toArray = w7 at *
  clear hn1 hM0 hW
  generalize w6.heap.size = gf at *
  go_wp2_with (guard_target =~ wpList _ _ _ (⟨some 72, _, _, _, _, _⟩ :: _) _ _; refine msT.load (op := ⟨some 72, .load _ _, _, _, _, _⟩) (by rfl) _ (by rfl) ga 0 (by rfl) (m2) hA.rangeK ?_)
  refine (HP gx ⟨me, 0, some k, none, none, false⟩ m2 s w7 hX ok2).mono ?_
  rintro e w8 ⟨rfl, h9, oq⟩
  replace hP := hP.only oq n_hP_hX
  replace hQ := hQ.only oq n_hQ_hX
  replace hM := hM.only oq (Ne.symm n_hX_hM)
  replace hA := hA.only oq (Ne.symm n_hX_hA)
  replace hF := hF.only oq (Ne.symm n_hX_hF)
  replace hb := Only.below hb oq l_hX hb.size
  replace hX := h9
  clear h9 oq
  rw [b1.1]
  rw [b1.2] at hX
  have c6 : w8.cell? ⟨gm, 6, none⟩ = some (.int .i64 (k)) := hM.cell 6 _ (by rw [hm1.out]; rfl)
  have c2 : w8.cell? ⟨ga, 2, none⟩ = some (.int .i64 (512)) := hA.cell 2 _ (by rw [hm2.out]; rfl)
  go_wp2_with fail
  clear c6 c2
  refine (HS gx ⟨me, 0, some k, none, none, false⟩ k s w8 hX).mono ?_
  rintro e w9 ⟨rfl, h9, oq⟩
  replace hP := hP.only oq n_hP_hX
  replace hQ := hQ.only oq n_hQ_hX
  replace hM := hM.only oq (Ne.symm n_hX_hM)
  replace hA := hA.only oq (Ne.symm n_hX_hA)
  replace hF := hF.only oq (Ne.symm n_hX_hF)
  replace hb := Only.below hb oq l_hX hb.size
  replace hX := h9
  clear h9 oq
  rw [b2.1]
  rw [b2.2] at hX
  have c2 : w9.cell? ⟨ga, 2, none⟩ = some (.int .i64 (512)) := hA.cell 2 _ (by rw [hm2.out]; rfl)
  go_wp2_with (guard_target =~ wpList _ _ _ (⟨some 98, _, _, _, _, _⟩ :: _) _ _; refine msT.load (op := ⟨some 98, .load _ _, _, _, _, _⟩) (by rfl) _ (by rfl) gf 0 (by rfl) (m3) hF.rangeK ?_)
  clear c2
  refine (HF gx ⟨me, 0, some k, some s, none, false⟩ m3 w9 hX ok3).mono ?_
  rintro e w10 ⟨rfl, h9, oq⟩
  replace hP := hP.only oq n_hP_hX
  replace hQ := hQ.only oq n_hQ_hX
  replace hM := hM.only oq (Ne.symm n_hX_hM)
  replace hA := hA.only oq (Ne.symm n_hX_hA)
  replace hF := hF.only oq (Ne.symm n_hX_hF)
  replace hb := Only.below hb oq l_hX hb.size
  replace hX := h9
  clear h9 oq
  rw [b3.1]
  rw [b3.2.2] at hX
  go_wp2_with (guard_target =~ wpList _ _ _ (⟨some 103, _, _, _, _, _⟩ :: _) _ _; refine msT.load (op := ⟨some 103, .load _ _, _, _, _, _⟩) (by rfl) _ (by rfl) ga 0 (by rfl) (m2) hA.rangeK ?_)
  refine (HP gx ⟨me, 0, some k, some s, none, false⟩ m2 (s + d + wt + d) w10 hX ok2).mono ?_
  rintro e w11 ⟨rfl, h9, oq⟩
  replace hP := hP.only oq n_hP_hX
  replace hQ := hQ.only oq n_hQ_hX
  replace hM := hM.only oq (Ne.symm n_hX_hM)
  replace hA := hA.only oq (Ne.symm n_hX_hA)
  replace hF := hF.only oq (Ne.symm n_hX_hF)
  replace hb := Only.below hb oq l_hX hb.size
  replace hX := h9
  clear h9 oq
  rw [b4.1]
  rw [b4.2] at hX
  go_wp2_with (guard_target =~ wpList _ _ _ (⟨some 114, _, _, _, _, _⟩ :: _) _ _; refine msT.load (op := ⟨some 114, .load _ _, _, _, _, _⟩) (by rfl) _ (by rfl) gf 0 (by rfl) (m3) hF.rangeK ?_)
  refine (HF gx ⟨me, 0, some k, some s, some (m2, s + d + wt + d), false⟩ m3 w11 hX ok3).mono ?_
  rintro e w12 ⟨rfl, h9, oq⟩
  replace hP := hP.only oq n_hP_hX
  replace hQ := hQ.only oq n_hQ_hX
  replace hM := hM.only oq (Ne.symm n_hX_hM)
  replace hA := hA.only oq (Ne.symm n_hX_hA)
  replace hF := hF.only oq (Ne.symm n_hX_hF)
  replace hb := Only.below hb oq l_hX hb.size
  replace hX := h9
  clear h9 oq
  rw [b5.1, b5.2.1]
  rw [b5.2.2] at hX
  go_wp2_with (guard_target =~ wpList _ _ _ (⟨some 120, _, _, _, _, _⟩ :: _) _ _; refine msT.load (op := ⟨some 120, .load _ _, _, _, _, _⟩) (by rfl) _ (by rfl) gf 0 (by rfl) (m3) hF.rangeK ?_)
  refine (HF gx _ m3 w12 hX ok3).mono ?_
  rintro e w13 ⟨rfl, h9, oq⟩
  replace hP := hP.only oq n_hP_hX
  replace hQ := hQ.only oq n_hQ_hX
  replace hM := hM.only oq (Ne.symm n_hX_hM)
  replace hA := hA.only oq (Ne.symm n_hX_hA)
  replace hF := hF.only oq (Ne.symm n_hX_hF)
  replace hb := Only.below hb oq l_hX hb.size
  replace hX := h9
  clear h9 oq
  rw [b7.1]
  clear b1 b2 b3 b4 b5 b7 a1 a2 a3 a4
  go_wp2_with fail
  refine (awake18_from HNew HR HS HP HF HA HU _).mono ?_
  rintro e wz ⟨rfl, bz⟩
  go_wp2_with fail
  go_ret
  exact ⟨rfl, bnext hb bz⟩

set_option maxRecDepth 100000 in
set_option maxHeartbeats 8000000 in
theorem peerOnce_from {R : List Value → Ps → Prop} (HNew : CNewP R) (HR : CReqP R) (HS : CSentP R) (HP : CResP R) (HF : CFolP R) (HA : CAnsP) (HU : CFupP) (me yo : Int × Int) (hme : 0 ≤ me.1 ∧ me.1 < 18446744073709551616) (hyo : 0 ≤ yo.1 ∧ yo.1 < 18446744073709551616) (n : Int) (ot : Int × Int) (w : World) :
    Calls Try.prog 4 #[.agg (prK.enc me).toArray, .agg (prK.enc yo).toArray, .int .i64 n, .agg (prK.enc ot).toArray] w fun e w' => e = .returned (.bool true) ∧ Below w.heap.size w w' := by
  have z0 := bnew w (Obj.cells (prK.enc me).toArray 24)
  have hP := Box.new w (prK.enc me) 24
  have z1 := bnew (w.alloc (Obj.cells (prK.enc me).toArray 24)) (Obj.cells (prK.enc yo).toArray 24)
  have hQ := Box.new (w.alloc (Obj.cells (prK.enc me).toArray 24)) (prK.enc yo) 24
  replace hP := hP.below z1
  have z2 := bnew ((w.alloc (Obj.cells (prK.enc me).toArray 24)).alloc (Obj.cells (prK.enc yo).toArray 24)) (Obj.cells (prK.enc ot).toArray 24)
  have hO := Box.new ((w.alloc (Obj.cells (prK.enc me).toArray 24)).alloc (Obj.cells (prK.enc yo).toArray 24)) (prK.enc ot) 24
  replace hP := hP.below z2
  replace hQ := hQ.below z2
  have hb := z0
  replace hb := bnext hb z1
  replace hb := bnext hb z2
  clear z0
  clear z1
  clear z2
  have s1 : (w.alloc (Obj.cells (prK.enc me).toArray 24)).heap.size = w.heap.size + 1 := by simp
  rw [s1] at hQ
  have s2 : ((w.alloc (Obj.cells (prK.enc me).toArray 24)).alloc (Obj.cells (prK.enc yo).toArray 24)).heap.size = w.heap.size + 1 + 1 := by simp
  rw [s2] at hO
  go_enter Try.func4, Try.ntmps4
  go_upto_region 1 with fail
  change Code.wp Try.prog _ _ _ (((w.alloc (Obj.cells (prK.enc me).toArray 24)).alloc (Obj.cells (prK.enc yo).toArray 24)).alloc (Obj.cells (prK.enc ot).toArray 24))
  generalize (((w.alloc (Obj.cells (prK.enc me).toArray 24)).alloc (Obj.cells (prK.enc yo).toArray 24)).alloc (Obj.cells (prK.enc ot).toArray 24)) = W at *
  clear s1
  clear s2
  generalize hG : w.heap.size = G at *
  rw [← hG] at hb
  have l_hP : w.heap.size ≤ G := by omega
  have l_hQ : w.heap.size ≤ G + 1 := by omega
  have n_hP_hQ : G ≠ G + 1 := by omega
  have l_hO : w.heap.size ≤ G + 1 + 1 := by omega
  have n_hP_hO : G ≠ G + 1 + 1 := by omega
  have n_hQ_hO : G + 1 ≠ G + 1 + 1 := by omega
  have hmask : bits .and .i64 n 65535 = n % 65536 := and_mask n 16 (by decide)
  go_wp2_with (guard_target =~ wpList _ _ _ (⟨some 15, _, _, _, _, _⟩ :: _) _ _; refine prT18.load (op := ⟨some 15, .load _ _, _, _, _, _⟩) (by rfl) _ (by rfl) G 0 (by rfl) (me) hP.rangeK ?_)
  refine (HNew me 0 W hme).mono ?_
  rintro e w1 ⟨gx, rfl, hg, h9, bq⟩
  have n_hP_hX : G ≠ gx := by have h1 := hP.lt; have h2 := hg; omega
  have n_hQ_hX : G + 1 ≠ gx := by have h1 := hQ.lt; have h2 := hg; omega
  have n_hO_hX : G + 1 + 1 ≠ gx := by have h1 := hO.lt; have h2 := hg; omega
  have l_hX : w.heap.size ≤ gx := Nat.le_trans hb.size (hg)
  replace hP := hP.below bq
  replace hQ := hQ.below bq
  replace hO := hO.below bq
  replace hb := bnext hb bq
  clear bq
  have hX := h9
  clear h9 hg
  obtain ⟨k, hk⟩ : ∃ k, n % 65536 = k := ⟨_, rfl⟩
  rw [hk] at hmask
  have hk0 : 0 ≤ k ∧ k < 65536 := by omega
  have hkk : k % 65536 = k := by omega
  obtain ⟨k2, hk2⟩ : ∃ k2, (k + 1) % 65536 = k2 := ⟨_, rfl⟩
  have hmask2 : bits .and .i64 (k + 1) 65535 = k2 := (and_mask (k + 1) 16 (by decide)).trans hk2
  have wk1 : wrap64 (k + 1) = k + 1 := by unfold wrap64; omega
  have hne : k2 ≠ k := by omega
  obtain ⟨m1, hm1⟩ : ∃ m1 : Hd × Bd, m1 = ((⟨2, 0, 0, 0, me.1, me.2, k, 127⟩, bd0) : Hd × Bd) := ⟨_, rfl⟩
  obtain ⟨m2, hm2⟩ : ∃ m2 : Hd × Bd, m2 = ((⟨3, 0, 512, 0, yo.1, yo.2, k, 127⟩, { bd0 with st := 10, tc := me.1, tp := me.2 }) : Hd × Bd) := ⟨_, rfl⟩
  obtain ⟨m3, hm3⟩ : ∃ m3 : Hd × Bd, m3 = ((⟨3, 0, 512, 0, yo.1, yo.2, k2, 127⟩, { bd0 with st := 10, tc := me.1, tp := me.2 }) : Hd × Bd) := ⟨_, rfl⟩
  obtain ⟨m4, hm4⟩ : ∃ m4 : Hd × Bd, m4 = ((⟨3, 0, 512, 0, yo.1, yo.2, k, 127⟩, { bd0 with st := 10, tc := ot.1, tp := ot.2 }) : Hd × Bd) := ⟨_, rfl⟩
  have z1 : -9223372036854775808 ≤ (0 : Int) := by decide
  have z2 : (0 : Int) ≤ 9223372036854775807 := by decide
  have ok1 : HdOk m1.1 := by rw [hm1]; exact hd_okp hme.1 hme.2 z1 z2
  have ok2 : HdOk m2.1 := by rw [hm2]; exact hd_okp hyo.1 hyo.2 z1 z2
  have ok3 : HdOk m3.1 := by rw [hm3]; exact hd_okp hyo.1 hyo.2 z1 z2
  have ok4 : HdOk m4.1 := by rw [hm4]; exact hd_okp hyo.1 hyo.2 z1 z2
  have t4 : m4.2.tc = ot.1 ∧ m4.2.tp = ot.2 := by rw [hm4]; exact ⟨rfl, rfl⟩
  have b0 : preqM ⟨me, 0, none, none, none, false⟩ k = m1 := by rw [hm1]; unfold preqM; rw [hkk]
  have b00 : preqS ⟨me, 0, none, none, none, false⟩ k = ⟨me, 0, some k, none, none, false⟩ := by unfold preqS; rw [hkk]
  have a1 := pans_yes (m := m1) (me := yo) (at' := 10) (by rw [hm1]) (by decide) (by decide)
  have a3 : pansM m1 yo 10 = m2 := by rw [a1.2.1, hm1, hm2]
  replace a1 := a1.1
  have b1 := psent_yes (x := ⟨me, 0, some k, none, none, false⟩) (n := k) (at' := 5) rfl rfl
  have b2 := psent_twice (x := ⟨me, 0, some k, some 5, none, false⟩) (n := k) (at' := 6) (t := 5) rfl
  have b3 := psent_twice (x := ⟨me, 0, some k, some 5, none, false⟩) (n := k2) (at' := 5) (t := 5) rfl
  have b4 := pres_no (x := ⟨me, 0, some k, some 5, none, false⟩) (m := m3) (at' := 20) (s := k) (t := 5) rfl rfl (.inr (.inr (by rw [hm3]; exact hne)))
  have b6 := pres_yes (x := ⟨me, 0, some k, some 5, none, false⟩) (m := m2) (at' := 20) (s := k) (t := 5) rfl rfl rfl (by rw [hm2]) (by rw [hm2]) (by rw [hm2]) (by rw [hm2])
  replace hm1 := hid hm1
  replace hm2 := hid hm2
  replace hm3 := hid hm3
  replace hm4 := hid hm4
  replace hk2 := hid hk2
  clear hk hkk hne
  go_wp2_with fail
  refine (HR gx ⟨me, 0, none, none, none, false⟩ k w1 hX (by omega)).mono ?_
  rintro e w2 ⟨rfl, h9, oq⟩
  replace hP := hP.only oq n_hP_hX
  replace hQ := hQ.only oq n_hQ_hX
  replace hO := hO.only oq n_hO_hX
  replace hb := Only.below hb oq l_hX hb.size
  replace hX := h9
  clear h9 oq
  rw [b0]
  rw [b00] at hX
  have hn1 := bnew w2 (Obj.cells (msK.enc (zeroM)).toArray 31)
  have hM0 := Box.new w2 (msK.enc (zeroM)) 31
  go_upto_region 5 with (guard_target =~ wpList _ _ _ (⟨none, _, _, _, _, _⟩ :: _) _ _; refine msT.store (op := ⟨none, .store _ _ _, _, _, _, _⟩) (by rfl) _ _ (by rfl) (w2.heap.size) (m1) (zeroM) _ (by rfl) (by rfl) hM0 ?_)
  have n_hP_hM : G ≠ w2.heap.size := by have h1 := hP.lt; have h2 := Nat.le_refl w2.heap.size; omega
  have n_hQ_hM : G + 1 ≠ w2.heap.size := by have h1 := hQ.lt; have h2 := Nat.le_refl w2.heap.size; omega
  have n_hO_hM : G + 1 + 1 ≠ w2.heap.size := by have h1 := hO.lt; have h2 := Nat.le_refl w2.heap.size; omega
  have n_hX_hM : gx ≠ w2.heap.size := by have h1 := hX.lt; have h2 := Nat.le_refl w2.heap.size; omega
  have l_hM : w.heap.size ≤ w2.heap.size := Nat.le_trans hb.size (Nat.le_refl w2.heap.size)
  have hM := hM0.rowK (msK.enc (m1))
  replace hP := (hP.below hn1).rowK_other (k := w2.heap.size) n_hP_hM (msK.enc (m1)).toArray
  replace hQ := (hQ.below hn1).rowK_other (k := w2.heap.size) n_hQ_hM (msK.enc (m1)).toArray
  replace hO := (hO.below hn1).rowK_other (k := w2.heap.size) n_hO_hM (msK.enc (m1)).toArray
  replace hX := (hX.below hn1).row (k := w2.heap.size) n_hX_hM (msK.enc (m1)).toArray
  have hW := below_setRow hn1 (Nat.le_refl _) (msK.enc (m1)).toArray
  replace hb := bnext hb hW
  change Code.wp Try.prog _ _ _ ((w2.alloc (Obj.cells (msK.enc (zeroM)).toArray 31)).setRow w2.heap.size (msK.enc (m1)).toArray)
  generalize (w2.alloc (Obj.cells (msK.enc (zeroM)).toArray 31)).setRow w2.heap.size (msK.enc (m1)).toArray = w3 at *
  clear hn1 hM0 hW
  generalize w2.heap.size = gm at *
  have c6 : w3.cell? ⟨gm, 6, none⟩ = some (.int .i64 k) := hM.cell 6 _ (by rw [hm1.out]; rfl)
  go_wp2_with fail
  clear c6
  refine (HS gx ⟨me, 0, some k, none, none, false⟩ k 5 w3 hX).mono ?_
  rintro e w4 ⟨rfl, h9, oq⟩
  replace hP := hP.only oq n_hP_hX
  replace hQ := hQ.only oq n_hQ_hX
  replace hO := hO.only oq n_hO_hX
  replace hM := hM.only oq (Ne.symm n_hX_hM)
  replace hb := Only.below hb oq l_hX hb.size
  replace hX := h9
  clear h9 oq
  rw [b1.1]
  rw [b1.2] at hX
  have c6 : w4.cell? ⟨gm, 6, none⟩ = some (.int .i64 k) := hM.cell 6 _ (by rw [hm1.out]; rfl)
  go_wp2_with fail
  clear c6
  refine (HS gx ⟨me, 0, some k, some 5, none, false⟩ k 6 w4 hX).mono ?_
  rintro e w5 ⟨rfl, h9, oq⟩
  replace hP := hP.only oq n_hP_hX
  replace hQ := hQ.only oq n_hQ_hX
  replace hO := hO.only oq n_hO_hX
  replace hM := hM.only oq (Ne.symm n_hX_hM)
  replace hb := Only.below hb oq l_hX hb.size
  replace hX := h9
  clear h9 oq
  rw [b2.1]
  rw [b2.2] at hX
  have c6 : w5.cell? ⟨gm, 6, none⟩ = some (.int .i64 k) := hM.cell 6 _ (by rw [hm1.out]; rfl)
  go_wp2_with fail
  clear c6
  refine (HS gx ⟨me, 0, some k, some 5, none, false⟩ k2 5 w5 hX).mono ?_
  rintro e w6 ⟨rfl, h9, oq⟩
  replace hP := hP.only oq n_hP_hX
  replace hQ := hQ.only oq n_hQ_hX
  replace hO := hO.only oq n_hO_hX
  replace hM := hM.only oq (Ne.symm n_hX_hM)
  replace hb := Only.below hb oq l_hX hb.size
  replace hX := h9
  clear h9 oq
  rw [b3.1]
  rw [b3.2] at hX
  go_wp2_with (first | (guard_target =~ wpList _ _ _ (⟨some 43, _, _, _, _, _⟩ :: _) _ _; refine msT.load (op := ⟨some 43, .load _ _, _, _, _, _⟩) (by rfl) _ (by rfl) gm 0 (by rfl) (m1) hM.rangeK ?_) | (guard_target =~ wpList _ _ _ (⟨some 44, _, _, _, _, _⟩ :: _) _ _; refine prT18.load (op := ⟨some 44, .load _ _, _, _, _, _⟩) (by rfl) _ (by rfl) (G + 1) 0 (by rfl) (yo) hQ.rangeK ?_))
  refine (HA m1 yo 10 w6 ok1).mono ?_
  rintro e w7 ⟨rfl, bq⟩
  replace hP := hP.below bq
  replace hQ := hQ.below bq
  replace hO := hO.below bq
  replace hX := hX.below bq
  replace hM := hM.below bq
  replace hb := bnext hb bq
  clear bq
  rw [a3, a1]
  have hn1 := bnew w7 (Obj.cells (msK.enc (zeroM)).toArray 31)
  have hM0 := Box.new w7 (msK.enc (zeroM)) 31
  go_upto_region 8 with (guard_target =~ wpList _ _ _ (⟨none, _, _, _, _, _⟩ :: _) _ _; refine msT.store (op := ⟨none, .store _ _ _, _, _, _, _⟩) (by rfl) _ _ (by rfl) (w7.heap.size) (m2) (zeroM) _ (by rfl) (by rfl) hM0 ?_)
  have n_hP_hA : G ≠ w7.heap.size := by have h1 := hP.lt; have h2 := Nat.le_refl w7.heap.size; omega
  have n_hQ_hA : G + 1 ≠ w7.heap.size := by have h1 := hQ.lt; have h2 := Nat.le_refl w7.heap.size; omega
  have n_hO_hA : G + 1 + 1 ≠ w7.heap.size := by have h1 := hO.lt; have h2 := Nat.le_refl w7.heap.size; omega
  have n_hX_hA : gx ≠ w7.heap.size := by have h1 := hX.lt; have h2 := Nat.le_refl w7.heap.size; omega
  have n_hM_hA : gm ≠ w7.heap.size := by have h1 := hM.lt; have h2 := Nat.le_refl w7.heap.size; omega
  have l_hA : w.heap.size ≤ w7.heap.size := Nat.le_trans hb.size (Nat.le_refl w7.heap.size)
  have hA := hM0.rowK (msK.enc (m2))
  replace hP := (hP.below hn1).rowK_other (k := w7.heap.size) n_hP_hA (msK.enc (m2)).toArray
  replace hQ := (hQ.below hn1).rowK_other (k := w7.heap.size) n_hQ_hA (msK.enc (m2)).toArray
  replace hO := (hO.below hn1).rowK_other (k := w7.heap.size) n_hO_hA (msK.enc (m2)).toArray
  replace hX := (hX.below hn1).row (k := w7.heap.size) n_hX_hA (msK.enc (m2)).toArray
  replace hM := (hM.below hn1).rowK_other (k := w7.heap.size) n_hM_hA (msK.enc (m2)).toArray
  have hW := below_setRow hn1 (Nat.le_refl _) (msK.enc (m2)).toArray
  replace hb := bnext hb hW
  change Code.wp Try.prog _ _ _ ((w7.alloc (Obj.cells (msK.enc (zeroM)).toArray 31)).setRow w7.heap.size (msK.enc (m2)).toArray)
  generalize (w7.alloc (Obj.cells (msK.enc (zeroM)).toArray 31)).setRow w7.heap.size (msK.enc (m2)).toArray = w8 at *
  clear hn1 hM0 hW
  generalize w7.heap.size = ga at *
  have hn1 := bnew w8 (Obj.cells (msK.enc (zeroM)).toArray 31)
  have hM0 := Box.new w8 (msK.enc (zeroM)) 31
  go_upto_region 9 with (first | (guard_target =~ wpList _ _ _ (⟨some 48, _, _, _, _, _⟩ :: _) _ _; refine msT.load (op := ⟨some 48, .load _ _, _, _, _, _⟩) (by rfl) _ (by rfl) ga 0 (by rfl) (m2) hA.rangeK ?_) | (guard_target =~ wpList _ _ _ (⟨none, _, _, _, _, _⟩ :: _) _ _; refine msT.store (op := ⟨none, .store _ _ _, _, _, _, _⟩) (by rfl) _ _ (by rfl) (w8.heap.size) (m2) (zeroM) _ (by rfl) (by rfl) hM0 ?_))
  have n_hP_hB : G ≠ w8.heap.size := by have h1 := hP.lt; have h2 := Nat.le_refl w8.heap.size; omega
  have n_hQ_hB : G + 1 ≠ w8.heap.size := by have h1 := hQ.lt; have h2 := Nat.le_refl w8.heap.size; omega
  have n_hO_hB : G + 1 + 1 ≠ w8.heap.size := by have h1 := hO.lt; have h2 := Nat.le_refl w8.heap.size; omega
  have n_hX_hB : gx ≠ w8.heap.size := by have h1 := hX.lt; have h2 := Nat.le_refl w8.heap.size; omega
  have n_hM_hB : gm ≠ w8.heap.size := by have h1 := hM.lt; have h2 := Nat.le_refl w8.heap.size; omega
  have n_hA_hB : ga ≠ w8.heap.size := by have h1 := hA.lt; have h2 := Nat.le_refl w8.heap.size; omega
  have l_hB : w.heap.size ≤ w8.heap.size := Nat.le_trans hb.size (Nat.le_refl w8.heap.size)
  have hB := hM0.rowK (msK.enc (m2))
  replace hP := (hP.below hn1).rowK_other (k := w8.heap.size) n_hP_hB (msK.enc (m2)).toArray
  replace hQ := (hQ.below hn1).rowK_other (k := w8.heap.size) n_hQ_hB (msK.enc (m2)).toArray
  replace hO := (hO.below hn1).rowK_other (k := w8.heap.size) n_hO_hB (msK.enc (m2)).toArray
  replace hX := (hX.below hn1).row (k := w8.heap.size) n_hX_hB (msK.enc (m2)).toArray
  replace hM := (hM.below hn1).rowK_other (k := w8.heap.size) n_hM_hB (msK.enc (m2)).toArray
  replace hA := (hA.below hn1).rowK_other (k := w8.heap.size) n_hA_hB (msK.enc (m2)).toArray
  have hW := below_setRow hn1 (Nat.le_refl _) (msK.enc (m2)).toArray
  replace hb := bnext hb hW
  change Code.wp Try.prog _ _ _ ((w8.alloc (Obj.cells (msK.enc (zeroM)).toArray 31)).setRow w8.heap.size (msK.enc (m2)).toArray)
  generalize (w8.alloc (Obj.cells (msK.enc (zeroM)).toArray 31)).setRow w8.heap.size (msK.enc (m2)).toArray = w9 at *
  clear hn1 hM0 hW
  generalize w8.heap.size = gb at *
  rw [hm2.out] at hB
  have c6 : w9.cell? ⟨gm, 6, none⟩ = some (.int .i64 k) := hM.cell 6 _ (by rw [hm1.out]; rfl)
  have hc := hB.cell 6 _ rfl
  have hf := hB.free 6
  go_upto_region 10 with fail
  clear c6
  replace hB := hB.set 6 (.int .i64 k2)
  replace hP := hP.other n_hP_hB 6 (.int .i64 k2)
  replace hQ := hQ.other n_hQ_hB 6 (.int .i64 k2)
  replace hO := hO.other n_hO_hB 6 (.int .i64 k2)
  replace hX := hX.setCell n_hX_hB 6 (.int .i64 k2)
  replace hM := hM.other n_hM_hB 6 (.int .i64 k2)
  replace hA := hA.other n_hA_hB 6 (.int .i64 k2)
  replace hb := hb.setCell (p := ⟨gb, 6, none⟩) l_hB (.int .i64 k2)
  generalize World.setCell _ _ _ = w10 at *
  clear hc hf
  replace hB : Box w10 gb (msK.enc ((⟨3, 0, 512, 0, yo.1, yo.2, k2, 127⟩, { bd0 with st := 10, tc := me.1, tp := me.2 }) : Hd × Bd)) _ := hB
  rw [← hm3.out] at hB
  have hn1 := bnew w10 (Obj.cells (msK.enc (zeroM)).toArray 31)
  have hM0 := Box.new w10 (msK.enc (zeroM)) 31
  go_upto_region 11 with (first | (guard_target =~ wpList _ _ _ (⟨some 54, _, _, _, _, _⟩ :: _) _ _; refine msT.load (op := ⟨some 54, .load _ _, _, _, _, _⟩) (by rfl) _ (by rfl) ga 0 (by rfl) (m2) hA.rangeK ?_) | (guard_target =~ wpList _ _ _ (⟨none, _, _, _, _, _⟩ :: _) _ _; refine msT.store (op := ⟨none, .store _ _ _, _, _, _, _⟩) (by rfl) _ _ (by rfl) (w10.heap.size) (m2) (zeroM) _ (by rfl) (by rfl) hM0 ?_))
  have n_hP_hC : G ≠ w10.heap.size := by have h1 := hP.lt; have h2 := Nat.le_refl w10.heap.size; omega
  have n_hQ_hC : G + 1 ≠ w10.heap.size := by have h1 := hQ.lt; have h2 := Nat.le_refl w10.heap.size; omega
  have n_hO_hC : G + 1 + 1 ≠ w10.heap.size := by have h1 := hO.lt; have h2 := Nat.le_refl w10.heap.size; omega
  have n_hX_hC : gx ≠ w10.heap.size := by have h1 := hX.lt; have h2 := Nat.le_refl w10.heap.size; omega
  have n_hM_hC : gm ≠ w10.heap.size := by have h1 := hM.lt; have h2 := Nat.le_refl w10.heap.size; omega
  have n_hA_hC : ga ≠ w10.heap.size := by have h1 := hA.lt; have h2 := Nat.le_refl w10.heap.size; omega
  have n_hB_hC : gb ≠ w10.heap.size := by have h1 := hB.lt; have h2 := Nat.le_refl w10.heap.size; omega
  have l_hC : w.heap.size ≤ w10.heap.size := Nat.le_trans hb.size (Nat.le_refl w10.heap.size)
  have hC := hM0.rowK (msK.enc (m2))
  replace hP := (hP.below hn1).rowK_other (k := w10.heap.size) n_hP_hC (msK.enc (m2)).toArray
  replace hQ := (hQ.below hn1).rowK_other (k := w10.heap.size) n_hQ_hC (msK.enc (m2)).toArray
  replace hO := (hO.below hn1).rowK_other (k := w10.heap.size) n_hO_hC (msK.enc (m2)).toArray
  replace hX := (hX.below hn1).row (k := w10.heap.size) n_hX_hC (msK.enc (m2)).toArray
  replace hM := (hM.below hn1).rowK_other (k := w10.heap.size) n_hM_hC (msK.enc (m2)).toArray
  replace hA := (hA.below hn1).rowK_other (k := w10.heap.size) n_hA_hC (msK.enc (m2)).toArray
  replace hB := (hB.below hn1).rowK_other (k := w10.heap.size) n_hB_hC (msK.enc (m2)).toArray
  have hW := below_setRow hn1 (Nat.le_refl _) (msK.enc (m2)).toArray
  replace hb := bnext hb hW
  change Code.wp Try.prog _ _ _ ((w10.alloc (Obj.cells (msK.enc (zeroM)).toArray 31)).setRow w10.heap.size (msK.enc (m2)).toArray)
  generalize (w10.alloc (Obj.cells (msK.enc (zeroM)).toArray 31)).setRow w10.heap.size (msK.enc (m2)).toArray = w11 at *
  clear hn1 hM0 hW
  generalize w10.heap.size = gc at *
  rw [hm2.out] at hC
  have f9 := hC.free 9
  have f10 := hC.free 10
  have q9 : w11.cell? ⟨gc, 9, none⟩ = some (.int .u64 me.1) := hC.cell 9 _ rfl
  have q10 : w11.cell? ⟨gc, 10, none⟩ = some (.int .i64 me.2) := hC.cell 10 _ rfl
  have o0 : w11.cell? ⟨G + 1 + 1, 0, none⟩ = some (.int .u64 ot.1) := hO.cell 0 _ rfl
  have o1 : w11.cell? ⟨G + 1 + 1, 1, none⟩ = some (.int .i64 ot.2) := hO.cell 1 _ rfl
  go_upto_region 12 with fail
  clear f9 f10 q9 q10 o0 o1
  replace hC := (hC.set 9 (.int .u64 ot.1)).set 10 (.int .i64 ot.2)
  replace hb := (hb.setCell (p := ⟨gc, 9, none⟩) l_hC (.int .u64 ot.1)).setCell (p := ⟨gc, 10, none⟩) l_hC (.int .i64 ot.2)
  replace hP := (hP.other n_hP_hC 9 (.int .u64 ot.1)).other n_hP_hC 10 (.int .i64 ot.2)
  replace hQ := (hQ.other n_hQ_hC 9 (.int .u64 ot.1)).other n_hQ_hC 10 (.int .i64 ot.2)
  replace hO := (hO.other n_hO_hC 9 (.int .u64 ot.1)).other n_hO_hC 10 (.int .i64 ot.2)
  replace hX := (hX.setCell n_hX_hC 9 (.int .u64 ot.1)).setCell n_hX_hC 10 (.int .i64 ot.2)
  replace hM := (hM.other n_hM_hC 9 (.int .u64 ot.1)).other n_hM_hC 10 (.int .i64 ot.2)
  replace hA := (hA.other n_hA_hC 9 (.int .u64 ot.1)).other n_hA_hC 10 (.int .i64 ot.2)
  replace hB := (hB.other n_hB_hC 9 (.int .u64 ot.1)).other n_hB_hC 10 (.int .i64 ot.2)
  generalize World.setCell (World.setCell _ _ _) _ _ = w12 at *
  replace hC : Box w12 gc (msK.enc m4) 31 := by rw [hm4.out]; exact hC
  go_wp2_with (guard_target =~ wpList _ _ _ (⟨some 58, _, _, _, _, _⟩ :: _) _ _; refine msT.load (op := ⟨some 58, .load _ _, _, _, _, _⟩) (by rfl) _ (by rfl) gb 0 (by rfl) (m3) hB.rangeK ?_)
  refine (HP gx ⟨me, 0, some k, some 5, none, false⟩ m3 20 w12 hX ok3).mono ?_
  rintro e w13 ⟨rfl, h9, oq⟩
  replace hP := hP.only oq n_hP_hX
  replace hQ := hQ.only oq n_hQ_hX
  replace hO := hO.only oq n_hO_hX
  replace hM := hM.only oq (Ne.symm n_hX_hM)
  replace hA := hA.only oq (Ne.symm n_hX_hA)
  replace hB := hB.only oq (Ne.symm n_hX_hB)
  replace hC := hC.only oq (Ne.symm n_hX_hC)
  replace hb := Only.below hb oq l_hX hb.size
  replace hX := h9
  clear h9 oq
  rw [b4.1]
  rw [b4.2] at hX
  have o0 : w13.cell? ⟨G + 1 + 1, 0, none⟩ = some (.int .u64 ot.1) := hO.cell 0 _ rfl
  have o1 : w13.cell? ⟨G + 1 + 1, 1, none⟩ = some (.int .i64 ot.2) := hO.cell 1 _ rfl
  have p0 : w13.cell? ⟨G, 0, none⟩ = some (.int .u64 me.1) := hP.cell 0 _ rfl
  have p1 : w13.cell? ⟨G, 1, none⟩ = some (.int .i64 me.2) := hP.cell 1 _ rfl
  by_cases h1 : ot.1 = me.1
  · by_cases h2 : ot.2 = me.2
    · rw [h1] at o0
      rw [h2] at o1
      go_wp2_with (guard_target =~ wpList _ _ _ (⟨some 71, _, _, _, _, _⟩ :: _) _ _; refine msT.load (op := ⟨some 71, .load _ _, _, _, _, _⟩) (by rfl) _ (by rfl) ga 0 (by rfl) (m2) hA.rangeK ?_)
      clear o0 o1 p0 p1
      refine (HP gx ⟨me, 0, some k, some 5, none, false⟩ m2 20 w13 hX ok2).mono ?_
      rintro e w14 ⟨rfl, h9, oq⟩
      replace hP := hP.only oq n_hP_hX
      replace hQ := hQ.only oq n_hQ_hX
      replace hO := hO.only oq n_hO_hX
      replace hM := hM.only oq (Ne.symm n_hX_hM)
      replace hA := hA.only oq (Ne.symm n_hX_hA)
      replace hB := hB.only oq (Ne.symm n_hX_hB)
      replace hC := hC.only oq (Ne.symm n_hX_hC)
      replace hb := Only.below hb oq l_hX hb.size
      replace hX := h9
      clear h9 oq
      rw [b6.1]
      go_wp2_with fail
      refine (awake18_from HNew HR HS HP HF HA HU _).mono ?_
      rintro e wz ⟨rfl, bz⟩
      go_wp2_with fail
      go_ret
      exact ⟨rfl, bnext hb bz⟩
    · have f2 : (ot.2 == me.2) = false := beq_false_of_ne h2
      have rn := pres_no (x := ⟨me, 0, some k, some 5, none, false⟩) (m := m4) (at' := 20) (s := k) (t := 5) rfl rfl (.inr (.inl (by rw [t4.2]; exact h2)))
      rw [h1] at o0
      go_wp2_with (guard_target =~ wpList _ _ _ (⟨some 66, _, _, _, _, _⟩ :: _) _ _; refine msT.load_g (op := ⟨some 66, .load _ _, _, _, _, _⟩) (by rfl) _ (by rfl) gc 0 (by rfl) (m4) hC.rangeK ?_)
      clear o0 o1 p0 p1
      refine (HP gx ⟨me, 0, some k, some 5, none, false⟩ m4 20 w13 hX ok4).mono ?_
      rintro e w14 ⟨rfl, h9, oq⟩
      replace hP := hP.only oq n_hP_hX
      replace hQ := hQ.only oq n_hQ_hX
      replace hO := hO.only oq n_hO_hX
      replace hM := hM.only oq (Ne.symm n_hX_hM)
      replace hA := hA.only oq (Ne.symm n_hX_hA)
      replace hB := hB.only oq (Ne.symm n_hX_hB)
      replace hC := hC.only oq (Ne.symm n_hX_hC)
      replace hb := Only.below hb oq l_hX hb.size
      replace hX := h9
      clear h9 oq
      rw [rn.1]
      rw [rn.2] at hX
      go_wp2_with (guard_target =~ wpList _ _ _ (⟨some 71, _, _, _, _, _⟩ :: _) _ _; refine msT.load (op := ⟨some 71, .load _ _, _, _, _, _⟩) (by rfl) _ (by rfl) ga 0 (by rfl) (m2) hA.rangeK ?_)
      refine (HP gx ⟨me, 0, some k, some 5, none, false⟩ m2 20 w14 hX ok2).mono ?_
      rintro e w15 ⟨rfl, h9, oq⟩
      replace hP := hP.only oq n_hP_hX
      replace hQ := hQ.only oq n_hQ_hX
      replace hO := hO.only oq n_hO_hX
      replace hM := hM.only oq (Ne.symm n_hX_hM)
      replace hA := hA.only oq (Ne.symm n_hX_hA)
      replace hB := hB.only oq (Ne.symm n_hX_hB)
      replace hC := hC.only oq (Ne.symm n_hX_hC)
      replace hb := Only.below hb oq l_hX hb.size
      replace hX := h9
      clear h9 oq
      rw [b6.1]
      go_wp2_with fail
      refine (awake18_from HNew HR HS HP HF HA HU _).mono ?_
      rintro e wz ⟨rfl, bz⟩
      go_wp2_with fail
      go_ret
      exact ⟨rfl, bnext hb bz⟩
  · have f1 : (ot.1 == me.1) = false := beq_false_of_ne h1
    have rn := pres_no (x := ⟨me, 0, some k, some 5, none, false⟩) (m := m4) (at' := 20) (s := k) (t := 5) rfl rfl (.inl (by rw [t4.1]; exact h1))
    go_wp2_with (guard_target =~ wpList _ _ _ (⟨some 66, _, _, _, _, _⟩ :: _) _ _; refine msT.load_g (op := ⟨some 66, .load _ _, _, _, _, _⟩) (by rfl) _ (by rfl) gc 0 (by rfl) (m4) hC.rangeK ?_)
    clear o0 o1 p0 p1
    refine (HP gx ⟨me, 0, some k, some 5, none, false⟩ m4 20 w13 hX ok4).mono ?_
    rintro e w14 ⟨rfl, h9, oq⟩
    replace hP := hP.only oq n_hP_hX
    replace hQ := hQ.only oq n_hQ_hX
    replace hO := hO.only oq n_hO_hX
    replace hM := hM.only oq (Ne.symm n_hX_hM)
    replace hA := hA.only oq (Ne.symm n_hX_hA)
    replace hB := hB.only oq (Ne.symm n_hX_hB)
    replace hC := hC.only oq (Ne.symm n_hX_hC)
    replace hb := Only.below hb oq l_hX hb.size
    replace hX := h9
    clear h9 oq
    rw [rn.1]
    rw [rn.2] at hX
    go_wp2_with (guard_target =~ wpList _ _ _ (⟨some 71, _, _, _, _, _⟩ :: _) _ _; refine msT.load (op := ⟨some 71, .load _ _, _, _, _, _⟩) (by rfl) _ (by rfl) ga 0 (by rfl) (m2) hA.rangeK ?_)
    refine (HP gx ⟨me, 0, some k, some 5, none, false⟩ m2 20 w14 hX ok2).mono ?_
    rintro e w15 ⟨rfl, h9, oq⟩
    replace hP := hP.only oq n_hP_hX
    replace hQ := hQ.only oq n_hQ_hX
    replace hO := hO.only oq n_hO_hX
    replace hM := hM.only oq (Ne.symm n_hX_hM)
    replace hA := hA.only oq (Ne.symm n_hX_hA)
    replace hB := hB.only oq (Ne.symm n_hX_hB)
    replace hC := hC.only oq (Ne.symm n_hX_hC)
    replace hb := Only.below hb oq l_hX hb.size
    replace hX := h9
    clear h9 oq
    rw [b6.1]
    go_wp2_with fail
    refine (awake18_from HNew HR HS HP HF HA HU _).mono ?_
    rintro e wz ⟨rfl, bz⟩
    go_wp2_with fail
    go_ret
    exact ⟨rfl, bnext hb bz⟩

end Go.Proofs.Ytelonfmmcpgodaa
