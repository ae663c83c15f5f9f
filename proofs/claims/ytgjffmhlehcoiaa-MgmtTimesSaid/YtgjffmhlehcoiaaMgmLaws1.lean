/- carillonlaw22: awake, Faults, from contracts (gen_mgmlaws.py). -/
import Derived.Test.YtgjffmhlehcoiaaMgm
import Derived.Test.YtgjffmhlehcoiaaMgmChk
import Derived.Test.YtgjffmhlehcoiaaBuild
namespace Go.Proofs.Ytgjffmhlehcoiaa
open Go.RowKit Go.Proofs
set_option maxRecDepth 50000
set_option linter.unusedVariables false
set_option linter.unusedSimpArgs false

def CDefM : Prop := ∀ (cl : Int) (w : World), 0 ≤ cl ∧ cl < 18446744073709551616 →
  Calls Try.prog 17 #[.int .u64 cl] w fun e w' => e = .returned (.agg (cfL (defC cl)).toArray) ∧ Below w.heap.size w w'
theorem zeroP_in : PaIn zeroP := by unfold PaIn zeroP I64 U64; decide
theorem i640 : I64 0 := by unfold I64; decide
theorem vw0_in {c : Cf} (h : CfOk c) (hu : 0 ≤ c.cl ∧ c.cl < 18446744073709551616) : VwIn (vw0 c) := ⟨h, by unfold U64; exact hu, zeroP_in, i640, i640, i640, i640, i640, i640⟩
theorem same_cf (c : Cf) (w : World) : (Op.equalIn 10000 28 (.agg (cfK.enc c).toArray) (.agg (cfK.enc c).toArray)).run Try.prog w = .ok true w := same_conf c w
theorem ans_says (v : Vw) (a id : Int) (data : List UInt8) : ((ansP v a id data).e ≠ 0 → (ansP v a id data).s = [] ∧ (ansP v a id data).c = v.c) ∧ (a ≠ 1 → (ansP v a id data).c = v.c) ∧ (knownI id = false → (ansP v a id data).e = 2) ∧ (knownI id = true → a ≠ 0 → a ≠ 1 → a ≠ 3 → (ansP v a id data).e = 6) := by
  have hk : ∀ b, knownI id = b → (sizeI id < 0 ↔ b = false) := by
    intro b h
    unfold knownI at h
    cases b
    · have := of_decide_eq_false h
      exact ⟨fun _ => rfl, fun _ => by omega⟩
    · have := of_decide_eq_true h
      exact ⟨fun _ => by omega, fun h => by cases h⟩
  refine ⟨?_, ?_, ?_, ?_⟩
  · unfold ansP setA
    repeat' split
    all_goals first | (intro h; exact absurd rfl h) | (intro _; exact ⟨rfl, rfl⟩)
  · intro ha
    unfold ansP setA
    repeat' split
    all_goals first | rfl | (exfalso; omega)
  · intro h
    unfold ansP
    rw [if_pos ((hk _ h).2 rfl)]
  · intro h h0 h1 h3
    unfold ansP
    rw [if_neg (fun hh => by have := (hk _ h).1 hh; cases this), if_pos ⟨h0, h1, h3⟩]
theorem ans_prio (v : Vw) (data : List UInt8) : ((ansP v 1 8197 data).e == 3) = ((data.length : Int) != 2) := by
  have hs : sizeI 8197 = 2 := by decide
  have hc : cmdB 8197 = false := by decide
  have hf : fixB 8197 = false := by decide
  have e : ansP v 1 8197 data = if (data.length : Int) ≠ 2 then ⟨[], v.c, 3⟩ else setA v 8197 (setM v.c 8197 data) := by
    unfold ansP
    rw [hs, hc, hf, if_neg (by decide), if_neg (by decide), if_neg (by decide), if_neg (by decide), if_neg (by decide), if_neg (by decide), if_neg (show ¬ (1 : Int) = 3 by decide)]
  rw [e]
  by_cases h : (data.length : Int) = 2
  · rw [if_neg (fun hh => hh h), h]
    unfold setA
    split <;> rfl
  · rw [if_pos h, bne_iff_ne.2 h]
    rfl
theorem ans_def (v : Vw) (data : List UInt8) : (ansP v 1 8192 data).e = 5 := by
  have hs : sizeI 8192 = 20 := by decide
  have hc : cmdB 8192 = false := by decide
  have hf : fixB 8192 = true := by decide
  unfold ansP
  rw [hs, hc, hf]
  simp

set_option maxRecDepth 100000 in
set_option maxHeartbeats 8000000 in
theorem awake22_from (HDef : CDefM) (HAns : CAnsM) (HKno : CKnoM) (HPer : CPerM) (w : World) : Calls Try.prog 10 #[] w fun e w' => e = .returned (.bool true) ∧ Below w.heap.size w w' := by
  have hAA : ansP (vw0 (defC 1)) 0 8197 [] = ⟨[128, 0], defC 1, 0⟩ := by kernel_rfl
  have hin : VwIn (vw0 (defC 1)) := vw0_in (by decide) (by decide)
  have HA := fun w => HAns (vw0 (defC 1)) 0 8197 [] w hin (by decide)
  rw [hAA] at HA
  obtain ⟨C, hC⟩ : ∃ C, defC 1 = C := ⟨_, rfl⟩
  have HD := fun w => HDef 1 w (by decide)
  rw [hC] at HA HD
  have k1 : knownI 8207 = true := by decide
  have k2 : perB 8196 = true := by decide
  have k3 : knownI 1 = false := by decide
  clear hAA hin hC
  go_enter Try.func10, Try.ntmps10
  go_wp2_with fail
  refine (HD _).mono ?_
  rintro e w1 ⟨rfl, bq⟩
  have hb := bq
  clear bq
  go_wp2_with (guard_target =~ wpList _ _ _ (⟨some 6, _, _, _, _, _⟩ :: _) _ _; refine wpList_build_any (op := ⟨some 6, .build _ _, _, _, _, _⟩) (by rfl) _ _ (by rfl) _ (by rfl) (vwL (vw0 C)).toArray (by kernel_rfl) ?_)
  refine (HA w1).mono ?_
  rintro e w2 ⟨rfl, bq⟩
  replace hb := bnext hb bq
  clear bq
  have hn1 := bnew w2 (Obj.cells (cfK.enc (zeroC)).toArray 28)
  have hM0 := Box.new w2 (cfK.enc (zeroC)) 28
  go_upto_region 2 with (guard_target =~ wpList _ _ _ (⟨none, _, _, _, _, _⟩ :: _) _ _; refine cfT.store (op := ⟨none, .store _ _ _, _, _, _, _⟩) (by rfl) _ _ (by rfl) (w2.heap.size) (C) (zeroC) _ (by rfl) (by rfl) hM0 ?_)
  have l_D : w.heap.size ≤ w2.heap.size := Nat.le_trans hb.size (Nat.le_refl w2.heap.size)
  have D := hM0.rowK (cfK.enc (C))
  have hW := below_setRow hn1 (Nat.le_refl _) (cfK.enc (C)).toArray
  replace hb := bnext hb hW
  change Code.wp Try.prog _ _ _ ((w2.alloc (Obj.cells (cfK.enc (zeroC)).toArray 28)).setRow w2.heap.size (cfK.enc (C)).toArray)
  generalize (w2.alloc (Obj.cells (cfK.enc (zeroC)).toArray 28)).setRow w2.heap.size (cfK.enc (C)).toArray = w3 at *
  clear hn1 hM0 hW
  generalize w2.heap.size = g1 at *
  go_wp2_with fail
  refine (HKno 8207 w3).mono ?_
  rintro e w4 ⟨rfl, bq⟩
  replace D := D.below bq
  replace hb := bnext hb bq
  clear bq
  rw [k1]
  go_wp2_with fail
  refine (HPer 8196 w4).mono ?_
  rintro e w5 ⟨rfl, bq⟩
  replace D := D.below bq
  replace hb := bnext hb bq
  clear bq
  rw [k2]
  go_wp2_with fail
  refine (HKno 1 w5).mono ?_
  rintro e w6 ⟨rfl, bq⟩
  replace D := D.below bq
  replace hb := bnext hb bq
  clear bq
  rw [k3]
  go_wp2_with fail
  go_ret
  exact ⟨rfl, hb⟩

set_option maxRecDepth 100000 in
set_option maxHeartbeats 8000000 in
theorem mgmtFaults_from (HDef : CDefM) (HAns : CAnsM) (HKno : CKnoM) (HPer : CPerM) (c : Cf) (hc : ((0 ≤ c.cl ∧ c.cl < 18446744073709551616) ∧ ∀ x ∈ [c.po, c.dm, c.p1, c.p2, c.qc, c.qa, c.qv, c.la, c.ls, c.ld, c.tm, c.md, c.kp, c.ki, c.st, c.ut, c.fl, c.og], -9223372036854775808 ≤ x ∧ x ≤ 9223372036854775807)) (id ac : Int) (data : List UInt8) (w : World) :
    Calls Try.prog 4 #[.agg (cfL c).toArray, .int .i64 id, .int .i64 ac, .string ⟨data.toArray⟩] w fun e w' => e = .returned (.bool true) ∧ Below w.heap.size w w' := by
  have z0 := bnew w (Obj.cells (cfK.enc c).toArray 28)
  have C := Box.new w (cfK.enc c) 28
  have hb := z0
  clear z0
  go_enter Try.func4, Try.ntmps4
  go_upto_region 1 with fail
  change Code.wp Try.prog _ _ _ (w.alloc (Obj.cells (cfK.enc c).toArray 28))
  generalize (w.alloc (Obj.cells (cfK.enc c).toArray 28)) = W at *
  generalize hG : w.heap.size = G at *
  rw [← hG] at hb
  have l_C : w.heap.size ≤ G := by omega
  go_wp2_with (guard_target =~ wpList _ _ _ (⟨some 18, _, _, _, _, _⟩ :: _) _ _; refine cfT.load (op := ⟨some 18, .load _ _, _, _, _, _⟩) (by rfl) _ (by rfl) G 0 (by rfl) (c) C.rangeK ?_)
  refine (refChk10_any c W).mono ?_
  rintro e w1 ⟨rfl, bq⟩
  replace C := C.below bq
  replace hb := bnext hb bq
  clear bq
  by_cases hok : CfOk c
  case neg =>
    have hE : checkE c = 15 := if_neg hok
    rw [hE]
    clear hE hok
    go_wp2_with fail
    refine (awake22_from HDef HAns HKno HPer _).mono ?_
    rintro e wz ⟨rfl, bz⟩
    go_wp2_with fail
    go_ret
    exact ⟨rfl, bnext hb bz⟩
  have hE : checkE c = 0 := if_pos hok
  rw [hE]
  clear hE
  by_cases hl : data.length ≤ 300
  case neg =>
    have hlI : ¬ (data.length : Int) ≤ 300 := by omega
    have hlJ : (300 : Int) < (data.length : Int) := by omega
    go_wp2_with fail
    refine (awake22_from HDef HAns HKno HPer _).mono ?_
    rintro e wz ⟨rfl, bz⟩
    go_wp2_with fail
    go_ret
    exact ⟨rfl, bnext hb bz⟩
  have hlI : (data.length : Int) ≤ 300 := by omega
  have hin := vw0_in hok hc.1
  have HA := fun w => HAns (vw0 c) ac id data w hin hl
  have HB1 := fun w => HAns (vw0 c) 1 8197 data w hin hl
  have HB2 := fun w => HAns (vw0 c) 1 8192 data w hin hl
  have hd1 := ans_prio (vw0 c) data
  have hd2 := ans_def (vw0 c) data
  obtain ⟨hF1, hF2, hF3, hF4⟩ := ans_says (vw0 c) ac id data
  obtain ⟨A, hA⟩ : ∃ A : An, ansP (vw0 c) ac id data = A := ⟨_, rfl⟩
  obtain ⟨B1, hB1⟩ : ∃ A : An, ansP (vw0 c) 1 8197 data = A := ⟨_, rfl⟩
  obtain ⟨B2, hB2⟩ : ∃ A : An, ansP (vw0 c) 1 8192 data = A := ⟨_, rfl⟩
  rw [hA] at HA hF1 hF2 hF3 hF4
  rw [hB1] at HB1 hd1
  rw [hB2] at HB2 hd2
  replace hF1 : A.e ≠ 0 → A.s = [] ∧ A.c = c := hF1
  replace hF2 : ac ≠ 1 → A.c = c := hF2
  replace hF1 := hid hF1
  replace hF2 := hid hF2
  replace hF3 := hid hF3
  replace hF4 := hid hF4
  clear hA hB1 hB2 hin hok hl
  go_wp2_with (first | (guard_target =~ wpList _ _ _ (⟨some 28, _, _, _, _, _⟩ :: _) _ _; refine cfT.load (op := ⟨some 28, .load _ _, _, _, _, _⟩) (by rfl) _ (by rfl) G 0 (by rfl) (c) C.rangeK ?_) | (guard_target =~ wpList _ _ _ (⟨some 29, _, _, _, _, _⟩ :: _) _ _; refine wpList_build_any (op := ⟨some 29, .build _ _, _, _, _, _⟩) (by rfl) _ _ (by rfl) _ (by rfl) (vwL (vw0 c)).toArray (by kernel_rfl) ?_))
  refine (HA w1).mono ?_
  rintro e w2 ⟨rfl, bq⟩
  replace C := C.below bq
  replace hb := bnext hb bq
  clear bq
  have hn1 := bnew w2 (Obj.cells (cfK.enc (zeroC)).toArray 28)
  have hM0 := Box.new w2 (cfK.enc (zeroC)) 28
  go_upto_region 4 with (guard_target =~ wpList _ _ _ (⟨none, _, _, _, _, _⟩ :: _) _ _; refine cfT.store (op := ⟨none, .store _ _ _, _, _, _, _⟩) (by rfl) _ _ (by rfl) (w2.heap.size) (A.c) (zeroC) _ (by rfl) (by rfl) hM0 ?_)
  have n_C_D : G ≠ w2.heap.size := by have h1 := C.lt; have h2 := Nat.le_refl w2.heap.size; omega
  have l_D : w.heap.size ≤ w2.heap.size := Nat.le_trans hb.size (Nat.le_refl w2.heap.size)
  have D := hM0.rowK (cfK.enc (A.c))
  replace C := (C.below hn1).rowK_other (k := w2.heap.size) n_C_D (cfK.enc (A.c)).toArray
  have hW := below_setRow hn1 (Nat.le_refl _) (cfK.enc (A.c)).toArray
  replace hb := bnext hb hW
  change Code.wp Try.prog _ _ _ ((w2.alloc (Obj.cells (cfK.enc (zeroC)).toArray 28)).setRow w2.heap.size (cfK.enc (A.c)).toArray)
  generalize (w2.alloc (Obj.cells (cfK.enc (zeroC)).toArray 28)).setRow w2.heap.size (cfK.enc (A.c)).toArray = w3 at *
  clear hn1 hM0 hW
  generalize w2.heap.size = g1 at *
  clear HA
  rcases (by omega : ac = 1 ∨ ac = 0 ∨ ac = 3 ∨ (ac ≠ 0 ∧ ac ≠ 1 ∧ ac ≠ 3)) with rfl | rfl | rfl | ⟨h0, h1, h3⟩
  · by_cases he : A.e = 0
    · have b1 : (A.e != 0) = false := by rw [he]; rfl
      have sm := same_cf c
      have HE := hid he
      clear he
      go_wp2_with fail
      refine (HKno id w3).mono ?_
      rintro e wk ⟨rfl, bq⟩
      replace C := C.below bq
      replace D := D.below bq
      replace hb := bnext hb bq
      clear bq
      cases hk : knownI id
      case false =>
        have e2 := hF3.out hk
        exact absurd (HE.out.symm.trans e2) (by decide)
      case true =>
        clear hk
        go_wp2_with (first | (guard_target =~ wpList _ _ _ (⟨some 81, _, _, _, _, _⟩ :: _) _ _; refine cfT.load (op := ⟨some 81, .load _ _, _, _, _, _⟩) (by rfl) _ (by rfl) G 0 (by rfl) (c) C.rangeK ?_) | (guard_target =~ wpList _ _ _ (⟨some 82, _, _, _, _, _⟩ :: _) _ _; refine wpList_build_any (op := ⟨some 82, .build _ _, _, _, _, _⟩) (by rfl) _ _ (by rfl) _ (by rfl) (vwL (vw0 c)).toArray (by kernel_rfl) ?_))
        refine (HB1 wk).mono ?_
        rintro e w1 ⟨rfl, bq⟩
        replace C := C.below bq
        replace D := D.below bq
        replace hb := bnext hb bq
        clear bq
        have hn1 := bnew w1 (Obj.cells (cfK.enc (zeroC)).toArray 28)
        have hM0 := Box.new w1 (cfK.enc (zeroC)) 28
        go_upto_region 11 with (guard_target =~ wpList _ _ _ (⟨none, _, _, _, _, _⟩ :: _) _ _; refine cfT.store (op := ⟨none, .store _ _ _, _, _, _, _⟩) (by rfl) _ _ (by rfl) (w1.heap.size) (B1.c) (zeroC) _ (by rfl) (by rfl) hM0 ?_)
        have n_C_E1 : G ≠ w1.heap.size := by have h1 := C.lt; have h2 := Nat.le_refl w1.heap.size; omega
        have n_D_E1 : g1 ≠ w1.heap.size := by have h1 := D.lt; have h2 := Nat.le_refl w1.heap.size; omega
        have l_E1 : w.heap.size ≤ w1.heap.size := Nat.le_trans hb.size (Nat.le_refl w1.heap.size)
        have E1 := hM0.rowK (cfK.enc (B1.c))
        replace C := (C.below hn1).rowK_other (k := w1.heap.size) n_C_E1 (cfK.enc (B1.c)).toArray
        replace D := (D.below hn1).rowK_other (k := w1.heap.size) n_D_E1 (cfK.enc (B1.c)).toArray
        have hW := below_setRow hn1 (Nat.le_refl _) (cfK.enc (B1.c)).toArray
        replace hb := bnext hb hW
        change Code.wp Try.prog _ _ _ ((w1.alloc (Obj.cells (cfK.enc (zeroC)).toArray 28)).setRow w1.heap.size (cfK.enc (B1.c)).toArray)
        generalize (w1.alloc (Obj.cells (cfK.enc (zeroC)).toArray 28)).setRow w1.heap.size (cfK.enc (B1.c)).toArray = w2 at *
        clear hn1 hM0 hW
        generalize w1.heap.size = g2 at *
        go_wp2_with (first | (guard_target =~ wpList _ _ _ (⟨some 89, _, _, _, _, _⟩ :: _) _ _; refine cfT.load (op := ⟨some 89, .load _ _, _, _, _, _⟩) (by rfl) _ (by rfl) G 0 (by rfl) (c) C.rangeK ?_) | (guard_target =~ wpList _ _ _ (⟨some 90, _, _, _, _, _⟩ :: _) _ _; refine wpList_build_any (op := ⟨some 90, .build _ _, _, _, _, _⟩) (by rfl) _ _ (by rfl) _ (by rfl) (vwL (vw0 c)).toArray (by kernel_rfl) ?_))
        refine (HB2 w2).mono ?_
        rintro e w3 ⟨rfl, bq⟩
        replace C := C.below bq
        replace D := D.below bq
        replace E1 := E1.below bq
        replace hb := bnext hb bq
        clear bq
        have hn1 := bnew w3 (Obj.cells (cfK.enc (zeroC)).toArray 28)
        have hM0 := Box.new w3 (cfK.enc (zeroC)) 28
        go_upto_region 12 with (guard_target =~ wpList _ _ _ (⟨none, _, _, _, _, _⟩ :: _) _ _; refine cfT.store (op := ⟨none, .store _ _ _, _, _, _, _⟩) (by rfl) _ _ (by rfl) (w3.heap.size) (B2.c) (zeroC) _ (by rfl) (by rfl) hM0 ?_)
        have n_C_E2 : G ≠ w3.heap.size := by have h1 := C.lt; have h2 := Nat.le_refl w3.heap.size; omega
        have n_D_E2 : g1 ≠ w3.heap.size := by have h1 := D.lt; have h2 := Nat.le_refl w3.heap.size; omega
        have n_E1_E2 : g2 ≠ w3.heap.size := by have h1 := E1.lt; have h2 := Nat.le_refl w3.heap.size; omega
        have l_E2 : w.heap.size ≤ w3.heap.size := Nat.le_trans hb.size (Nat.le_refl w3.heap.size)
        have E2 := hM0.rowK (cfK.enc (B2.c))
        replace C := (C.below hn1).rowK_other (k := w3.heap.size) n_C_E2 (cfK.enc (B2.c)).toArray
        replace D := (D.below hn1).rowK_other (k := w3.heap.size) n_D_E2 (cfK.enc (B2.c)).toArray
        replace E1 := (E1.below hn1).rowK_other (k := w3.heap.size) n_E1_E2 (cfK.enc (B2.c)).toArray
        have hW := below_setRow hn1 (Nat.le_refl _) (cfK.enc (B2.c)).toArray
        replace hb := bnext hb hW
        change Code.wp Try.prog _ _ _ ((w3.alloc (Obj.cells (cfK.enc (zeroC)).toArray 28)).setRow w3.heap.size (cfK.enc (B2.c)).toArray)
        generalize (w3.alloc (Obj.cells (cfK.enc (zeroC)).toArray 28)).setRow w3.heap.size (cfK.enc (B2.c)).toArray = w4 at *
        clear hn1 hM0 hW
        generalize w3.heap.size = g3 at *
        by_cases hl2 : (data.length : Int) = 2
        · have q1 : (B1.e == 3) = false := by rw [hd1, hl2]; rfl
          have q2 : ((data.length : Int) != 2) = false := by rw [hl2]; rfl
          clear hl2 hd1
          go_wp2_with fail
          refine (awake22_from HDef HAns HKno HPer _).mono ?_
          rintro e wz ⟨rfl, bz⟩
          go_wp2_with fail
          go_ret
          exact ⟨rfl, bnext hb bz⟩
        · have q2 : ((data.length : Int) != 2) = true := bne_iff_ne.2 hl2
          have q1 : (B1.e == 3) = true := by rw [hd1, q2]
          clear hl2 hd1
          go_wp2_with fail
          refine (awake22_from HDef HAns HKno HPer _).mono ?_
          rintro e wz ⟨rfl, bz⟩
          go_wp2_with fail
          go_ret
          exact ⟨rfl, bnext hb bz⟩
    · have b1 : (A.e != 0) = true := bne_iff_ne.2 he
      obtain ⟨hs, hcc⟩ := hF1.out he
      rw [hs]
      rw [hcc] at D
      have sm := same_cf c
      have HE := hid he
      clear he hcc hs
      go_wp2_with (first | (guard_target =~ wpList _ _ _ (⟨some 43, _, _, _, _, _⟩ :: _) _ _; refine cfT.load_g (op := ⟨some 43, .load _ _, _, _, _, _⟩) (by rfl) _ (by rfl) g1 0 (by rfl) (c) D.rangeK ?_) | (guard_target =~ wpList _ _ _ (⟨some 44, _, _, _, _, _⟩ :: _) _ _; refine cfT.load_g (op := ⟨some 44, .load _ _, _, _, _, _⟩) (by rfl) _ (by rfl) G 0 (by rfl) (c) C.rangeK ?_))
      refine (HKno id w3).mono ?_
      rintro e wk ⟨rfl, bq⟩
      replace C := C.below bq
      replace D := D.below bq
      replace hb := bnext hb bq
      clear bq
      cases hk : knownI id
      case false =>
        have e2 := hF3.out hk
        rw [e2]
        clear hk e2 b1
        go_wp2_with fail
        refine (awake22_from HDef HAns HKno HPer _).mono ?_
        rintro e wz ⟨rfl, bz⟩
        go_wp2_with fail
        go_ret
        exact ⟨rfl, bnext hb bz⟩
      case true =>
        clear hk
        go_wp2_with (first | (guard_target =~ wpList _ _ _ (⟨some 81, _, _, _, _, _⟩ :: _) _ _; refine cfT.load (op := ⟨some 81, .load _ _, _, _, _, _⟩) (by rfl) _ (by rfl) G 0 (by rfl) (c) C.rangeK ?_) | (guard_target =~ wpList _ _ _ (⟨some 82, _, _, _, _, _⟩ :: _) _ _; refine wpList_build_any (op := ⟨some 82, .build _ _, _, _, _, _⟩) (by rfl) _ _ (by rfl) _ (by rfl) (vwL (vw0 c)).toArray (by kernel_rfl) ?_))
        refine (HB1 wk).mono ?_
        rintro e w1 ⟨rfl, bq⟩
        replace C := C.below bq
        replace D := D.below bq
        replace hb := bnext hb bq
        clear bq
        have hn1 := bnew w1 (Obj.cells (cfK.enc (zeroC)).toArray 28)
        have hM0 := Box.new w1 (cfK.enc (zeroC)) 28
        go_upto_region 11 with (guard_target =~ wpList _ _ _ (⟨none, _, _, _, _, _⟩ :: _) _ _; refine cfT.store (op := ⟨none, .store _ _ _, _, _, _, _⟩) (by rfl) _ _ (by rfl) (w1.heap.size) (B1.c) (zeroC) _ (by rfl) (by rfl) hM0 ?_)
        have n_C_E1 : G ≠ w1.heap.size := by have h1 := C.lt; have h2 := Nat.le_refl w1.heap.size; omega
        have n_D_E1 : g1 ≠ w1.heap.size := by have h1 := D.lt; have h2 := Nat.le_refl w1.heap.size; omega
        have l_E1 : w.heap.size ≤ w1.heap.size := Nat.le_trans hb.size (Nat.le_refl w1.heap.size)
        have E1 := hM0.rowK (cfK.enc (B1.c))
        replace C := (C.below hn1).rowK_other (k := w1.heap.size) n_C_E1 (cfK.enc (B1.c)).toArray
        replace D := (D.below hn1).rowK_other (k := w1.heap.size) n_D_E1 (cfK.enc (B1.c)).toArray
        have hW := below_setRow hn1 (Nat.le_refl _) (cfK.enc (B1.c)).toArray
        replace hb := bnext hb hW
        change Code.wp Try.prog _ _ _ ((w1.alloc (Obj.cells (cfK.enc (zeroC)).toArray 28)).setRow w1.heap.size (cfK.enc (B1.c)).toArray)
        generalize (w1.alloc (Obj.cells (cfK.enc (zeroC)).toArray 28)).setRow w1.heap.size (cfK.enc (B1.c)).toArray = w2 at *
        clear hn1 hM0 hW
        generalize w1.heap.size = g2 at *
        go_wp2_with (first | (guard_target =~ wpList _ _ _ (⟨some 89, _, _, _, _, _⟩ :: _) _ _; refine cfT.load (op := ⟨some 89, .load _ _, _, _, _, _⟩) (by rfl) _ (by rfl) G 0 (by rfl) (c) C.rangeK ?_) | (guard_target =~ wpList _ _ _ (⟨some 90, _, _, _, _, _⟩ :: _) _ _; refine wpList_build_any (op := ⟨some 90, .build _ _, _, _, _, _⟩) (by rfl) _ _ (by rfl) _ (by rfl) (vwL (vw0 c)).toArray (by kernel_rfl) ?_))
        refine (HB2 w2).mono ?_
        rintro e w3 ⟨rfl, bq⟩
        replace C := C.below bq
        replace D := D.below bq
        replace E1 := E1.below bq
        replace hb := bnext hb bq
        clear bq
        have hn1 := bnew w3 (Obj.cells (cfK.enc (zeroC)).toArray 28)
        have hM0 := Box.new w3 (cfK.enc (zeroC)) 28
        go_upto_region 12 with (guard_target =~ wpList _ _ _ (⟨none, _, _, _, _, _⟩ :: _) _ _; refine cfT.store (op := ⟨none, .store _ _ _, _, _, _, _⟩) (by rfl) _ _ (by rfl) (w3.heap.size) (B2.c) (zeroC) _ (by rfl) (by rfl) hM0 ?_)
        have n_C_E2 : G ≠ w3.heap.size := by have h1 := C.lt; have h2 := Nat.le_refl w3.heap.size; omega
        have n_D_E2 : g1 ≠ w3.heap.size := by have h1 := D.lt; have h2 := Nat.le_refl w3.heap.size; omega
        have n_E1_E2 : g2 ≠ w3.heap.size := by have h1 := E1.lt; have h2 := Nat.le_refl w3.heap.size; omega
        have l_E2 : w.heap.size ≤ w3.heap.size := Nat.le_trans hb.size (Nat.le_refl w3.heap.size)
        have E2 := hM0.rowK (cfK.enc (B2.c))
        replace C := (C.below hn1).rowK_other (k := w3.heap.size) n_C_E2 (cfK.enc (B2.c)).toArray
        replace D := (D.below hn1).rowK_other (k := w3.heap.size) n_D_E2 (cfK.enc (B2.c)).toArray
        replace E1 := (E1.below hn1).rowK_other (k := w3.heap.size) n_E1_E2 (cfK.enc (B2.c)).toArray
        have hW := below_setRow hn1 (Nat.le_refl _) (cfK.enc (B2.c)).toArray
        replace hb := bnext hb hW
        change Code.wp Try.prog _ _ _ ((w3.alloc (Obj.cells (cfK.enc (zeroC)).toArray 28)).setRow w3.heap.size (cfK.enc (B2.c)).toArray)
        generalize (w3.alloc (Obj.cells (cfK.enc (zeroC)).toArray 28)).setRow w3.heap.size (cfK.enc (B2.c)).toArray = w4 at *
        clear hn1 hM0 hW
        generalize w3.heap.size = g3 at *
        by_cases hl2 : (data.length : Int) = 2
        · have q1 : (B1.e == 3) = false := by rw [hd1, hl2]; rfl
          have q2 : ((data.length : Int) != 2) = false := by rw [hl2]; rfl
          clear hl2 hd1
          go_wp2_with fail
          refine (awake22_from HDef HAns HKno HPer _).mono ?_
          rintro e wz ⟨rfl, bz⟩
          go_wp2_with fail
          go_ret
          exact ⟨rfl, bnext hb bz⟩
        · have q2 : ((data.length : Int) != 2) = true := bne_iff_ne.2 hl2
          have q1 : (B1.e == 3) = true := by rw [hd1, q2]
          clear hl2 hd1
          go_wp2_with fail
          refine (awake22_from HDef HAns HKno HPer _).mono ?_
          rintro e wz ⟨rfl, bz⟩
          go_wp2_with fail
          go_ret
          exact ⟨rfl, bnext hb bz⟩
  · by_cases he : A.e = 0
    · have b1 : (A.e != 0) = false := by rw [he]; rfl
      have hcc := hF2.out (by omega)
      rw [hcc] at D
      have sm := same_cf c
      have HE := hid he
      clear he hcc
      go_wp2_with (first | (guard_target =~ wpList _ _ _ (⟨some 52, _, _, _, _, _⟩ :: _) _ _; refine cfT.load_g (op := ⟨some 52, .load _ _, _, _, _, _⟩) (by rfl) _ (by rfl) g1 0 (by rfl) (c) D.rangeK ?_) | (guard_target =~ wpList _ _ _ (⟨some 53, _, _, _, _, _⟩ :: _) _ _; refine cfT.load_g (op := ⟨some 53, .load _ _, _, _, _, _⟩) (by rfl) _ (by rfl) G 0 (by rfl) (c) C.rangeK ?_))
      refine (HKno id w3).mono ?_
      rintro e wk ⟨rfl, bq⟩
      replace C := C.below bq
      replace D := D.below bq
      replace hb := bnext hb bq
      clear bq
      cases hk : knownI id
      case false =>
        have e2 := hF3.out hk
        exact absurd (HE.out.symm.trans e2) (by decide)
      case true =>
        clear hk
        go_wp2_with (first | (guard_target =~ wpList _ _ _ (⟨some 81, _, _, _, _, _⟩ :: _) _ _; refine cfT.load (op := ⟨some 81, .load _ _, _, _, _, _⟩) (by rfl) _ (by rfl) G 0 (by rfl) (c) C.rangeK ?_) | (guard_target =~ wpList _ _ _ (⟨some 82, _, _, _, _, _⟩ :: _) _ _; refine wpList_build_any (op := ⟨some 82, .build _ _, _, _, _, _⟩) (by rfl) _ _ (by rfl) _ (by rfl) (vwL (vw0 c)).toArray (by kernel_rfl) ?_))
        refine (HB1 wk).mono ?_
        rintro e w1 ⟨rfl, bq⟩
        replace C := C.below bq
        replace D := D.below bq
        replace hb := bnext hb bq
        clear bq
        have hn1 := bnew w1 (Obj.cells (cfK.enc (zeroC)).toArray 28)
        have hM0 := Box.new w1 (cfK.enc (zeroC)) 28
        go_upto_region 11 with (guard_target =~ wpList _ _ _ (⟨none, _, _, _, _, _⟩ :: _) _ _; refine cfT.store (op := ⟨none, .store _ _ _, _, _, _, _⟩) (by rfl) _ _ (by rfl) (w1.heap.size) (B1.c) (zeroC) _ (by rfl) (by rfl) hM0 ?_)
        have n_C_E1 : G ≠ w1.heap.size := by have h1 := C.lt; have h2 := Nat.le_refl w1.heap.size; omega
        have n_D_E1 : g1 ≠ w1.heap.size := by have h1 := D.lt; have h2 := Nat.le_refl w1.heap.size; omega
        have l_E1 : w.heap.size ≤ w1.heap.size := Nat.le_trans hb.size (Nat.le_refl w1.heap.size)
        have E1 := hM0.rowK (cfK.enc (B1.c))
        replace C := (C.below hn1).rowK_other (k := w1.heap.size) n_C_E1 (cfK.enc (B1.c)).toArray
        replace D := (D.below hn1).rowK_other (k := w1.heap.size) n_D_E1 (cfK.enc (B1.c)).toArray
        have hW := below_setRow hn1 (Nat.le_refl _) (cfK.enc (B1.c)).toArray
        replace hb := bnext hb hW
        change Code.wp Try.prog _ _ _ ((w1.alloc (Obj.cells (cfK.enc (zeroC)).toArray 28)).setRow w1.heap.size (cfK.enc (B1.c)).toArray)
        generalize (w1.alloc (Obj.cells (cfK.enc (zeroC)).toArray 28)).setRow w1.heap.size (cfK.enc (B1.c)).toArray = w2 at *
        clear hn1 hM0 hW
        generalize w1.heap.size = g2 at *
        go_wp2_with (first | (guard_target =~ wpList _ _ _ (⟨some 89, _, _, _, _, _⟩ :: _) _ _; refine cfT.load (op := ⟨some 89, .load _ _, _, _, _, _⟩) (by rfl) _ (by rfl) G 0 (by rfl) (c) C.rangeK ?_) | (guard_target =~ wpList _ _ _ (⟨some 90, _, _, _, _, _⟩ :: _) _ _; refine wpList_build_any (op := ⟨some 90, .build _ _, _, _, _, _⟩) (by rfl) _ _ (by rfl) _ (by rfl) (vwL (vw0 c)).toArray (by kernel_rfl) ?_))
        refine (HB2 w2).mono ?_
        rintro e w3 ⟨rfl, bq⟩
        replace C := C.below bq
        replace D := D.below bq
        replace E1 := E1.below bq
        replace hb := bnext hb bq
        clear bq
        have hn1 := bnew w3 (Obj.cells (cfK.enc (zeroC)).toArray 28)
        have hM0 := Box.new w3 (cfK.enc (zeroC)) 28
        go_upto_region 12 with (guard_target =~ wpList _ _ _ (⟨none, _, _, _, _, _⟩ :: _) _ _; refine cfT.store (op := ⟨none, .store _ _ _, _, _, _, _⟩) (by rfl) _ _ (by rfl) (w3.heap.size) (B2.c) (zeroC) _ (by rfl) (by rfl) hM0 ?_)
        have n_C_E2 : G ≠ w3.heap.size := by have h1 := C.lt; have h2 := Nat.le_refl w3.heap.size; omega
        have n_D_E2 : g1 ≠ w3.heap.size := by have h1 := D.lt; have h2 := Nat.le_refl w3.heap.size; omega
        have n_E1_E2 : g2 ≠ w3.heap.size := by have h1 := E1.lt; have h2 := Nat.le_refl w3.heap.size; omega
        have l_E2 : w.heap.size ≤ w3.heap.size := Nat.le_trans hb.size (Nat.le_refl w3.heap.size)
        have E2 := hM0.rowK (cfK.enc (B2.c))
        replace C := (C.below hn1).rowK_other (k := w3.heap.size) n_C_E2 (cfK.enc (B2.c)).toArray
        replace D := (D.below hn1).rowK_other (k := w3.heap.size) n_D_E2 (cfK.enc (B2.c)).toArray
        replace E1 := (E1.below hn1).rowK_other (k := w3.heap.size) n_E1_E2 (cfK.enc (B2.c)).toArray
        have hW := below_setRow hn1 (Nat.le_refl _) (cfK.enc (B2.c)).toArray
        replace hb := bnext hb hW
        change Code.wp Try.prog _ _ _ ((w3.alloc (Obj.cells (cfK.enc (zeroC)).toArray 28)).setRow w3.heap.size (cfK.enc (B2.c)).toArray)
        generalize (w3.alloc (Obj.cells (cfK.enc (zeroC)).toArray 28)).setRow w3.heap.size (cfK.enc (B2.c)).toArray = w4 at *
        clear hn1 hM0 hW
        generalize w3.heap.size = g3 at *
        by_cases hl2 : (data.length : Int) = 2
        · have q1 : (B1.e == 3) = false := by rw [hd1, hl2]; rfl
          have q2 : ((data.length : Int) != 2) = false := by rw [hl2]; rfl
          clear hl2 hd1
          go_wp2_with fail
          refine (awake22_from HDef HAns HKno HPer _).mono ?_
          rintro e wz ⟨rfl, bz⟩
          go_wp2_with fail
          go_ret
          exact ⟨rfl, bnext hb bz⟩
        · have q2 : ((data.length : Int) != 2) = true := bne_iff_ne.2 hl2
          have q1 : (B1.e == 3) = true := by rw [hd1, q2]
          clear hl2 hd1
          go_wp2_with fail
          refine (awake22_from HDef HAns HKno HPer _).mono ?_
          rintro e wz ⟨rfl, bz⟩
          go_wp2_with fail
          go_ret
          exact ⟨rfl, bnext hb bz⟩
    · have b1 : (A.e != 0) = true := bne_iff_ne.2 he
      obtain ⟨hs, hcc⟩ := hF1.out he
      rw [hs]
      rw [hcc] at D
      have sm := same_cf c
      have HE := hid he
      clear he hcc hs
      go_wp2_with (first | (guard_target =~ wpList _ _ _ (⟨some 43, _, _, _, _, _⟩ :: _) _ _; refine cfT.load_g (op := ⟨some 43, .load _ _, _, _, _, _⟩) (by rfl) _ (by rfl) g1 0 (by rfl) (c) D.rangeK ?_) | (guard_target =~ wpList _ _ _ (⟨some 44, _, _, _, _, _⟩ :: _) _ _; refine cfT.load_g (op := ⟨some 44, .load _ _, _, _, _, _⟩) (by rfl) _ (by rfl) G 0 (by rfl) (c) C.rangeK ?_) | (guard_target =~ wpList _ _ _ (⟨some 52, _, _, _, _, _⟩ :: _) _ _; refine cfT.load_g (op := ⟨some 52, .load _ _, _, _, _, _⟩) (by rfl) _ (by rfl) g1 0 (by rfl) (c) D.rangeK ?_) | (guard_target =~ wpList _ _ _ (⟨some 53, _, _, _, _, _⟩ :: _) _ _; refine cfT.load_g (op := ⟨some 53, .load _ _, _, _, _, _⟩) (by rfl) _ (by rfl) G 0 (by rfl) (c) C.rangeK ?_))
      refine (HKno id w3).mono ?_
      rintro e wk ⟨rfl, bq⟩
      replace C := C.below bq
      replace D := D.below bq
      replace hb := bnext hb bq
      clear bq
      cases hk : knownI id
      case false =>
        have e2 := hF3.out hk
        rw [e2]
        clear hk e2 b1
        go_wp2_with fail
        refine (awake22_from HDef HAns HKno HPer _).mono ?_
        rintro e wz ⟨rfl, bz⟩
        go_wp2_with fail
        go_ret
        exact ⟨rfl, bnext hb bz⟩
      case true =>
        clear hk
        go_wp2_with (first | (guard_target =~ wpList _ _ _ (⟨some 81, _, _, _, _, _⟩ :: _) _ _; refine cfT.load (op := ⟨some 81, .load _ _, _, _, _, _⟩) (by rfl) _ (by rfl) G 0 (by rfl) (c) C.rangeK ?_) | (guard_target =~ wpList _ _ _ (⟨some 82, _, _, _, _, _⟩ :: _) _ _; refine wpList_build_any (op := ⟨some 82, .build _ _, _, _, _, _⟩) (by rfl) _ _ (by rfl) _ (by rfl) (vwL (vw0 c)).toArray (by kernel_rfl) ?_))
        refine (HB1 wk).mono ?_
        rintro e w1 ⟨rfl, bq⟩
        replace C := C.below bq
        replace D := D.below bq
        replace hb := bnext hb bq
        clear bq
        have hn1 := bnew w1 (Obj.cells (cfK.enc (zeroC)).toArray 28)
        have hM0 := Box.new w1 (cfK.enc (zeroC)) 28
        go_upto_region 11 with (guard_target =~ wpList _ _ _ (⟨none, _, _, _, _, _⟩ :: _) _ _; refine cfT.store (op := ⟨none, .store _ _ _, _, _, _, _⟩) (by rfl) _ _ (by rfl) (w1.heap.size) (B1.c) (zeroC) _ (by rfl) (by rfl) hM0 ?_)
        have n_C_E1 : G ≠ w1.heap.size := by have h1 := C.lt; have h2 := Nat.le_refl w1.heap.size; omega
        have n_D_E1 : g1 ≠ w1.heap.size := by have h1 := D.lt; have h2 := Nat.le_refl w1.heap.size; omega
        have l_E1 : w.heap.size ≤ w1.heap.size := Nat.le_trans hb.size (Nat.le_refl w1.heap.size)
        have E1 := hM0.rowK (cfK.enc (B1.c))
        replace C := (C.below hn1).rowK_other (k := w1.heap.size) n_C_E1 (cfK.enc (B1.c)).toArray
        replace D := (D.below hn1).rowK_other (k := w1.heap.size) n_D_E1 (cfK.enc (B1.c)).toArray
        have hW := below_setRow hn1 (Nat.le_refl _) (cfK.enc (B1.c)).toArray
        replace hb := bnext hb hW
        change Code.wp Try.prog _ _ _ ((w1.alloc (Obj.cells (cfK.enc (zeroC)).toArray 28)).setRow w1.heap.size (cfK.enc (B1.c)).toArray)
        generalize (w1.alloc (Obj.cells (cfK.enc (zeroC)).toArray 28)).setRow w1.heap.size (cfK.enc (B1.c)).toArray = w2 at *
        clear hn1 hM0 hW
        generalize w1.heap.size = g2 at *
        go_wp2_with (first | (guard_target =~ wpList _ _ _ (⟨some 89, _, _, _, _, _⟩ :: _) _ _; refine cfT.load (op := ⟨some 89, .load _ _, _, _, _, _⟩) (by rfl) _ (by rfl) G 0 (by rfl) (c) C.rangeK ?_) | (guard_target =~ wpList _ _ _ (⟨some 90, _, _, _, _, _⟩ :: _) _ _; refine wpList_build_any (op := ⟨some 90, .build _ _, _, _, _, _⟩) (by rfl) _ _ (by rfl) _ (by rfl) (vwL (vw0 c)).toArray (by kernel_rfl) ?_))
        refine (HB2 w2).mono ?_
        rintro e w3 ⟨rfl, bq⟩
        replace C := C.below bq
        replace D := D.below bq
        replace E1 := E1.below bq
        replace hb := bnext hb bq
        clear bq
        have hn1 := bnew w3 (Obj.cells (cfK.enc (zeroC)).toArray 28)
        have hM0 := Box.new w3 (cfK.enc (zeroC)) 28
        go_upto_region 12 with (guard_target =~ wpList _ _ _ (⟨none, _, _, _, _, _⟩ :: _) _ _; refine cfT.store (op := ⟨none, .store _ _ _, _, _, _, _⟩) (by rfl) _ _ (by rfl) (w3.heap.size) (B2.c) (zeroC) _ (by rfl) (by rfl) hM0 ?_)
        have n_C_E2 : G ≠ w3.heap.size := by have h1 := C.lt; have h2 := Nat.le_refl w3.heap.size; omega
        have n_D_E2 : g1 ≠ w3.heap.size := by have h1 := D.lt; have h2 := Nat.le_refl w3.heap.size; omega
        have n_E1_E2 : g2 ≠ w3.heap.size := by have h1 := E1.lt; have h2 := Nat.le_refl w3.heap.size; omega
        have l_E2 : w.heap.size ≤ w3.heap.size := Nat.le_trans hb.size (Nat.le_refl w3.heap.size)
        have E2 := hM0.rowK (cfK.enc (B2.c))
        replace C := (C.below hn1).rowK_other (k := w3.heap.size) n_C_E2 (cfK.enc (B2.c)).toArray
        replace D := (D.below hn1).rowK_other (k := w3.heap.size) n_D_E2 (cfK.enc (B2.c)).toArray
        replace E1 := (E1.below hn1).rowK_other (k := w3.heap.size) n_E1_E2 (cfK.enc (B2.c)).toArray
        have hW := below_setRow hn1 (Nat.le_refl _) (cfK.enc (B2.c)).toArray
        replace hb := bnext hb hW
        change Code.wp Try.prog _ _ _ ((w3.alloc (Obj.cells (cfK.enc (zeroC)).toArray 28)).setRow w3.heap.size (cfK.enc (B2.c)).toArray)
        generalize (w3.alloc (Obj.cells (cfK.enc (zeroC)).toArray 28)).setRow w3.heap.size (cfK.enc (B2.c)).toArray = w4 at *
        clear hn1 hM0 hW
        generalize w3.heap.size = g3 at *
        by_cases hl2 : (data.length : Int) = 2
        · have q1 : (B1.e == 3) = false := by rw [hd1, hl2]; rfl
          have q2 : ((data.length : Int) != 2) = false := by rw [hl2]; rfl
          clear hl2 hd1
          go_wp2_with fail
          refine (awake22_from HDef HAns HKno HPer _).mono ?_
          rintro e wz ⟨rfl, bz⟩
          go_wp2_with fail
          go_ret
          exact ⟨rfl, bnext hb bz⟩
        · have q2 : ((data.length : Int) != 2) = true := bne_iff_ne.2 hl2
          have q1 : (B1.e == 3) = true := by rw [hd1, q2]
          clear hl2 hd1
          go_wp2_with fail
          refine (awake22_from HDef HAns HKno HPer _).mono ?_
          rintro e wz ⟨rfl, bz⟩
          go_wp2_with fail
          go_ret
          exact ⟨rfl, bnext hb bz⟩
  · by_cases he : A.e = 0
    · have b1 : (A.e != 0) = false := by rw [he]; rfl
      have hcc := hF2.out (by omega)
      rw [hcc] at D
      have sm := same_cf c
      have HE := hid he
      clear he hcc
      go_wp2_with (first | (guard_target =~ wpList _ _ _ (⟨some 52, _, _, _, _, _⟩ :: _) _ _; refine cfT.load_g (op := ⟨some 52, .load _ _, _, _, _, _⟩) (by rfl) _ (by rfl) g1 0 (by rfl) (c) D.rangeK ?_) | (guard_target =~ wpList _ _ _ (⟨some 53, _, _, _, _, _⟩ :: _) _ _; refine cfT.load_g (op := ⟨some 53, .load _ _, _, _, _, _⟩) (by rfl) _ (by rfl) G 0 (by rfl) (c) C.rangeK ?_))
      refine (HKno id w3).mono ?_
      rintro e wk ⟨rfl, bq⟩
      replace C := C.below bq
      replace D := D.below bq
      replace hb := bnext hb bq
      clear bq
      cases hk : knownI id
      case false =>
        have e2 := hF3.out hk
        exact absurd (HE.out.symm.trans e2) (by decide)
      case true =>
        clear hk
        go_wp2_with (first | (guard_target =~ wpList _ _ _ (⟨some 81, _, _, _, _, _⟩ :: _) _ _; refine cfT.load (op := ⟨some 81, .load _ _, _, _, _, _⟩) (by rfl) _ (by rfl) G 0 (by rfl) (c) C.rangeK ?_) | (guard_target =~ wpList _ _ _ (⟨some 82, _, _, _, _, _⟩ :: _) _ _; refine wpList_build_any (op := ⟨some 82, .build _ _, _, _, _, _⟩) (by rfl) _ _ (by rfl) _ (by rfl) (vwL (vw0 c)).toArray (by kernel_rfl) ?_))
        refine (HB1 wk).mono ?_
        rintro e w1 ⟨rfl, bq⟩
        replace C := C.below bq
        replace D := D.below bq
        replace hb := bnext hb bq
        clear bq
        have hn1 := bnew w1 (Obj.cells (cfK.enc (zeroC)).toArray 28)
        have hM0 := Box.new w1 (cfK.enc (zeroC)) 28
        go_upto_region 11 with (guard_target =~ wpList _ _ _ (⟨none, _, _, _, _, _⟩ :: _) _ _; refine cfT.store (op := ⟨none, .store _ _ _, _, _, _, _⟩) (by rfl) _ _ (by rfl) (w1.heap.size) (B1.c) (zeroC) _ (by rfl) (by rfl) hM0 ?_)
        have n_C_E1 : G ≠ w1.heap.size := by have h1 := C.lt; have h2 := Nat.le_refl w1.heap.size; omega
        have n_D_E1 : g1 ≠ w1.heap.size := by have h1 := D.lt; have h2 := Nat.le_refl w1.heap.size; omega
        have l_E1 : w.heap.size ≤ w1.heap.size := Nat.le_trans hb.size (Nat.le_refl w1.heap.size)
        have E1 := hM0.rowK (cfK.enc (B1.c))
        replace C := (C.below hn1).rowK_other (k := w1.heap.size) n_C_E1 (cfK.enc (B1.c)).toArray
        replace D := (D.below hn1).rowK_other (k := w1.heap.size) n_D_E1 (cfK.enc (B1.c)).toArray
        have hW := below_setRow hn1 (Nat.le_refl _) (cfK.enc (B1.c)).toArray
        replace hb := bnext hb hW
        change Code.wp Try.prog _ _ _ ((w1.alloc (Obj.cells (cfK.enc (zeroC)).toArray 28)).setRow w1.heap.size (cfK.enc (B1.c)).toArray)
        generalize (w1.alloc (Obj.cells (cfK.enc (zeroC)).toArray 28)).setRow w1.heap.size (cfK.enc (B1.c)).toArray = w2 at *
        clear hn1 hM0 hW
        generalize w1.heap.size = g2 at *
        go_wp2_with (first | (guard_target =~ wpList _ _ _ (⟨some 89, _, _, _, _, _⟩ :: _) _ _; refine cfT.load (op := ⟨some 89, .load _ _, _, _, _, _⟩) (by rfl) _ (by rfl) G 0 (by rfl) (c) C.rangeK ?_) | (guard_target =~ wpList _ _ _ (⟨some 90, _, _, _, _, _⟩ :: _) _ _; refine wpList_build_any (op := ⟨some 90, .build _ _, _, _, _, _⟩) (by rfl) _ _ (by rfl) _ (by rfl) (vwL (vw0 c)).toArray (by kernel_rfl) ?_))
        refine (HB2 w2).mono ?_
        rintro e w3 ⟨rfl, bq⟩
        replace C := C.below bq
        replace D := D.below bq
        replace E1 := E1.below bq
        replace hb := bnext hb bq
        clear bq
        have hn1 := bnew w3 (Obj.cells (cfK.enc (zeroC)).toArray 28)
        have hM0 := Box.new w3 (cfK.enc (zeroC)) 28
        go_upto_region 12 with (guard_target =~ wpList _ _ _ (⟨none, _, _, _, _, _⟩ :: _) _ _; refine cfT.store (op := ⟨none, .store _ _ _, _, _, _, _⟩) (by rfl) _ _ (by rfl) (w3.heap.size) (B2.c) (zeroC) _ (by rfl) (by rfl) hM0 ?_)
        have n_C_E2 : G ≠ w3.heap.size := by have h1 := C.lt; have h2 := Nat.le_refl w3.heap.size; omega
        have n_D_E2 : g1 ≠ w3.heap.size := by have h1 := D.lt; have h2 := Nat.le_refl w3.heap.size; omega
        have n_E1_E2 : g2 ≠ w3.heap.size := by have h1 := E1.lt; have h2 := Nat.le_refl w3.heap.size; omega
        have l_E2 : w.heap.size ≤ w3.heap.size := Nat.le_trans hb.size (Nat.le_refl w3.heap.size)
        have E2 := hM0.rowK (cfK.enc (B2.c))
        replace C := (C.below hn1).rowK_other (k := w3.heap.size) n_C_E2 (cfK.enc (B2.c)).toArray
        replace D := (D.below hn1).rowK_other (k := w3.heap.size) n_D_E2 (cfK.enc (B2.c)).toArray
        replace E1 := (E1.below hn1).rowK_other (k := w3.heap.size) n_E1_E2 (cfK.enc (B2.c)).toArray
        have hW := below_setRow hn1 (Nat.le_refl _) (cfK.enc (B2.c)).toArray
        replace hb := bnext hb hW
        change Code.wp Try.prog _ _ _ ((w3.alloc (Obj.cells (cfK.enc (zeroC)).toArray 28)).setRow w3.heap.size (cfK.enc (B2.c)).toArray)
        generalize (w3.alloc (Obj.cells (cfK.enc (zeroC)).toArray 28)).setRow w3.heap.size (cfK.enc (B2.c)).toArray = w4 at *
        clear hn1 hM0 hW
        generalize w3.heap.size = g3 at *
        by_cases hl2 : (data.length : Int) = 2
        · have q1 : (B1.e == 3) = false := by rw [hd1, hl2]; rfl
          have q2 : ((data.length : Int) != 2) = false := by rw [hl2]; rfl
          clear hl2 hd1
          go_wp2_with fail
          refine (awake22_from HDef HAns HKno HPer _).mono ?_
          rintro e wz ⟨rfl, bz⟩
          go_wp2_with fail
          go_ret
          exact ⟨rfl, bnext hb bz⟩
        · have q2 : ((data.length : Int) != 2) = true := bne_iff_ne.2 hl2
          have q1 : (B1.e == 3) = true := by rw [hd1, q2]
          clear hl2 hd1
          go_wp2_with fail
          refine (awake22_from HDef HAns HKno HPer _).mono ?_
          rintro e wz ⟨rfl, bz⟩
          go_wp2_with fail
          go_ret
          exact ⟨rfl, bnext hb bz⟩
    · have b1 : (A.e != 0) = true := bne_iff_ne.2 he
      obtain ⟨hs, hcc⟩ := hF1.out he
      rw [hs]
      rw [hcc] at D
      have sm := same_cf c
      have HE := hid he
      clear he hcc hs
      go_wp2_with (first | (guard_target =~ wpList _ _ _ (⟨some 43, _, _, _, _, _⟩ :: _) _ _; refine cfT.load_g (op := ⟨some 43, .load _ _, _, _, _, _⟩) (by rfl) _ (by rfl) g1 0 (by rfl) (c) D.rangeK ?_) | (guard_target =~ wpList _ _ _ (⟨some 44, _, _, _, _, _⟩ :: _) _ _; refine cfT.load_g (op := ⟨some 44, .load _ _, _, _, _, _⟩) (by rfl) _ (by rfl) G 0 (by rfl) (c) C.rangeK ?_) | (guard_target =~ wpList _ _ _ (⟨some 52, _, _, _, _, _⟩ :: _) _ _; refine cfT.load_g (op := ⟨some 52, .load _ _, _, _, _, _⟩) (by rfl) _ (by rfl) g1 0 (by rfl) (c) D.rangeK ?_) | (guard_target =~ wpList _ _ _ (⟨some 53, _, _, _, _, _⟩ :: _) _ _; refine cfT.load_g (op := ⟨some 53, .load _ _, _, _, _, _⟩) (by rfl) _ (by rfl) G 0 (by rfl) (c) C.rangeK ?_))
      refine (HKno id w3).mono ?_
      rintro e wk ⟨rfl, bq⟩
      replace C := C.below bq
      replace D := D.below bq
      replace hb := bnext hb bq
      clear bq
      cases hk : knownI id
      case false =>
        have e2 := hF3.out hk
        rw [e2]
        clear hk e2 b1
        go_wp2_with fail
        refine (awake22_from HDef HAns HKno HPer _).mono ?_
        rintro e wz ⟨rfl, bz⟩
        go_wp2_with fail
        go_ret
        exact ⟨rfl, bnext hb bz⟩
      case true =>
        clear hk
        go_wp2_with (first | (guard_target =~ wpList _ _ _ (⟨some 81, _, _, _, _, _⟩ :: _) _ _; refine cfT.load (op := ⟨some 81, .load _ _, _, _, _, _⟩) (by rfl) _ (by rfl) G 0 (by rfl) (c) C.rangeK ?_) | (guard_target =~ wpList _ _ _ (⟨some 82, _, _, _, _, _⟩ :: _) _ _; refine wpList_build_any (op := ⟨some 82, .build _ _, _, _, _, _⟩) (by rfl) _ _ (by rfl) _ (by rfl) (vwL (vw0 c)).toArray (by kernel_rfl) ?_))
        refine (HB1 wk).mono ?_
        rintro e w1 ⟨rfl, bq⟩
        replace C := C.below bq
        replace D := D.below bq
        replace hb := bnext hb bq
        clear bq
        have hn1 := bnew w1 (Obj.cells (cfK.enc (zeroC)).toArray 28)
        have hM0 := Box.new w1 (cfK.enc (zeroC)) 28
        go_upto_region 11 with (guard_target =~ wpList _ _ _ (⟨none, _, _, _, _, _⟩ :: _) _ _; refine cfT.store (op := ⟨none, .store _ _ _, _, _, _, _⟩) (by rfl) _ _ (by rfl) (w1.heap.size) (B1.c) (zeroC) _ (by rfl) (by rfl) hM0 ?_)
        have n_C_E1 : G ≠ w1.heap.size := by have h1 := C.lt; have h2 := Nat.le_refl w1.heap.size; omega
        have n_D_E1 : g1 ≠ w1.heap.size := by have h1 := D.lt; have h2 := Nat.le_refl w1.heap.size; omega
        have l_E1 : w.heap.size ≤ w1.heap.size := Nat.le_trans hb.size (Nat.le_refl w1.heap.size)
        have E1 := hM0.rowK (cfK.enc (B1.c))
        replace C := (C.below hn1).rowK_other (k := w1.heap.size) n_C_E1 (cfK.enc (B1.c)).toArray
        replace D := (D.below hn1).rowK_other (k := w1.heap.size) n_D_E1 (cfK.enc (B1.c)).toArray
        have hW := below_setRow hn1 (Nat.le_refl _) (cfK.enc (B1.c)).toArray
        replace hb := bnext hb hW
        change Code.wp Try.prog _ _ _ ((w1.alloc (Obj.cells (cfK.enc (zeroC)).toArray 28)).setRow w1.heap.size (cfK.enc (B1.c)).toArray)
        generalize (w1.alloc (Obj.cells (cfK.enc (zeroC)).toArray 28)).setRow w1.heap.size (cfK.enc (B1.c)).toArray = w2 at *
        clear hn1 hM0 hW
        generalize w1.heap.size = g2 at *
        go_wp2_with (first | (guard_target =~ wpList _ _ _ (⟨some 89, _, _, _, _, _⟩ :: _) _ _; refine cfT.load (op := ⟨some 89, .load _ _, _, _, _, _⟩) (by rfl) _ (by rfl) G 0 (by rfl) (c) C.rangeK ?_) | (guard_target =~ wpList _ _ _ (⟨some 90, _, _, _, _, _⟩ :: _) _ _; refine wpList_build_any (op := ⟨some 90, .build _ _, _, _, _, _⟩) (by rfl) _ _ (by rfl) _ (by rfl) (vwL (vw0 c)).toArray (by kernel_rfl) ?_))
        refine (HB2 w2).mono ?_
        rintro e w3 ⟨rfl, bq⟩
        replace C := C.below bq
        replace D := D.below bq
        replace E1 := E1.below bq
        replace hb := bnext hb bq
        clear bq
        have hn1 := bnew w3 (Obj.cells (cfK.enc (zeroC)).toArray 28)
        have hM0 := Box.new w3 (cfK.enc (zeroC)) 28
        go_upto_region 12 with (guard_target =~ wpList _ _ _ (⟨none, _, _, _, _, _⟩ :: _) _ _; refine cfT.store (op := ⟨none, .store _ _ _, _, _, _, _⟩) (by rfl) _ _ (by rfl) (w3.heap.size) (B2.c) (zeroC) _ (by rfl) (by rfl) hM0 ?_)
        have n_C_E2 : G ≠ w3.heap.size := by have h1 := C.lt; have h2 := Nat.le_refl w3.heap.size; omega
        have n_D_E2 : g1 ≠ w3.heap.size := by have h1 := D.lt; have h2 := Nat.le_refl w3.heap.size; omega
        have n_E1_E2 : g2 ≠ w3.heap.size := by have h1 := E1.lt; have h2 := Nat.le_refl w3.heap.size; omega
        have l_E2 : w.heap.size ≤ w3.heap.size := Nat.le_trans hb.size (Nat.le_refl w3.heap.size)
        have E2 := hM0.rowK (cfK.enc (B2.c))
        replace C := (C.below hn1).rowK_other (k := w3.heap.size) n_C_E2 (cfK.enc (B2.c)).toArray
        replace D := (D.below hn1).rowK_other (k := w3.heap.size) n_D_E2 (cfK.enc (B2.c)).toArray
        replace E1 := (E1.below hn1).rowK_other (k := w3.heap.size) n_E1_E2 (cfK.enc (B2.c)).toArray
        have hW := below_setRow hn1 (Nat.le_refl _) (cfK.enc (B2.c)).toArray
        replace hb := bnext hb hW
        change Code.wp Try.prog _ _ _ ((w3.alloc (Obj.cells (cfK.enc (zeroC)).toArray 28)).setRow w3.heap.size (cfK.enc (B2.c)).toArray)
        generalize (w3.alloc (Obj.cells (cfK.enc (zeroC)).toArray 28)).setRow w3.heap.size (cfK.enc (B2.c)).toArray = w4 at *
        clear hn1 hM0 hW
        generalize w3.heap.size = g3 at *
        by_cases hl2 : (data.length : Int) = 2
        · have q1 : (B1.e == 3) = false := by rw [hd1, hl2]; rfl
          have q2 : ((data.length : Int) != 2) = false := by rw [hl2]; rfl
          clear hl2 hd1
          go_wp2_with fail
          refine (awake22_from HDef HAns HKno HPer _).mono ?_
          rintro e wz ⟨rfl, bz⟩
          go_wp2_with fail
          go_ret
          exact ⟨rfl, bnext hb bz⟩
        · have q2 : ((data.length : Int) != 2) = true := bne_iff_ne.2 hl2
          have q1 : (B1.e == 3) = true := by rw [hd1, q2]
          clear hl2 hd1
          go_wp2_with fail
          refine (awake22_from HDef HAns HKno HPer _).mono ?_
          rintro e wz ⟨rfl, bz⟩
          go_wp2_with fail
          go_ret
          exact ⟨rfl, bnext hb bz⟩
  · by_cases he : A.e = 0
    · have b1 : (A.e != 0) = false := by rw [he]; rfl
      have hcc := hF2.out (by omega)
      rw [hcc] at D
      have n0 : (ac != 0) = true := bne_iff_ne.2 h0
      have n1 : (ac != 1) = true := bne_iff_ne.2 h1
      have n3 : (ac != 3) = true := bne_iff_ne.2 h3
      have sm := same_cf c
      have HE := hid he
      clear he hcc
      go_wp2_with (first | (guard_target =~ wpList _ _ _ (⟨some 52, _, _, _, _, _⟩ :: _) _ _; refine cfT.load_g (op := ⟨some 52, .load _ _, _, _, _, _⟩) (by rfl) _ (by rfl) g1 0 (by rfl) (c) D.rangeK ?_) | (guard_target =~ wpList _ _ _ (⟨some 53, _, _, _, _, _⟩ :: _) _ _; refine cfT.load_g (op := ⟨some 53, .load _ _, _, _, _, _⟩) (by rfl) _ (by rfl) G 0 (by rfl) (c) C.rangeK ?_))
      refine (HKno id w3).mono ?_
      rintro e wk ⟨rfl, bq⟩
      replace C := C.below bq
      replace D := D.below bq
      replace hb := bnext hb bq
      clear bq
      cases hk : knownI id
      case false =>
        have e2 := hF3.out hk
        exact absurd (HE.out.symm.trans e2) (by decide)
      case true =>
        have e6 := hF4.out hk h0 h1 h3
        exact absurd (HE.out.symm.trans e6) (by decide)
    · have b1 : (A.e != 0) = true := bne_iff_ne.2 he
      obtain ⟨hs, hcc⟩ := hF1.out he
      rw [hs]
      rw [hcc] at D
      have n0 : (ac != 0) = true := bne_iff_ne.2 h0
      have n1 : (ac != 1) = true := bne_iff_ne.2 h1
      have n3 : (ac != 3) = true := bne_iff_ne.2 h3
      have sm := same_cf c
      have HE := hid he
      clear he hcc hs
      go_wp2_with (first | (guard_target =~ wpList _ _ _ (⟨some 43, _, _, _, _, _⟩ :: _) _ _; refine cfT.load_g (op := ⟨some 43, .load _ _, _, _, _, _⟩) (by rfl) _ (by rfl) g1 0 (by rfl) (c) D.rangeK ?_) | (guard_target =~ wpList _ _ _ (⟨some 44, _, _, _, _, _⟩ :: _) _ _; refine cfT.load_g (op := ⟨some 44, .load _ _, _, _, _, _⟩) (by rfl) _ (by rfl) G 0 (by rfl) (c) C.rangeK ?_) | (guard_target =~ wpList _ _ _ (⟨some 52, _, _, _, _, _⟩ :: _) _ _; refine cfT.load_g (op := ⟨some 52, .load _ _, _, _, _, _⟩) (by rfl) _ (by rfl) g1 0 (by rfl) (c) D.rangeK ?_) | (guard_target =~ wpList _ _ _ (⟨some 53, _, _, _, _, _⟩ :: _) _ _; refine cfT.load_g (op := ⟨some 53, .load _ _, _, _, _, _⟩) (by rfl) _ (by rfl) G 0 (by rfl) (c) C.rangeK ?_))
      refine (HKno id w3).mono ?_
      rintro e wk ⟨rfl, bq⟩
      replace C := C.below bq
      replace D := D.below bq
      replace hb := bnext hb bq
      clear bq
      cases hk : knownI id
      case false =>
        have e2 := hF3.out hk
        rw [e2]
        clear hk e2 b1
        go_wp2_with fail
        refine (awake22_from HDef HAns HKno HPer _).mono ?_
        rintro e wz ⟨rfl, bz⟩
        go_wp2_with fail
        go_ret
        exact ⟨rfl, bnext hb bz⟩
      case true =>
        have e6 := hF4.out hk h0 h1 h3
        rw [e6]
        clear hk e6 b1 h0 h1 h3
        go_wp2_with fail
        refine (awake22_from HDef HAns HKno HPer _).mono ?_
        rintro e wz ⟨rfl, bz⟩
        go_wp2_with fail
        go_ret
        exact ⟨rfl, bnext hb bz⟩

end Go.Proofs.Ytgjffmhlehcoiaa
