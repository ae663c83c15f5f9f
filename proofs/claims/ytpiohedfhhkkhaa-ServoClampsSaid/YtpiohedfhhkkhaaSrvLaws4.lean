/- carillonlaw20's ServoSigns, from contracts (gen_srvlaws.py). -/
import Derived.Test.YtpiohedfhhkkhaaSrvLaws1
namespace Go.Proofs.Ytpiohedfhhkkhaa
open Go.RowKit Go.Proofs
set_option maxRecDepth 50000
set_option linter.unusedVariables false
set_option linter.unusedSimpArgs false

def negS (s : Sv) : Sv := { s with fq := -s.fq, dr := -s.dr }
section
variable {s : Sv} {o i : Int}
theorem cut_neg (v a : Int) : cutI (-v) (-a) a = -cutI v (-a) a ∨ a < 0 := by unfold cutI; omega
theorem cut_neg' (v a : Int) (h : 0 ≤ a) : cutI (-v) (-a) a = -cutI v (-a) a := by unfold cutI; omega
theorem oc_neg : ocV (-o) = -ocV o := cut_neg' o 4000000000000000 (by decide)
theorem rt_neg : rtV (-o) i = -rtV o i := by
  unfold rtV
  rw [oc_neg, Int.neg_mul, Int.neg_tdiv]
  exact cut_neg' _ 512000000 (by decide)
theorem nd_neg : ndV (negS s) (-o) i = -ndV s o i := by
  unfold ndV
  rw [rt_neg]
  show cutI (-s.dr + (s.ki * -rtV o i).tdiv 1000) (-512000) 512000 = _
  rw [Int.mul_neg, Int.neg_tdiv, ← Int.neg_add]
  exact cut_neg' _ 512000 (by decide)
theorem rf_neg : rfV (negS s) (-o) i = -rfV s o i := by
  unfold rfV
  rw [nd_neg, rt_neg]
  show -((s.kp * -rtV o i).tdiv 1000) - -ndV s o i = _
  rw [Int.mul_neg, Int.neg_tdiv]
  omega
theorem set_neg : setV (negS s) (-o) = setV s o := by
  unfold setV
  rw [oc_neg]
  show ((s.st == 0 || s.sp == 0 || decide (s.sp < -ocV o) || decide (-ocV o < -s.sp)) : Bool) = _
  have h1 : decide (s.sp < -ocV o) = decide (ocV o < -s.sp) := by rw [decide_eq_decide]; omega
  have h2 : decide (-ocV o < -s.sp) = decide (s.sp < ocV o) := by rw [decide_eq_decide]; omega
  rw [h1, h2]
  cases (s.st == 0 || s.sp == 0) <;> cases decide (s.sp < ocV o) <;> cases decide (ocV o < -s.sp) <;> rfl
theorem by_neg : byV (negS s) (-o) = -byV s o := by
  unfold byV
  rw [set_neg, oc_neg]
  split <;> omega
theorem fr_neg : frV (negS s) (-o) i = -frV s o i := by
  unfold frV
  rw [set_neg, rf_neg]
  split
  · rfl
  · exact cut_neg' _ 512000 (by decide)
theorem nx_neg : nxV (negS s) (-o) i = negS (nxV s o i) := by
  have hsm : smB (-o) = smB o := by unfold smB; rw [oc_neg, decide_eq_decide]; omega
  have hgr : grB (-o) = grB o := by unfold grB; rw [oc_neg, decide_eq_decide]; omega
  unfold nxV
  rw [set_neg, rf_neg, nd_neg, hsm, hgr, cut_neg' _ 512000 (by decide)]
  cases setV s o
  · show (⟨s.kp, s.ki, s.sp, _, _, _, _⟩ : Sv) = ⟨s.kp, s.ki, s.sp, _, _, _, _⟩
    congr 1
    show (if -rfV s o i < -512000 ∨ 512000 < -rfV s o i then -s.dr else -ndV s o i) = -(if rfV s o i < -512000 ∨ 512000 < rfV s o i then s.dr else ndV s o i)
    split <;> split <;> omega
  · rfl
theorem negS_in (h : InSv s) : InSv (negS s) := by
  obtain ⟨h1, h2, h3, h4, h5, h6, h7⟩ := h
  exact ⟨h1, h2, h3, h4, by show -512000 ≤ -s.fq ∧ -s.fq ≤ 512000; omega, by show -512000 ≤ -s.dr ∧ -s.dr ≤ 512000; omega, h7⟩
theorem tdiv_pos {a : Int} (h : 0 ≤ a) : 0 ≤ a.tdiv 1000 := Int.tdiv_nonneg h (by decide)
/-- The second one: from a drift of nothing it is slowed when ahead. -/
theorem fr_sign (h : InSv s) (hd : s.dr = 0) (hs : setV s o = false) (h0 : 0 < o) (h1 : o ≤ 1000000) : frV s o 1000000000 ≤ 0 := by
  have hr : rtV o 1000000000 = o := by
    unfold rtV ocV
    rw [cutI_in (show -4000000000000000 ≤ o by omega) (by omega), show icV 1000000000 = 1000000000 by decide, Int.mul_tdiv_cancel _ (by decide)]
    exact cutI_in (by omega) (by omega)
  have p1 := tdiv_pos (Int.mul_nonneg h.1.1 (show 0 ≤ o by omega))
  have p2 := tdiv_pos (Int.mul_nonneg h.2.1.1 (show 0 ≤ o by omega))
  have hn : 0 ≤ ndV s o 1000000000 := by
    unfold ndV
    rw [hr, hd]
    generalize (s.ki * o).tdiv 1000 = q at *
    unfold cutI
    omega
  unfold frV
  rw [hs]
  show cutI (rfV s o 1000000000) (-512000) 512000 ≤ 0
  unfold rfV
  rw [hr]
  generalize (s.kp * o).tdiv 1000 = q at *
  generalize ndV s o 1000000000 = d at *
  unfold cutI
  omega
theorem fr_sign2 (h : InSv s) (hd : s.dr = 0) (hs : setV s o = false) (h0 : o < 0) (h1 : -1000000 ≤ o) : 0 ≤ frV s o 1000000000 := by
  have h2 := fr_sign (s := negS s) (o := -o) (negS_in h) (by show -s.dr = 0; omega) (by rw [set_neg]; exact hs) (by omega) (by omega)
  rw [fr_neg] at h2
  omega
theorem by_in : -4000000000000000 ≤ byV s o ∧ byV s o ≤ 4000000000000000 := by
  have := cutI_range (v := o) (a := -4000000000000000) (b := 4000000000000000) (by decide)
  unfold byV ocV
  split <;> omega
theorem cm_next2 {j : Nat} (h : s.cm ≤ j) : (nxV s o i).cm ≤ ((j + 1 : Nat) : Int) := by
  have := nxV_cm (s := s) (o := o) (i := i)
  omega
theorem notset (h : InSv s) (hst : s.st ≠ 0) (hsp : s.sp = 1000000000) (h0 : -1000000 ≤ o) (h1 : o ≤ 1000000) : setV s o = false := by
  unfold setV ocV
  rw [cutI_in (by omega) (by omega), hsp, beq_false_of_ne hst, decide_eq_false (show ¬ (1000000000 : Int) < o by omega), decide_eq_false (show ¬ o < -1000000000 by omega)]
  rfl
end

set_option maxRecDepth 100000 in
set_option maxHeartbeats 8000000 in
theorem servoSigns_from {R : List Value → Sv → Prop} (HN : CNewV R) (HM : CSamp R) (HS : CStaV R) (HD : CDriV R) (kp ki : Int) (v : Value) (l : List Int) (w : World) (hI : Ints w v l) :
    Calls Try.prog 4 #[.int .i64 kp, .int .i64 ki, v] w fun e w' => e = .returned (.bool true) ∧ Below w.heap.size w w' := by
  obtain ⟨p, cap, rfl, hcap, hmax, hat⟩ := hI
  have HAT := hid fun h => hat.pos h
  unfold maxLen at hmax
  clear hat
  go_enter Try.func4, Try.ntmps4
  go_wp2_with fail
  refine (place_any kp 2001 _ (by decide) (by decide)).mono ?_
  rintro e w0 ⟨rfl, rfl⟩
  go_wp2_with fail
  refine (place_any ki 2001 _ (by decide) (by decide)).mono ?_
  rintro e w0 ⟨rfl, rfl⟩
  go_wp2_with fail
  refine (HN (kp % 2001) (ki % 2001) 1000000000 w).mono ?_
  rintro e w1 ⟨ga, rfl, hg, h9, bq⟩
  have l_hA : w.heap.size ≤ ga := hg
  have hb := bq
  clear bq
  have hA := h9
  clear h9 hg
  go_wp2_with fail
  refine (place_any kp 2001 _ (by decide) (by decide)).mono ?_
  rintro e w0 ⟨rfl, rfl⟩
  go_wp2_with fail
  refine (place_any ki 2001 _ (by decide) (by decide)).mono ?_
  rintro e w0 ⟨rfl, rfl⟩
  go_wp2_with fail
  refine (HN (kp % 2001) (ki % 2001) 1000000000 w1).mono ?_
  rintro e w2 ⟨gz, rfl, hg, h9, bq⟩
  have n_hA_hZ : ga ≠ gz := by have h1 := hA.lt; have h2 := hg; omega
  have l_hZ : w.heap.size ≤ gz := Nat.le_trans hb.size (hg)
  replace hA := hA.below bq
  replace hb := bnext hb bq
  clear bq
  have hZ := h9
  clear h9 hg
  go_wp2_with fail
  go_loopw [9] (fun iv wr => ∃ (j : Nat) (s : Sv), j ≤ l.length ∧ j ≤ 40 ∧ iv = .int .i64 (j : Int) ∧ InSv s ∧ s.cm ≤ j ∧ s.sp = 1000000000 ∧ (j = 0 → s.st = 0) ∧ (0 < j → s.st = 1 ∨ s.st = 2) ∧ (j ≤ 1 → s.dr = 0) ∧ SvAt R wr ga s ∧ SvAt R wr gz (negS s) ∧ Below w.heap.size w wr) (fun iv _ => 40 - (intOf iv).toNat)
  case atStart => exact ⟨0, _, Nat.zero_le _, Nat.zero_le _, rfl, newSv_in _ _ _, Int.le_refl _, rfl, fun _ => rfl, fun h => absurd h (by decide), fun _ => rfl, hA, hZ, hb⟩
  case round =>
    clear hA hZ hb
    obtain ⟨j, s, hjl, hj40, rfl, hin, hcm, hsp, hs0, hs1, hdr, hA, hZ, hb⟩ := hrel
    replace hs0 := hid hs0
    replace hs1 := hid hs1
    replace hdr := hid hdr
    replace hsp := hid hsp
    by_cases hlt : j < l.length
    case neg =>
      have hltI : ¬ (j : Int) < (l.length : Int) := by omega
      go_wp2_with fail
      refine (awake20_from HN HM HS _).mono ?_
      rintro e wz ⟨rfl, bz⟩
      go_wp2_with fail
      go_ret
      exact ⟨rfl, bnext hb bz⟩
    by_cases h40 : j < 40
    case neg =>
      have hltI : (j : Int) < (l.length : Int) := by omega
      have h40I : ¬ (j : Int) < 40 := by omega
      go_wp2_with fail
      refine (awake20_from HN HM HS _).mono ?_
      rintro e wz ⟨rfl, bz⟩
      go_wp2_with fail
      go_ret
      exact ⟨rfl, bnext hb bz⟩
    have hltI : (j : Int) < (l.length : Int) := by omega
    have h40I : (j : Int) < 40 := by omega
    have hj0 : (0 : Int) ≤ (j : Int) := by omega
    obtain ⟨b, off, rfl, hbl, hc⟩ := HAT.out (by omega)
    have hca := hc j hlt
    rw [← hb.cell (p := ⟨b, off + j, none⟩) hbl] at hca
    generalize l[j] = z at *
    clear hc
    go_wp2_with fail
    refine (place_in z 2000001 _ (by decide) (by decide)).mono ?_
    rintro e w0 ⟨a, rfl, ha0, ha1, -, rfl⟩
    obtain ⟨o, ho⟩ : ∃ o : Int, o = a - 1000000 := ⟨_, rfl⟩
    have wa : IntKind.i64.wrap (a - 1000000) = a - 1000000 := by rw [IntKind.wrap_i64]; omega
    have o1 : -1000000 ≤ o := by omega
    have o2 : o ≤ 1000000 := by omega
    have wo : IntKind.i64.wrap (-o) = -o := by rw [IntKind.wrap_i64]; omega
    go_wp2_with fail
    try rw [wa]
    rw [← ho]
    clear wa ho ha0 ha1 hca
    refine (HM ga s o 1000000000 wr hA hin ⟨by omega, by omega⟩ (by decide)).mono ?_
    rintro e w21 ⟨rfl, h9, oq⟩
    replace hZ := hZ.only oq (Ne.symm n_hA_hZ)
    replace hb := Only.below hb oq l_hA hb.size
    replace hA := h9
    clear h9 oq
    go_wp2_with fail
    try rw [wo]
    refine (HM gz (negS s) (-o) 1000000000 w21 hZ (negS_in hin) ⟨by omega, by omega⟩ (by decide)).mono ?_
    rintro e w22 ⟨rfl, h9, oq⟩
    replace hA := hA.only oq n_hA_hZ
    replace hb := Only.below hb oq l_hZ hb.size
    replace hZ := h9
    clear h9 oq
    rw [nx_neg] at hZ
    rw [by_neg, set_neg, fr_neg]
    have y1 := by_in (s := s) (o := o)
    have y2 := frV_in (s := s) (o := o) (i := 1000000000) hin
    have y3 := (nxV_in (o := o) (i := 1000000000) hin (by omega)).2.2.2.2.2.1
    have sg : j = 1 → (0 < o → frV s o 1000000000 ≤ 0) ∧ (o < 0 → 0 ≤ frV s o 1000000000) := fun h => by
      have hn := notset hin (by have := hs1.out (by omega); omega) hsp.out o1 o2
      exact ⟨fun h0 => fr_sign hin (hdr.out (by omega)) hn h0 o2, fun h0 => fr_sign2 hin (hdr.out (by omega)) hn h0 o1⟩
    have dz : j + 1 ≤ 1 → (nxV s o 1000000000).dr = 0 := fun h => by
      obtain rfl : j = 0 := by omega
      have hset : setV s o = true := by unfold setV; rw [hs0.out rfl]; rfl
      rw [(nxV_set (i := 1000000000) hset).1]
      exact hdr.out (by omega)
    have nst : (nxV s o 1000000000).st = 1 ∨ (nxV s o 1000000000).st = 2 := nxV_st (by have := hin.2.2.2.1; omega)
    have nin := nxV_in (o := o) (i := 1000000000) hin (by omega)
    have ncm := cm_next2 (o := o) (i := 1000000000) hcm
    have nsp : (nxV s o 1000000000).sp = 1000000000 := by rw [nxV_kp.2.2]; exact hsp.out
    have v1 : IntKind.i64.wrap (- -byV s o) = byV s o := by rw [IntKind.wrap_i64]; omega
    have v2 : IntKind.i64.wrap (- -frV s o 1000000000) = frV s o 1000000000 := by rw [IntKind.wrap_i64]; omega
    have v3 : IntKind.i64.wrap (- -(nxV s o 1000000000).dr) = (nxV s o 1000000000).dr := by rw [IntKind.wrap_i64]; omega
    generalize hX : nxV s o 1000000000 = X at *
    generalize frV s o 1000000000 = F at *
    generalize byV s o = B at *
    clear hX
    replace dz := hid dz
    replace nst := hid nst
    replace nin := hid nin
    replace ncm := hid ncm
    replace nsp := hid nsp
    replace sg := hid sg
    clear hin hcm
    go_wp2_with fail
    refine (HD ga X w22 hA).mono ?_
    rintro e w23 ⟨rfl, bq⟩
    replace hA := hA.below bq
    replace hZ := hZ.below bq
    replace hb := bnext hb bq
    clear bq
    go_wp2_with fail
    refine (HD gz (negS X) w23 hZ).mono ?_
    rintro e w24 ⟨rfl, bq⟩
    replace hA := hA.below bq
    replace hZ := hZ.below bq
    replace hb := bnext hb bq
    clear bq
    rw [show (negS X).dr = -X.dr from rfl]
    go_wp2_with fail
    refine (HS ga X w24 hA).mono ?_
    rintro e w25 ⟨rfl, bq⟩
    replace hA := hA.below bq
    replace hZ := hZ.below bq
    replace hb := bnext hb bq
    clear bq
    go_wp2_with fail
    refine (HS gz (negS X) w25 hZ).mono ?_
    rintro e w26 ⟨rfl, bq⟩
    replace hA := hA.below bq
    replace hZ := hZ.below bq
    replace hb := bnext hb bq
    clear bq
    rw [show (negS X).st = X.st from rfl]
    clear y1 y2 y3 v1 v2 v3 wo
    by_cases hj1 : j = 1
    · obtain ⟨sg1, sg2⟩ := sg.out hj1
      have hj1I : ((j : Int) == 1) = true := by simp only [beq_iff_eq]; omega
      by_cases p0 : 0 < o
      · have f0 : ¬ 0 < F := by have := sg1 p0; omega
        have n0 : ¬ o < 0 := by omega
        clear sg1 sg2 hj1
        go_wp2_with fail
        go_roundw
        case rel => exact ⟨j + 1, X, by omega, by omega, by go_num, nin.out, ncm.out, nsp.out, fun h => absurd h (by omega), fun _ => nst.out, dz.out, hA, hZ, hb⟩
        case measure => simp [intOf]; omega
      · by_cases n0 : o < 0
        · have f0 : ¬ F < 0 := by have := sg2 n0; omega
          clear sg1 sg2 hj1
          go_wp2_with fail
          go_roundw
          case rel => exact ⟨j + 1, X, by omega, by omega, by go_num, nin.out, ncm.out, nsp.out, fun h => absurd h (by omega), fun _ => nst.out, dz.out, hA, hZ, hb⟩
          case measure => simp [intOf]; omega
        · clear sg1 sg2 hj1
          go_wp2_with fail
          go_roundw
          case rel => exact ⟨j + 1, X, by omega, by omega, by go_num, nin.out, ncm.out, nsp.out, fun h => absurd h (by omega), fun _ => nst.out, dz.out, hA, hZ, hb⟩
          case measure => simp [intOf]; omega
    · have hj1I : ¬ (j : Int) = 1 := by omega
      clear hj1
      go_wp2_with fail
      go_roundw
      case rel => exact ⟨j + 1, X, by omega, by omega, by go_num, nin.out, ncm.out, nsp.out, fun h => absurd h (by omega), fun _ => nst.out, dz.out, hA, hZ, hb⟩
      case measure => simp [intOf]; omega

end Go.Proofs.Ytpiohedfhhkkhaa
