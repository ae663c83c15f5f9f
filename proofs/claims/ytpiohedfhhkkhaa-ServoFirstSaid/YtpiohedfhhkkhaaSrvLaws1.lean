/- carillonlaw20's awake, ServoFirst, ServoClamps, from contracts (gen_srvlaws.py). -/
import Derived.Test.YtpiohedfhhkkhaaSrv
namespace Go.Proofs.Ytpiohedfhhkkhaa
open Go.RowKit Go.Proofs
set_option maxRecDepth 50000
set_option linter.unusedVariables false
set_option linter.unusedSimpArgs false

def zsV (kp ki st : Int) : Sv := ⟨cutI kp 0 2000, cutI ki 0 2000, 0, st, 0, 0, 0⟩
theorem zsV_in {kp ki st : Int} (h : 0 ≤ st ∧ st ≤ 2) : InSv (zsV kp ki st) := by
  obtain ⟨h1, h2, h3, h4, h5, h6, h7⟩ := newSv_in kp ki 0
  exact ⟨h1, h2, by show (0 : Int) ≤ 0 ∧ (0 : Int) ≤ 1000000000; decide, h, h5, h6, h7⟩
theorem zsV_set {kp ki st o i : Int} (h1 : -4000000000000000 ≤ o) (h2 : o ≤ 4000000000000000) : setV (zsV kp ki st) o = true ∧ byV (zsV kp ki st) o = -o ∧ frV (zsV kp ki st) o i = 0 ∧ nxV (zsV kp ki st) o i = zsV kp ki 1 := by
  have h : setV (zsV kp ki st) o = true := by simp [setV, zsV]
  obtain ⟨a, b, c⟩ := nxV_set (i := i) h
  exact ⟨h, by rw [b]; unfold ocV; rw [cutI_in h1 h2], c, a⟩
theorem new_set {kp ki sp o i : Int} (h1 : -4000000000000000 ≤ o) (h2 : o ≤ 4000000000000000) : setV (newSv kp ki sp) o = true ∧ byV (newSv kp ki sp) o = -o ∧ frV (newSv kp ki sp) o i = 0 ∧ nxV (newSv kp ki sp) o i = { newSv kp ki sp with st := 1 } := by
  have h : setV (newSv kp ki sp) o = true := by simp [setV, newSv]
  obtain ⟨a, b, c⟩ := nxV_set (i := i) h
  exact ⟨h, by rw [b]; unfold ocV; rw [cutI_in h1 h2], c, a⟩
theorem awake_two : byV ⟨700, 300, 20000, 1, 0, 0, 0⟩ 50 = 0 ∧ setV ⟨700, 300, 20000, 1, 0, 0, 0⟩ 50 = false ∧ frV ⟨700, 300, 20000, 1, 0, 0, 0⟩ 50 1000000000 = -50 := by decide
theorem clamp_k (k x : Int) : (k * (x * 1000)).tdiv 1000 = k * x := by
  rw [← Int.mul_assoc]
  exact Int.mul_tdiv_cancel _ (by decide)
theorem clamp_hi {k fq : Int} (h0 : 1000 ≤ k) (h1 : k ≤ 2000) : setV ⟨k, 300, 1000000000, 1, fq, 0, 0⟩ 900000000 = false ∧ frV ⟨k, 300, 1000000000, 1, fq, 0, 0⟩ 900000000 1000000000 = -512000 ∧ nxV ⟨k, 300, 1000000000, 1, fq, 0, 0⟩ 900000000 1000000000 = ⟨k, 300, 1000000000, 1, -512000, 0, 0⟩ := by
  have hs : setV ⟨k, 300, 1000000000, 1, fq, 0, 0⟩ 900000000 = false := by show (((1 : Int) == 0) || ((1000000000 : Int) == 0) || decide ((1000000000 : Int) < ocV 900000000) || decide (ocV 900000000 < -1000000000)) = false; decide
  have hr : rtV 900000000 1000000000 = 512000 * 1000 := by decide
  have hd : ndV ⟨k, 300, 1000000000, 1, fq, 0, 0⟩ 900000000 1000000000 = 512000 := by show cutI (0 + (300 * rtV 900000000 1000000000).tdiv 1000) (-512000) 512000 = 512000; decide
  have hf : rfV ⟨k, 300, 1000000000, 1, fq, 0, 0⟩ 900000000 1000000000 = -(k * 512000) - 512000 := by unfold rfV; rw [hd, hr]; show -((k * (512000 * 1000)).tdiv 1000) - 512000 = _; rw [clamp_k]
  have hc : cutI (-(k * 512000) - 512000) (-512000) 512000 = -512000 := by unfold cutI; omega
  refine ⟨hs, by unfold frV; rw [hs, hf]; exact hc, ?_⟩
  unfold nxV
  rw [hs, hf, hc, if_pos (show -(k * 512000) - 512000 < -512000 ∨ 512000 < -(k * 512000) - 512000 by omega)]
  rfl
theorem clamp_lo {k fq : Int} (h0 : 1000 ≤ k) (h1 : k ≤ 2000) : setV ⟨k, 300, 1000000000, 1, fq, 0, 0⟩ (-900000000) = false ∧ frV ⟨k, 300, 1000000000, 1, fq, 0, 0⟩ (-900000000) 1000000000 = 512000 ∧ nxV ⟨k, 300, 1000000000, 1, fq, 0, 0⟩ (-900000000) 1000000000 = ⟨k, 300, 1000000000, 1, 512000, 0, 0⟩ := by
  have hs : setV ⟨k, 300, 1000000000, 1, fq, 0, 0⟩ (-900000000) = false := by show (((1 : Int) == 0) || ((1000000000 : Int) == 0) || decide ((1000000000 : Int) < ocV (-900000000)) || decide (ocV (-900000000) < -1000000000)) = false; decide
  have hr : rtV (-900000000) 1000000000 = (-512000) * 1000 := by decide
  have hd : ndV ⟨k, 300, 1000000000, 1, fq, 0, 0⟩ (-900000000) 1000000000 = -512000 := by show cutI (0 + (300 * rtV (-900000000) 1000000000).tdiv 1000) (-512000) 512000 = -512000; decide
  have hf : rfV ⟨k, 300, 1000000000, 1, fq, 0, 0⟩ (-900000000) 1000000000 = -(k * (-512000)) - (-512000) := by unfold rfV; rw [hd, hr]; show -((k * ((-512000) * 1000)).tdiv 1000) - (-512000) = _; rw [clamp_k]
  have hc : cutI (-(k * (-512000)) - (-512000)) (-512000) 512000 = 512000 := by unfold cutI; omega
  refine ⟨hs, by unfold frV; rw [hs, hf]; exact hc, ?_⟩
  unfold nxV
  rw [hs, hf, hc, if_pos (show -(k * (-512000)) - (-512000) < -512000 ∨ 512000 < -(k * (-512000)) - (-512000) by omega)]
  rfl
theorem clampS_in {k fq : Int} (h0 : 1000 ≤ k) (h1 : k ≤ 2000) (h2 : -512000 ≤ fq) (h3 : fq ≤ 512000) : InSv ⟨k, 300, 1000000000, 1, fq, 0, 0⟩ := ⟨by show 0 ≤ k ∧ k ≤ 2000; omega, by show (0 : Int) ≤ 300 ∧ (300 : Int) ≤ 2000; decide, by show (0 : Int) ≤ 1000000000 ∧ (1000000000 : Int) ≤ 1000000000; decide, by show (0 : Int) ≤ 1 ∧ (1 : Int) ≤ 2; decide, ⟨h2, h3⟩, by show (-512000 : Int) ≤ 0 ∧ (0 : Int) ≤ 512000; decide, by show (0 : Int) ≤ 0 ∧ (0 : Int) ≤ 4611686018427387904; decide⟩
theorem newK {k : Int} (h0 : 1000 ≤ k) (h1 : k ≤ 2000) : newSv k 300 1000000000 = ⟨k, 300, 1000000000, 0, 0, 0, 0⟩ := by
  unfold newSv
  rw [cutI_in (show 0 ≤ k by omega) h1, show cutI 300 0 2000 = 300 by decide, show cutI 1000000000 0 1000000000 = 1000000000 by decide]

set_option maxRecDepth 100000 in
set_option maxHeartbeats 8000000 in
theorem awake20_from {R : List Value → Sv → Prop} (HN : CNewV R) (HM : CSamp R) (HS : CStaV R) (w : World) :
    Calls Try.prog 15 #[] w fun e w' => e = .returned (.bool true) ∧ Below w.heap.size w w' := by
  go_enter Try.func15, Try.ntmps15
  go_wp2_with fail
  refine (HN 700 300 20000 w).mono ?_
  rintro e w1 ⟨ga, rfl, hg, h9, bq⟩
  have l_hA : w.heap.size ≤ ga := hg
  have hb := bq
  clear bq
  have hA := h9
  clear h9 hg
  go_wp2_with fail
  refine (HM ga _ 50 1000000000 w1 hA (newSv_in _ _ _) (by decide) (by decide)).mono ?_
  rintro e w2 ⟨rfl, h9, oq⟩
  replace hb := Only.below hb oq l_hA hb.size
  replace hA := h9
  clear h9 oq
  obtain ⟨b1, b2, b3, b4⟩ := new_set (kp := 700) (ki := 300) (sp := 20000) (o := 50) (i := 1000000000) (by decide) (by decide)
  rw [b4] at hA
  rw [b1, b2, b3]
  replace hA : SvAt R w2 ga ⟨700, 300, 20000, 1, 0, 0, 0⟩ := hA
  clear b1 b2 b3 b4
  go_wp2_with fail
  refine (HM ga _ 50 1000000000 w2 hA (by unfold InSv; decide) (by decide) (by decide)).mono ?_
  rintro e w3 ⟨rfl, h9, oq⟩
  replace hb := Only.below hb oq l_hA hb.size
  replace hA := h9
  clear h9 oq
  obtain ⟨b1, b2, b3⟩ := awake_two
  rw [b1, b2, b3]
  clear b1 b2 b3
  go_wp2_with fail
  go_ret
  exact ⟨rfl, hb⟩

set_option maxRecDepth 100000 in
set_option maxHeartbeats 8000000 in
theorem servoFirst_from {R : List Value → Sv → Prop} (HN : CNewV R) (HM : CSamp R) (HS : CStaV R) (HD : CDriV R) (kp ki sp first : Int) (v : Value) (l : List Int) (w : World) (hI : Ints w v l) :
    Calls Try.prog 8 #[.int .i64 kp, .int .i64 ki, .int .i64 sp, .int .i64 first, v] w fun e w' => e = .returned (.bool true) ∧ Below w.heap.size w w' := by
  obtain ⟨p, cap, rfl, hcap, hmax, hat⟩ := hI
  have HAT := hid fun h => hat.pos h
  unfold maxLen at hmax
  clear hat
  go_enter Try.func8, Try.ntmps8
  go_wp2_with fail
  refine (HN kp ki sp w).mono ?_
  rintro e w1 ⟨ga, rfl, hg, h9, bq⟩
  have l_hA : w.heap.size ≤ ga := hg
  have hb := bq
  clear bq
  have hA := h9
  clear h9 hg
  go_wp2_with fail
  refine (HN kp ki 0 w1).mono ?_
  rintro e w2 ⟨gz, rfl, hg, h9, bq⟩
  have n_hA_hZ : ga ≠ gz := by have h1 := hA.lt; have h2 := hg; omega
  have l_hZ : w.heap.size ≤ gz := Nat.le_trans hb.size (hg)
  replace hA := hA.below bq
  replace hb := bnext hb bq
  clear bq
  have hZ := h9
  clear h9 hg
  replace hZ : SvAt R w2 gz (zsV kp ki 0) := hZ
  go_wp2_with fail
  refine (place_in first 2251799813685248 _ (by decide) (by decide)).mono ?_
  rintro e w0 ⟨a, rfl, ha0, ha1, -, rfl⟩
  obtain ⟨o, ho⟩ : ∃ o : Int, o = a - 1125899906842624 := ⟨_, rfl⟩
  have wa : IntKind.i64.wrap (a - 1125899906842624) = a - 1125899906842624 := by rw [IntKind.wrap_i64]; omega
  have h1 : -1125899906842624 ≤ o := by omega
  have h2 : o ≤ 1125899906842624 := by omega
  go_wp2_with fail
  try rw [wa]
  rw [← ho]
  clear wa ho ha0 ha1
  refine (HM ga _ o 1000000000 w2 hA (newSv_in _ _ _) ⟨by omega, by omega⟩ (by decide)).mono ?_
  rintro e w3 ⟨rfl, h9, oq⟩
  replace hZ := hZ.only oq (Ne.symm n_hA_hZ)
  replace hb := Only.below hb oq l_hA hb.size
  replace hA := h9
  clear h9 oq
  obtain ⟨b1, b2, b3, b4⟩ := new_set (kp := kp) (ki := ki) (sp := sp) (o := o) (i := 1000000000) (by omega) (by omega)
  rw [b4] at hA
  rw [b1, b2, b3]
  clear b1 b2 b3 b4
  go_wp2_with fail
  refine (HS ga _ w3 hA).mono ?_
  rintro e w4 ⟨rfl, bq⟩
  replace hA := hA.below bq
  replace hZ := hZ.below bq
  replace hb := bnext hb bq
  clear bq
  go_wp2_with fail
  go_loopw [17] (fun iv wr => ∃ (j : Nat) (st : Int), j ≤ l.length ∧ j ≤ 30 ∧ iv = .int .i64 (j : Int) ∧ (0 ≤ st ∧ st ≤ 2) ∧ SvAt R wr gz (zsV kp ki st) ∧ Below w.heap.size w wr) (fun iv _ => 30 - (intOf iv).toNat)
  case atStart => exact ⟨0, 0, Nat.zero_le _, Nat.zero_le _, rfl, by decide, hZ, hb⟩
  case round =>
    clear hZ hb
    obtain ⟨j, st, hjl, hj30, rfl, hst, hZ, hb⟩ := hrel
    by_cases hlt : j < l.length
    case neg =>
      have hltI : ¬ (j : Int) < (l.length : Int) := by omega
      go_wp2_with fail
      refine (awake20_from HN HM HS _).mono ?_
      rintro e wz ⟨rfl, bz⟩
      go_wp2_with fail
      go_ret
      exact ⟨rfl, bnext hb bz⟩
    by_cases h30 : j < 30
    case neg =>
      have hltI : (j : Int) < (l.length : Int) := by omega
      have h30I : ¬ (j : Int) < 30 := by omega
      go_wp2_with fail
      refine (awake20_from HN HM HS _).mono ?_
      rintro e wz ⟨rfl, bz⟩
      go_wp2_with fail
      go_ret
      exact ⟨rfl, bnext hb bz⟩
    have hltI : (j : Int) < (l.length : Int) := by omega
    have h30I : (j : Int) < 30 := by omega
    have hj0 : (0 : Int) ≤ (j : Int) := by omega
    obtain ⟨b, off, rfl, hbl, hc⟩ := HAT.out (by omega)
    have hca := hc j hlt
    rw [← hb.cell (p := ⟨b, off + j, none⟩) hbl] at hca
    generalize l[j] = z at *
    clear hc
    go_wp2_with fail
    refine (place_in z 2251799813685248 _ (by decide) (by decide)).mono ?_
    rintro e w0 ⟨a, rfl, ha0, ha1, -, rfl⟩
    obtain ⟨u, hu⟩ : ∃ u : Int, u = a - 1125899906842624 := ⟨_, rfl⟩
    have wa : IntKind.i64.wrap (a - 1125899906842624) = a - 1125899906842624 := by rw [IntKind.wrap_i64]; omega
    have u1 : -1125899906842624 ≤ u := by omega
    have u2 : u ≤ 1125899906842624 := by omega
    go_wp2_with fail
    try rw [wa]
    rw [← hu]
    clear wa hu ha0 ha1 hca
    refine (HM gz (zsV kp ki st) u 1000000000 wr hZ (zsV_in hst) ⟨by omega, by omega⟩ (by decide)).mono ?_
    rintro e w21 ⟨rfl, h9, oq⟩
    replace hb := Only.below hb oq l_hZ hb.size
    replace hZ := h9
    clear h9 oq
    obtain ⟨b1, b2, b3, b4⟩ := zsV_set (kp := kp) (ki := ki) (st := st) (o := u) (i := 1000000000) (by omega) (by omega)
    rw [b4] at hZ
    rw [b1, b2, b3]
    clear b1 b2 b3 b4
    go_wp2_with fail
    refine (HD gz _ w21 hZ).mono ?_
    rintro e w22 ⟨rfl, bq⟩
    replace hZ := hZ.below bq
    replace hb := bnext hb bq
    clear bq
    go_wp2_with fail
    go_roundw
    case rel => exact ⟨j + 1, 1, by omega, by omega, by go_num, by decide, hZ, hb⟩
    case measure => simp [intOf]; omega

set_option maxRecDepth 100000 in
set_option maxHeartbeats 8000000 in
theorem servoClamps_from {R : List Value → Sv → Prop} (HN : CNewV R) (HM : CSamp R) (HS : CStaV R) (HD : CDriV R) (kp n : Int) (w : World) :
    Calls Try.prog 7 #[.int .i64 kp, .int .i64 n] w fun e w' => e = .returned (.bool true) ∧ Below w.heap.size w w' := by
  go_enter Try.func7, Try.ntmps7
  go_wp2_with fail
  refine (place_in kp 1001 _ (by decide) (by decide)).mono ?_
  rintro e w0 ⟨a, rfl, ha0, ha1, -, rfl⟩
  obtain ⟨k, hk⟩ : ∃ k : Int, k = 1000 + a := ⟨_, rfl⟩
  have wa : IntKind.i64.wrap (1000 + a) = 1000 + a := by rw [IntKind.wrap_i64]; omega
  have h1 : 1000 ≤ k := by omega
  have h2 : k ≤ 2000 := by omega
  go_wp2_with fail
  try rw [wa]
  rw [← hk]
  clear wa hk ha0 ha1
  refine (HN k 300 1000000000 w).mono ?_
  rintro e w1 ⟨ga, rfl, hg, h9, bq⟩
  have l_hA : w.heap.size ≤ ga := hg
  have hb := bq
  clear bq
  have hA := h9
  clear h9 hg
  go_wp2_with fail
  refine (HM ga _ 5 1000000000 w1 hA (newSv_in _ _ _) (by decide) (by decide)).mono ?_
  rintro e w2 ⟨rfl, h9, oq⟩
  replace hb := Only.below hb oq l_hA hb.size
  replace hA := h9
  clear h9 oq
  obtain ⟨b1, b2, b3, b4⟩ := new_set (kp := k) (ki := 300) (sp := 1000000000) (o := 5) (i := 1000000000) (by decide) (by decide)
  rw [b4, newK h1 h2] at hA
  replace hA : SvAt R w2 ga ⟨k, 300, 1000000000, 1, 0, 0, 0⟩ := hA
  rw [b1, b2, b3]
  clear b1 b2 b3 b4
  go_wp2_with fail
  go_loopw [7] (fun iv wr => ∃ (j : Int) (fq : Int), 0 ≤ j ∧ j ≤ 20 ∧ iv = .int .i64 j ∧ (-512000 ≤ fq ∧ fq ≤ 512000) ∧ SvAt R wr ga ⟨k, 300, 1000000000, 1, fq, 0, 0⟩ ∧ Below w.heap.size w wr) (fun iv _ => (20 - intOf iv).toNat)
  case atStart => exact ⟨0, 0, by decide, by decide, rfl, by decide, hA, hb⟩
  case round =>
    clear hA hb
    obtain ⟨j, fq, hj0, hj20, rfl, hfq, hA, hb⟩ := hrel
    go_wp2_with fail
    refine (place_in n 20 _ (by decide) (by decide)).mono ?_
    rintro e w0 ⟨a, rfl, ha0, ha1, -, rfl⟩
    by_cases hlt : j < 1 + a
    case neg =>
      go_wp2_with fail
      refine (HM ga ⟨k, 300, 1000000000, 1, fq, 0, 0⟩ (-900000000) 1000000000 wr hA (clampS_in h1 h2 hfq.1 hfq.2) (by decide) (by decide)).mono ?_
      rintro e w21 ⟨rfl, h9, oq⟩
      replace hb := Only.below hb oq l_hA hb.size
      replace hA := h9
      clear h9 oq
      obtain ⟨b1, b2, b3⟩ := clamp_lo (k := k) (fq := fq) h1 h2
      rw [b3] at hA
      rw [b1, b2]
      clear b1 b2 b3
      go_wp2_with fail
      refine (HD ga _ w21 hA).mono ?_
      rintro e w22 ⟨rfl, bq⟩
      replace hA := hA.below bq
      replace hb := bnext hb bq
      clear bq
      go_wp2_with fail
      refine (HS ga _ w22 hA).mono ?_
      rintro e w23 ⟨rfl, bq⟩
      replace hA := hA.below bq
      replace hb := bnext hb bq
      clear bq
      go_wp2_with fail
      refine (awake20_from HN HM HS _).mono ?_
      rintro e wz ⟨rfl, bz⟩
      go_wp2_with fail
      go_ret
      exact ⟨rfl, bnext hb bz⟩
    go_wp2_with fail
    refine (HM ga ⟨k, 300, 1000000000, 1, fq, 0, 0⟩ 900000000 1000000000 wr hA (clampS_in h1 h2 hfq.1 hfq.2) (by decide) (by decide)).mono ?_
    rintro e w41 ⟨rfl, h9, oq⟩
    replace hb := Only.below hb oq l_hA hb.size
    replace hA := h9
    clear h9 oq
    obtain ⟨b1, b2, b3⟩ := clamp_hi (k := k) (fq := fq) h1 h2
    rw [b3] at hA
    rw [b1, b2]
    clear b1 b2 b3
    go_wp2_with fail
    refine (HD ga _ w41 hA).mono ?_
    rintro e w42 ⟨rfl, bq⟩
    replace hA := hA.below bq
    replace hb := bnext hb bq
    clear bq
    go_wp2_with fail
    go_roundw
    case rel => exact ⟨j + 1, -512000, by omega, by omega, by go_num, by decide, hA, hb⟩
    case measure => simp [intOf]; omega

end Go.Proofs.Ytpiohedfhhkkhaa
