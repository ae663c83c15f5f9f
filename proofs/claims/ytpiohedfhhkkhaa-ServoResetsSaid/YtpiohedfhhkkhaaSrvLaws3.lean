/- carillonlaw20's ServoResets, from contracts (gen_srvlaws.py). -/
import Derived.Test.YtpiohedfhhkkhaaSrvLaws1
namespace Go.Proofs.Ytpiohedfhhkkhaa
open Go.RowKit Go.Proofs
set_option maxRecDepth 50000
set_option linter.unusedVariables false
set_option linter.unusedSimpArgs false

theorem cm_next {s : Sv} {o i : Int} {j : Nat} (h : s.cm ≤ j) : (nxV s o i).cm ≤ ((j + 1 : Nat) : Int) := by
  have := nxV_cm (s := s) (o := o) (i := i)
  omega

def CSampN (R : List Value → Sv → Prop) : Prop := ∀ (g : Nat) (s : Sv) (o i : Int) (w : World), SvAt R w g s → InSv s →
  Calls Try.prog 11 #[.pointer (some ⟨g, 0, none⟩), .int .i64 o, .int .i64 i] w fun e w' => e = .returned (.tuple #[.int .i64 (byV s o), .bool (setV s o), .int .i64 (frV s o i)]) ∧ SvAt R w' g (nxV s o i) ∧ Only g w w'
set_option maxRecDepth 100000 in
set_option maxHeartbeats 8000000 in
theorem servoResets_from {R : List Value → Sv → Prop} (HN : CNewV R) (HMN : CSampN R) (HS : CStaV R) (HF : CFreV R) (HD : CDriV R) (HR : CRstV R) (kp ki sp : Int) (v : Value) (l : List Int) (v2 : Value) (l2 : List Int) (w : World) (hI : Ints w v l) (hI2 : Ints w v2 l2) :
    Calls Try.prog 6 #[.int .i64 kp, .int .i64 ki, .int .i64 sp, v, v2] w fun e w' => e = .returned (.bool true) ∧ Below w.heap.size w w' := by
  obtain ⟨p, cap, rfl, hcap, hmax, hat⟩ := hI
  obtain ⟨q, capq, rfl, hcapq, hmaxq, hatq⟩ := hI2
  have HAT := hid fun h => hat.pos h
  have HQT := hid fun h => hatq.pos h
  have HM : CSamp R := fun g s o i w h1 h2 _ _ => HMN g s o i w h1 h2
  unfold maxLen at hmax hmaxq
  clear hat hatq
  go_enter Try.func6, Try.ntmps6
  go_wp2_with fail
  refine (HN kp ki sp w).mono ?_
  rintro e w1 ⟨ga, rfl, hg, h9, bq⟩
  have l_hA : w.heap.size ≤ ga := hg
  have hb := bq
  clear bq
  have hA := h9
  clear h9 hg
  go_wp2_with fail
  refine (HN kp ki sp w1).mono ?_
  rintro e w2 ⟨gz, rfl, hg, h9, bq⟩
  have n_hA_hZ : ga ≠ gz := by have h1 := hA.lt; have h2 := hg; omega
  have l_hZ : w.heap.size ≤ gz := Nat.le_trans hb.size (hg)
  replace hA := hA.below bq
  replace hb := bnext hb bq
  clear bq
  have hZ := h9
  clear h9 hg
  go_wp2_with fail
  go_loopw [13] (fun iv wr => ∃ (j : Nat) (s : Sv), j ≤ l.length ∧ j ≤ 40 ∧ iv = .int .i64 (j : Int) ∧ InSv s ∧ s.cm ≤ j ∧ (s.kp = cutI kp 0 2000 ∧ s.ki = cutI ki 0 2000 ∧ s.sp = cutI sp 0 1000000000) ∧ SvAt R wr ga s ∧ SvAt R wr gz (newSv kp ki sp) ∧ Below w.heap.size w wr) (fun iv _ => 40 - (intOf iv).toNat)
  case atStart => exact ⟨0, _, Nat.zero_le _, Nat.zero_le _, rfl, newSv_in _ _ _, Int.le_refl _, ⟨rfl, rfl, rfl⟩, hA, hZ, hb⟩
  case round =>
    clear hA hZ hb
    obtain ⟨j, s, hjl, hj40, rfl, hin, hcm, hk, hA, hZ, hb⟩ := hrel
    by_cases hgo : j < l.length ∧ j < 40
    · skip
      obtain ⟨hlt, h40⟩ := hgo
      have hltI : (j : Int) < (l.length : Int) := by omega
      have h40I : (j : Int) < 40 := by omega
      have hj0 : (0 : Int) ≤ (j : Int) := by omega
      obtain ⟨b, off, rfl, hbl, hc⟩ := HAT.out (by omega)
      have hca := hc j hlt
      rw [← hb.cell (p := ⟨b, off + j, none⟩) hbl] at hca
      generalize l[j] = z at *
      clear hc
      go_wp2_with fail
      refine (HMN ga s z 1000000000 wr hA hin).mono ?_
      rintro e w21 ⟨rfl, h9, oq⟩
      replace hZ := hZ.only oq (Ne.symm n_hA_hZ)
      replace hb := Only.below hb oq l_hA hb.size
      replace hA := h9
      clear h9 oq
      go_wp2_with fail
      go_roundw
      case rel => exact ⟨j + 1, _, by omega, by omega, by go_num, nxV_in hin (by omega), cm_next hcm, by rw [nxV_kp.1, nxV_kp.2.1, nxV_kp.2.2]; exact hk, hA, hZ, hb⟩
      case measure => simp [intOf]; omega
    · skip
      have hno : ¬ ((j : Int) < (l.length : Int) ∧ (j : Int) < 40) := by omega
      by_cases hlt : j < l.length
      case pos =>
        have hltI : (j : Int) < (l.length : Int) := by omega
        have h40I : ¬ (j : Int) < 40 := by omega
        clear hno hgo
        go_wp2_with fail
        refine (HR ga s wr hA).mono ?_
        rintro e w51 ⟨rfl, h9, oq⟩
        replace hZ := hZ.only oq (Ne.symm n_hA_hZ)
        replace hb := Only.below hb oq l_hA hb.size
        replace hA := h9
        clear h9 oq
        rw [rst_new kp ki sp hk] at hA
        go_wp2_with fail
        refine (HS ga _ w51 hA).mono ?_
        rintro e w52 ⟨rfl, bq⟩
        replace hA := hA.below bq
        replace hZ := hZ.below bq
        replace hb := bnext hb bq
        clear bq
        rw [show (newSv kp ki sp).st = 0 from rfl]
        go_wp2_with fail
        refine (HF ga _ w52 hA).mono ?_
        rintro e w53 ⟨rfl, bq⟩
        replace hA := hA.below bq
        replace hZ := hZ.below bq
        replace hb := bnext hb bq
        clear bq
        rw [show (newSv kp ki sp).fq = 0 from rfl]
        go_wp2_with fail
        refine (HD ga _ w53 hA).mono ?_
        rintro e w54 ⟨rfl, bq⟩
        replace hA := hA.below bq
        replace hZ := hZ.below bq
        replace hb := bnext hb bq
        clear bq
        rw [show (newSv kp ki sp).dr = 0 from rfl]
        clear hin hcm hk hjl hj40 hlt hltI
        go_wp2_with fail
        go_loopw [14] (fun iv wr => ∃ (j : Nat) (s : Sv), j ≤ l2.length ∧ j ≤ 40 ∧ iv = .int .i64 (j : Int) ∧ InSv s ∧ s.cm ≤ j ∧ SvAt R wr ga s ∧ SvAt R wr gz s ∧ Below w.heap.size w wr) (fun iv _ => 40 - (intOf iv).toNat)
        case atStart => exact ⟨0, _, Nat.zero_le _, Nat.zero_le _, rfl, newSv_in _ _ _, Int.le_refl _, hA, hZ, hb⟩
        case round =>
          clear hA hZ hb
          obtain ⟨j, s, hjl, hj40, rfl, hin, hcm, hA, hZ, hb⟩ := hrel
          by_cases hlt : j < l2.length
          case neg =>
            have hltI : ¬ (j : Int) < (l2.length : Int) := by omega
            go_wp2_with fail
            refine (awake20_from HN HM HS _).mono ?_
            rintro e wz ⟨rfl, bz⟩
            go_wp2_with fail
            go_ret
            exact ⟨rfl, bnext hb bz⟩
          by_cases h40 : j < 40
          case neg =>
            have hltI : (j : Int) < (l2.length : Int) := by omega
            have h40I : ¬ (j : Int) < 40 := by omega
            go_wp2_with fail
            refine (awake20_from HN HM HS _).mono ?_
            rintro e wz ⟨rfl, bz⟩
            go_wp2_with fail
            go_ret
            exact ⟨rfl, bnext hb bz⟩
          have hltI : (j : Int) < (l2.length : Int) := by omega
          have h40I : (j : Int) < 40 := by omega
          have hj0 : (0 : Int) ≤ (j : Int) := by omega
          obtain ⟨b, off, rfl, hbl, hc⟩ := HQT.out (by omega)
          have hcz : ∀ wx, Below w.heap.size w wx → wx.cell? ⟨b, off + j, none⟩ = some (.int .i64 l2[j]) := fun wx hx => by rw [hx.cell (p := ⟨b, off + j, none⟩) hbl]; exact hc j hlt
          have hca := hcz _ hb
          generalize l2[j] = z at *
          clear hc
          go_wp2_with fail
          clear hca
          refine (HMN ga s z 1000000000 wr hA hin).mono ?_
          rintro e w71 ⟨rfl, h9, oq⟩
          replace hZ := hZ.only oq (Ne.symm n_hA_hZ)
          replace hb := Only.below hb oq l_hA hb.size
          replace hA := h9
          clear h9 oq
          have hca := hcz _ hb
          go_wp2_with fail
          refine (HMN gz s z 1000000000 w71 hZ hin).mono ?_
          rintro e w72 ⟨rfl, h9, oq⟩
          replace hA := hA.only oq n_hA_hZ
          replace hb := Only.below hb oq l_hZ hb.size
          replace hZ := h9
          clear h9 oq
          go_wp2_with fail
          refine (HS ga _ w72 hA).mono ?_
          rintro e w73 ⟨rfl, bq⟩
          replace hA := hA.below bq
          replace hZ := hZ.below bq
          replace hb := bnext hb bq
          clear bq
          go_wp2_with fail
          refine (HS gz _ w73 hZ).mono ?_
          rintro e w74 ⟨rfl, bq⟩
          replace hA := hA.below bq
          replace hZ := hZ.below bq
          replace hb := bnext hb bq
          clear bq
          go_wp2_with fail
          go_roundw
          case rel => exact ⟨j + 1, _, by omega, by omega, by go_num, nxV_in hin (by omega), cm_next hcm, hA, hZ, hb⟩
          case measure => simp [intOf]; omega
      case neg =>
        have hltI : ¬ (j : Int) < (l.length : Int) := by omega
        clear hno hgo
        go_wp2_with fail
        refine (HR ga s wr hA).mono ?_
        rintro e w51 ⟨rfl, h9, oq⟩
        replace hZ := hZ.only oq (Ne.symm n_hA_hZ)
        replace hb := Only.below hb oq l_hA hb.size
        replace hA := h9
        clear h9 oq
        rw [rst_new kp ki sp hk] at hA
        go_wp2_with fail
        refine (HS ga _ w51 hA).mono ?_
        rintro e w52 ⟨rfl, bq⟩
        replace hA := hA.below bq
        replace hZ := hZ.below bq
        replace hb := bnext hb bq
        clear bq
        rw [show (newSv kp ki sp).st = 0 from rfl]
        go_wp2_with fail
        refine (HF ga _ w52 hA).mono ?_
        rintro e w53 ⟨rfl, bq⟩
        replace hA := hA.below bq
        replace hZ := hZ.below bq
        replace hb := bnext hb bq
        clear bq
        rw [show (newSv kp ki sp).fq = 0 from rfl]
        go_wp2_with fail
        refine (HD ga _ w53 hA).mono ?_
        rintro e w54 ⟨rfl, bq⟩
        replace hA := hA.below bq
        replace hZ := hZ.below bq
        replace hb := bnext hb bq
        clear bq
        rw [show (newSv kp ki sp).dr = 0 from rfl]
        clear hin hcm hk hjl hj40 hlt hltI
        go_wp2_with fail
        go_loopw [14] (fun iv wr => ∃ (j : Nat) (s : Sv), j ≤ l2.length ∧ j ≤ 40 ∧ iv = .int .i64 (j : Int) ∧ InSv s ∧ s.cm ≤ j ∧ SvAt R wr ga s ∧ SvAt R wr gz s ∧ Below w.heap.size w wr) (fun iv _ => 40 - (intOf iv).toNat)
        case atStart => exact ⟨0, _, Nat.zero_le _, Nat.zero_le _, rfl, newSv_in _ _ _, Int.le_refl _, hA, hZ, hb⟩
        case round =>
          clear hA hZ hb
          obtain ⟨j, s, hjl, hj40, rfl, hin, hcm, hA, hZ, hb⟩ := hrel
          by_cases hlt : j < l2.length
          case neg =>
            have hltI : ¬ (j : Int) < (l2.length : Int) := by omega
            go_wp2_with fail
            refine (awake20_from HN HM HS _).mono ?_
            rintro e wz ⟨rfl, bz⟩
            go_wp2_with fail
            go_ret
            exact ⟨rfl, bnext hb bz⟩
          by_cases h40 : j < 40
          case neg =>
            have hltI : (j : Int) < (l2.length : Int) := by omega
            have h40I : ¬ (j : Int) < 40 := by omega
            go_wp2_with fail
            refine (awake20_from HN HM HS _).mono ?_
            rintro e wz ⟨rfl, bz⟩
            go_wp2_with fail
            go_ret
            exact ⟨rfl, bnext hb bz⟩
          have hltI : (j : Int) < (l2.length : Int) := by omega
          have h40I : (j : Int) < 40 := by omega
          have hj0 : (0 : Int) ≤ (j : Int) := by omega
          obtain ⟨b, off, rfl, hbl, hc⟩ := HQT.out (by omega)
          have hcz : ∀ wx, Below w.heap.size w wx → wx.cell? ⟨b, off + j, none⟩ = some (.int .i64 l2[j]) := fun wx hx => by rw [hx.cell (p := ⟨b, off + j, none⟩) hbl]; exact hc j hlt
          have hca := hcz _ hb
          generalize l2[j] = z at *
          clear hc
          go_wp2_with fail
          clear hca
          refine (HMN ga s z 1000000000 wr hA hin).mono ?_
          rintro e w71 ⟨rfl, h9, oq⟩
          replace hZ := hZ.only oq (Ne.symm n_hA_hZ)
          replace hb := Only.below hb oq l_hA hb.size
          replace hA := h9
          clear h9 oq
          have hca := hcz _ hb
          go_wp2_with fail
          refine (HMN gz s z 1000000000 w71 hZ hin).mono ?_
          rintro e w72 ⟨rfl, h9, oq⟩
          replace hA := hA.only oq n_hA_hZ
          replace hb := Only.below hb oq l_hZ hb.size
          replace hZ := h9
          clear h9 oq
          go_wp2_with fail
          refine (HS ga _ w72 hA).mono ?_
          rintro e w73 ⟨rfl, bq⟩
          replace hA := hA.below bq
          replace hZ := hZ.below bq
          replace hb := bnext hb bq
          clear bq
          go_wp2_with fail
          refine (HS gz _ w73 hZ).mono ?_
          rintro e w74 ⟨rfl, bq⟩
          replace hA := hA.below bq
          replace hZ := hZ.below bq
          replace hb := bnext hb bq
          clear bq
          go_wp2_with fail
          go_roundw
          case rel => exact ⟨j + 1, _, by omega, by omega, by go_num, nxV_in hin (by omega), cm_next hcm, hA, hZ, hb⟩
          case measure => simp [intOf]; omega

end Go.Proofs.Ytpiohedfhhkkhaa
