/- carillonlaw20's ServoBounds, from contracts (gen_srvlaws.py). -/
import Derived.Test.YtpiohedfhhkkhaaSrvLaws4
namespace Go.Proofs.Ytpiohedfhhkkhaa
open Go.RowKit Go.Proofs
set_option maxRecDepth 50000
set_option linter.unusedVariables false
set_option linter.unusedSimpArgs false

theorem set_when {s : Sv} {o K : Int} (h0 : -4000000000000000 ≤ o) (h1 : o ≤ 4000000000000000) (hsp : s.sp = K) : setV s o = (s.st == 0 || K == 0 || decide (K < o) || decide (o < -K)) := by
  unfold setV ocV
  rw [cutI_in h0 h1, hsp]

set_option maxRecDepth 100000 in
set_option maxHeartbeats 8000000 in
theorem servoBounds_from {R : List Value → Sv → Prop} (HN : CNewV R) (HM : CSamp R) (HS : CStaV R) (HF : CFreV R) (HD : CDriV R) (kp ki sp : Int) (v : Value) (l : List Int) (w : World) (hI : Ints w v l) :
    Calls Try.prog 3 #[.int .i64 kp, .int .i64 ki, .int .i64 sp, v] w fun e w' => e = .returned (.bool true) ∧ Below w.heap.size w w' := by
  obtain ⟨p, cap, rfl, hcap, hmax, hat⟩ := hI
  have HAT := hid fun h => hat.pos h
  unfold maxLen at hmax
  clear hat
  obtain ⟨K, hK⟩ : ∃ K : Int, K = min (max sp 0) 1000000000 := ⟨_, rfl⟩
  replace hK := hid hK
  go_enter Try.func3, Try.ntmps3
  go_wp2_with fail
  refine (HN kp ki sp w).mono ?_
  rintro e w1 ⟨ga, rfl, hg, h9, bq⟩
  have l_hA : w.heap.size ≤ ga := hg
  have hb := bq
  clear bq
  have hA := h9
  clear h9 hg
  replace hK := hK.out
  go_upto_region 4 with fail
  go_cut [10] (fun s w' => s = .int .i64 K ∧ w1 = w')
  case first =>
    go_wp2_with fail
    all_goals go_meet
    all_goals first
      | exact ⟨by rw [show K = 1000000000 by omega], rfl⟩
      | exact ⟨by rw [show K = 0 by omega], rfl⟩
      | exact ⟨by rw [show K = sp by omega], rfl⟩
  case rest =>
    obtain ⟨rfl, rfl⟩ := hcut
    have K0 : 0 ≤ K := by omega
    have K1 : K ≤ 1000000000 := by omega
    have hKs : (newSv kp ki sp).sp = K := by show cutI sp 0 1000000000 = K; unfold cutI; omega
    clear hK
    replace hKs := hid hKs
    go_wp2_with fail
    go_loopw [11] (fun iv wr => ∃ (j : Nat) (s : Sv), j ≤ l.length ∧ j ≤ 60 ∧ iv = .int .i64 (j : Int) ∧ InSv s ∧ s.cm ≤ j ∧ s.sp = K ∧ (j = 0 → s.st = 0) ∧ (0 < j → s.st = 1 ∨ s.st = 2) ∧ SvAt R wr ga s ∧ Below w.heap.size w wr) (fun iv _ => 60 - (intOf iv).toNat)
    case atStart => exact ⟨0, _, Nat.zero_le _, Nat.zero_le _, rfl, newSv_in _ _ _, Int.le_refl _, hKs.out, fun _ => rfl, fun h => absurd h (by decide), hA, hb⟩
    case round =>
      clear hA hb
      obtain ⟨j, s, hjl, hj60, rfl, hin, hcm, hsp, hs0, hs1, hA, hb⟩ := hrel
      replace hs0 := hid hs0
      replace hs1 := hid hs1
      replace hsp := hid hsp
      by_cases hlt : j < l.length
      case neg =>
        have hltI : ¬ (j : Int) < (l.length : Int) := by omega
        go_wp2_with fail
        refine (awake20_from HN HM HS _).mono ?_
        rintro e wz ⟨rfl, bz⟩
        go_wp2_with fail
        go_ret
        exact ⟨rfl, bnext hb bz⟩
      by_cases h60 : j < 60
      case neg =>
        have hltI : (j : Int) < (l.length : Int) := by omega
        have h60I : ¬ (j : Int) < 60 := by omega
        go_wp2_with fail
        refine (awake20_from HN HM HS _).mono ?_
        rintro e wz ⟨rfl, bz⟩
        go_wp2_with fail
        go_ret
        exact ⟨rfl, bnext hb bz⟩
      have hltI : (j : Int) < (l.length : Int) := by omega
      have h60I : (j : Int) < 60 := by omega
      have hj0 : (0 : Int) ≤ (j : Int) := by omega
      obtain ⟨b, off, rfl, hbl, hc⟩ := HAT.out (by omega)
      have hca := hc j hlt
      rw [← hb.cell (p := ⟨b, off + j, none⟩) hbl] at hca
      generalize l[j] = z at *
      clear hc
      go_wp2_with fail
      refine (place_in z 2199023255552 _ (by decide) (by decide)).mono ?_
      rintro e w0 ⟨a, rfl, ha0, ha1, -, rfl⟩
      obtain ⟨o', ho⟩ : ∃ o : Int, o = a - 1099511627776 := ⟨_, rfl⟩
      have wa : IntKind.i64.wrap (a - 1099511627776) = a - 1099511627776 := by rw [IntKind.wrap_i64]; omega
      have o1 : -2000000000000 ≤ o' := by omega
      have o2 : o' ≤ 2000000000000 := by omega
      cases hpar : ((j : Int) % 2 == 1)
      · skip
        go_wp2_with fail
        try rw [wa]
        rw [← ho]
        clear wa ho ha0 ha1 hca
        refine (HM ga s o' 1000000000 wr hA hin ⟨by omega, by omega⟩ (by decide)).mono ?_
        rintro e w21 ⟨rfl, h9, oq⟩
        replace hb := Only.below hb oq l_hA hb.size
        replace hA := h9
        clear h9 oq
        have e1 := set_when (s := s) (o := o') (K := K) (by omega) (by omega) hsp.out
        have y2 := frV_in (s := s) (o := o') (i := 1000000000) hin
        have y4 : setV s o' = true → byV s o' = -o' := fun h => by rw [(nxV_set (i := 0) h).2.1]; unfold ocV; rw [cutI_in (by omega) (by omega)]
        have y5 : setV s o' = false → byV s o' = 0 := fun h => (nxV_not (i := 0) h).2
        have nfq : (nxV s o' 1000000000).fq = frV s o' 1000000000 := nxV_fq
        have nst : (nxV s o' 1000000000).st = 1 ∨ (nxV s o' 1000000000).st = 2 := nxV_st (by have := hin.2.2.2.1; omega)
        have nin := nxV_in (o := o') (i := 1000000000) hin (by omega)
        have y3 := nin.2.2.2.2.2.1
        have ncm := cm_next2 (o := o') (i := 1000000000) hcm
        have nsp : (nxV s o' 1000000000).sp = K := by rw [nxV_kp.2.2]; exact hsp.out
        have z1 : 1 ≤ (nxV s o' 1000000000).st := by omega
        have z2 : (nxV s o' 1000000000).st ≤ 2 := by omega
        generalize hX : nxV s o' 1000000000 = X at *
        generalize frV s o' 1000000000 = F at *
        generalize byV s o' = Y at *
        generalize setV s o' = T at *
        clear hX
        replace nst := hid nst
        replace nin := hid nin
        replace ncm := hid ncm
        replace nsp := hid nsp
        replace nfq := hid nfq
        replace e1 := hid e1
        clear hin hcm hpar
        have hwk : -1000000000 ≤ -K := by omega
        by_cases t0 : j = 0
        · have hT : T = true := by rw [e1.out, hs0.out t0]; rfl
          subst hT
          have hY := y4 rfl
          subst hY
          have t0I : ((j : Int) == 0) = true := by simp only [beq_iff_eq]; omega
          clear t0
          clear y4 y5
          go_wp2_with fail
          refine (HF ga X w21 hA).mono ?_
          rintro e w22 ⟨rfl, bq⟩
          replace hA := hA.below bq
          replace hb := bnext hb bq
          clear bq
          rw [nfq.out]
          go_wp2_with fail
          refine (HD ga X w22 hA).mono ?_
          rintro e w23 ⟨rfl, bq⟩
          replace hA := hA.below bq
          replace hb := bnext hb bq
          clear bq
          go_wp2_with fail
          refine (HD ga X w23 hA).mono ?_
          rintro e w24 ⟨rfl, bq⟩
          replace hA := hA.below bq
          replace hb := bnext hb bq
          clear bq
          go_wp2_with fail
          refine (HS ga X w24 hA).mono ?_
          rintro e w25 ⟨rfl, bq⟩
          replace hA := hA.below bq
          replace hb := bnext hb bq
          clear bq
          go_wp2_with fail
          refine (HS ga X w25 hA).mono ?_
          rintro e w26 ⟨rfl, bq⟩
          replace hA := hA.below bq
          replace hb := bnext hb bq
          clear bq
          go_wp2_with fail
          go_roundw
          case rel => exact ⟨j + 1, X, by omega, by omega, by go_num, nin.out, ncm.out, nsp.out, fun h => absurd h (by omega), fun _ => nst.out, hA, hb⟩
          case measure => simp [intOf]; omega
        have t0I : ((j : Int) == 0) = false := beq_false_of_ne (by omega)
        have hst : (s.st == 0) = false := beq_false_of_ne (by have := hs1.out (by omega); omega)
        by_cases t1 : K = 0
        · have hT : T = true := by rw [e1.out, hst, t1]; rfl
          subst hT
          have hY := y4 rfl
          subst hY
          have t1I : (K == 0) = true := by simp only [beq_iff_eq]; exact t1
          clear t1 hst t0
          clear y4 y5
          go_wp2_with fail
          refine (HF ga X w21 hA).mono ?_
          rintro e w22 ⟨rfl, bq⟩
          replace hA := hA.below bq
          replace hb := bnext hb bq
          clear bq
          rw [nfq.out]
          go_wp2_with fail
          refine (HD ga X w22 hA).mono ?_
          rintro e w23 ⟨rfl, bq⟩
          replace hA := hA.below bq
          replace hb := bnext hb bq
          clear bq
          go_wp2_with fail
          refine (HD ga X w23 hA).mono ?_
          rintro e w24 ⟨rfl, bq⟩
          replace hA := hA.below bq
          replace hb := bnext hb bq
          clear bq
          go_wp2_with fail
          refine (HS ga X w24 hA).mono ?_
          rintro e w25 ⟨rfl, bq⟩
          replace hA := hA.below bq
          replace hb := bnext hb bq
          clear bq
          go_wp2_with fail
          refine (HS ga X w25 hA).mono ?_
          rintro e w26 ⟨rfl, bq⟩
          replace hA := hA.below bq
          replace hb := bnext hb bq
          clear bq
          go_wp2_with fail
          go_roundw
          case rel => exact ⟨j + 1, X, by omega, by omega, by go_num, nin.out, ncm.out, nsp.out, fun h => absurd h (by omega), fun _ => nst.out, hA, hb⟩
          case measure => simp [intOf]; omega
        have t1I : (K == 0) = false := beq_false_of_ne t1
        by_cases t2 : K < o'
        · have hT : T = true := by rw [e1.out, hst, t1I, decide_eq_true t2]; rfl
          subst hT
          have hY := y4 rfl
          subst hY
          clear t1 hst t0
          clear y4 y5
          go_wp2_with fail
          refine (HF ga X w21 hA).mono ?_
          rintro e w22 ⟨rfl, bq⟩
          replace hA := hA.below bq
          replace hb := bnext hb bq
          clear bq
          rw [nfq.out]
          go_wp2_with fail
          refine (HD ga X w22 hA).mono ?_
          rintro e w23 ⟨rfl, bq⟩
          replace hA := hA.below bq
          replace hb := bnext hb bq
          clear bq
          go_wp2_with fail
          refine (HD ga X w23 hA).mono ?_
          rintro e w24 ⟨rfl, bq⟩
          replace hA := hA.below bq
          replace hb := bnext hb bq
          clear bq
          go_wp2_with fail
          refine (HS ga X w24 hA).mono ?_
          rintro e w25 ⟨rfl, bq⟩
          replace hA := hA.below bq
          replace hb := bnext hb bq
          clear bq
          go_wp2_with fail
          refine (HS ga X w25 hA).mono ?_
          rintro e w26 ⟨rfl, bq⟩
          replace hA := hA.below bq
          replace hb := bnext hb bq
          clear bq
          go_wp2_with fail
          go_roundw
          case rel => exact ⟨j + 1, X, by omega, by omega, by go_num, nin.out, ncm.out, nsp.out, fun h => absurd h (by omega), fun _ => nst.out, hA, hb⟩
          case measure => simp [intOf]; omega
        by_cases t3 : o' < -K
        · have hT : T = true := by rw [e1.out, hst, t1I, decide_eq_false t2, decide_eq_true t3]; rfl
          subst hT
          have hY := y4 rfl
          subst hY
          clear t1 hst t0
          clear y4 y5
          go_wp2_with fail
          refine (HF ga X w21 hA).mono ?_
          rintro e w22 ⟨rfl, bq⟩
          replace hA := hA.below bq
          replace hb := bnext hb bq
          clear bq
          rw [nfq.out]
          go_wp2_with fail
          refine (HD ga X w22 hA).mono ?_
          rintro e w23 ⟨rfl, bq⟩
          replace hA := hA.below bq
          replace hb := bnext hb bq
          clear bq
          go_wp2_with fail
          refine (HD ga X w23 hA).mono ?_
          rintro e w24 ⟨rfl, bq⟩
          replace hA := hA.below bq
          replace hb := bnext hb bq
          clear bq
          go_wp2_with fail
          refine (HS ga X w24 hA).mono ?_
          rintro e w25 ⟨rfl, bq⟩
          replace hA := hA.below bq
          replace hb := bnext hb bq
          clear bq
          go_wp2_with fail
          refine (HS ga X w25 hA).mono ?_
          rintro e w26 ⟨rfl, bq⟩
          replace hA := hA.below bq
          replace hb := bnext hb bq
          clear bq
          go_wp2_with fail
          go_roundw
          case rel => exact ⟨j + 1, X, by omega, by omega, by go_num, nin.out, ncm.out, nsp.out, fun h => absurd h (by omega), fun _ => nst.out, hA, hb⟩
          case measure => simp [intOf]; omega
        · have hT : T = false := by rw [e1.out, hst, t1I, decide_eq_false t2, decide_eq_false t3]; rfl
          subst hT
          have hY := y5 rfl
          subst hY
          clear t1 hst t0
          clear y4 y5
          go_wp2_with fail
          refine (HF ga X w21 hA).mono ?_
          rintro e w22 ⟨rfl, bq⟩
          replace hA := hA.below bq
          replace hb := bnext hb bq
          clear bq
          rw [nfq.out]
          go_wp2_with fail
          refine (HD ga X w22 hA).mono ?_
          rintro e w23 ⟨rfl, bq⟩
          replace hA := hA.below bq
          replace hb := bnext hb bq
          clear bq
          go_wp2_with fail
          refine (HD ga X w23 hA).mono ?_
          rintro e w24 ⟨rfl, bq⟩
          replace hA := hA.below bq
          replace hb := bnext hb bq
          clear bq
          go_wp2_with fail
          refine (HS ga X w24 hA).mono ?_
          rintro e w25 ⟨rfl, bq⟩
          replace hA := hA.below bq
          replace hb := bnext hb bq
          clear bq
          go_wp2_with fail
          refine (HS ga X w25 hA).mono ?_
          rintro e w26 ⟨rfl, bq⟩
          replace hA := hA.below bq
          replace hb := bnext hb bq
          clear bq
          go_wp2_with fail
          go_roundw
          case rel => exact ⟨j + 1, X, by omega, by omega, by go_num, nin.out, ncm.out, nsp.out, fun h => absurd h (by omega), fun _ => nst.out, hA, hb⟩
          case measure => simp [intOf]; omega
      · skip
        go_wp2_with fail
        refine (place_in z 2001 _ (by decide) (by decide)).mono ?_
        rintro e w0 ⟨a2, rfl, hb0, hb1, -, rfl⟩
        obtain ⟨o'', ho2⟩ : ∃ o : Int, o = a2 - 1000 := ⟨_, rfl⟩
        have wb : IntKind.i64.wrap (a2 - 1000) = a2 - 1000 := by rw [IntKind.wrap_i64]; omega
        have p1 : -1000 ≤ o'' := by omega
        have p2 : o'' ≤ 1000 := by omega
        clear wa ho ha0 ha1 o1 o2
        go_wp2_with fail
        try rw [wb]
        rw [← ho2]
        clear wb ho2 hb0 hb1 hca
        refine (HM ga s o'' 1000000000 wr hA hin ⟨by omega, by omega⟩ (by decide)).mono ?_
        rintro e w21 ⟨rfl, h9, oq⟩
        replace hb := Only.below hb oq l_hA hb.size
        replace hA := h9
        clear h9 oq
        have e1 := set_when (s := s) (o := o'') (K := K) (by omega) (by omega) hsp.out
        have y2 := frV_in (s := s) (o := o'') (i := 1000000000) hin
        have y4 : setV s o'' = true → byV s o'' = -o'' := fun h => by rw [(nxV_set (i := 0) h).2.1]; unfold ocV; rw [cutI_in (by omega) (by omega)]
        have y5 : setV s o'' = false → byV s o'' = 0 := fun h => (nxV_not (i := 0) h).2
        have nfq : (nxV s o'' 1000000000).fq = frV s o'' 1000000000 := nxV_fq
        have nst : (nxV s o'' 1000000000).st = 1 ∨ (nxV s o'' 1000000000).st = 2 := nxV_st (by have := hin.2.2.2.1; omega)
        have nin := nxV_in (o := o'') (i := 1000000000) hin (by omega)
        have y3 := nin.2.2.2.2.2.1
        have ncm := cm_next2 (o := o'') (i := 1000000000) hcm
        have nsp : (nxV s o'' 1000000000).sp = K := by rw [nxV_kp.2.2]; exact hsp.out
        have z1 : 1 ≤ (nxV s o'' 1000000000).st := by omega
        have z2 : (nxV s o'' 1000000000).st ≤ 2 := by omega
        generalize hX : nxV s o'' 1000000000 = X at *
        generalize frV s o'' 1000000000 = F at *
        generalize byV s o'' = Y at *
        generalize setV s o'' = T at *
        clear hX
        replace nst := hid nst
        replace nin := hid nin
        replace ncm := hid ncm
        replace nsp := hid nsp
        replace nfq := hid nfq
        replace e1 := hid e1
        clear hin hcm hpar
        have hwk : -1000000000 ≤ -K := by omega
        by_cases t0 : j = 0
        · have hT : T = true := by rw [e1.out, hs0.out t0]; rfl
          subst hT
          have hY := y4 rfl
          subst hY
          have t0I : ((j : Int) == 0) = true := by simp only [beq_iff_eq]; omega
          clear t0
          clear y4 y5
          go_wp2_with fail
          refine (HF ga X w21 hA).mono ?_
          rintro e w22 ⟨rfl, bq⟩
          replace hA := hA.below bq
          replace hb := bnext hb bq
          clear bq
          rw [nfq.out]
          go_wp2_with fail
          refine (HD ga X w22 hA).mono ?_
          rintro e w23 ⟨rfl, bq⟩
          replace hA := hA.below bq
          replace hb := bnext hb bq
          clear bq
          go_wp2_with fail
          refine (HD ga X w23 hA).mono ?_
          rintro e w24 ⟨rfl, bq⟩
          replace hA := hA.below bq
          replace hb := bnext hb bq
          clear bq
          go_wp2_with fail
          refine (HS ga X w24 hA).mono ?_
          rintro e w25 ⟨rfl, bq⟩
          replace hA := hA.below bq
          replace hb := bnext hb bq
          clear bq
          go_wp2_with fail
          refine (HS ga X w25 hA).mono ?_
          rintro e w26 ⟨rfl, bq⟩
          replace hA := hA.below bq
          replace hb := bnext hb bq
          clear bq
          go_wp2_with fail
          go_roundw
          case rel => exact ⟨j + 1, X, by omega, by omega, by go_num, nin.out, ncm.out, nsp.out, fun h => absurd h (by omega), fun _ => nst.out, hA, hb⟩
          case measure => simp [intOf]; omega
        have t0I : ((j : Int) == 0) = false := beq_false_of_ne (by omega)
        have hst : (s.st == 0) = false := beq_false_of_ne (by have := hs1.out (by omega); omega)
        by_cases t1 : K = 0
        · have hT : T = true := by rw [e1.out, hst, t1]; rfl
          subst hT
          have hY := y4 rfl
          subst hY
          have t1I : (K == 0) = true := by simp only [beq_iff_eq]; exact t1
          clear t1 hst t0
          clear y4 y5
          go_wp2_with fail
          refine (HF ga X w21 hA).mono ?_
          rintro e w22 ⟨rfl, bq⟩
          replace hA := hA.below bq
          replace hb := bnext hb bq
          clear bq
          rw [nfq.out]
          go_wp2_with fail
          refine (HD ga X w22 hA).mono ?_
          rintro e w23 ⟨rfl, bq⟩
          replace hA := hA.below bq
          replace hb := bnext hb bq
          clear bq
          go_wp2_with fail
          refine (HD ga X w23 hA).mono ?_
          rintro e w24 ⟨rfl, bq⟩
          replace hA := hA.below bq
          replace hb := bnext hb bq
          clear bq
          go_wp2_with fail
          refine (HS ga X w24 hA).mono ?_
          rintro e w25 ⟨rfl, bq⟩
          replace hA := hA.below bq
          replace hb := bnext hb bq
          clear bq
          go_wp2_with fail
          refine (HS ga X w25 hA).mono ?_
          rintro e w26 ⟨rfl, bq⟩
          replace hA := hA.below bq
          replace hb := bnext hb bq
          clear bq
          go_wp2_with fail
          go_roundw
          case rel => exact ⟨j + 1, X, by omega, by omega, by go_num, nin.out, ncm.out, nsp.out, fun h => absurd h (by omega), fun _ => nst.out, hA, hb⟩
          case measure => simp [intOf]; omega
        have t1I : (K == 0) = false := beq_false_of_ne t1
        by_cases t2 : K < o''
        · have hT : T = true := by rw [e1.out, hst, t1I, decide_eq_true t2]; rfl
          subst hT
          have hY := y4 rfl
          subst hY
          clear t1 hst t0
          clear y4 y5
          go_wp2_with fail
          refine (HF ga X w21 hA).mono ?_
          rintro e w22 ⟨rfl, bq⟩
          replace hA := hA.below bq
          replace hb := bnext hb bq
          clear bq
          rw [nfq.out]
          go_wp2_with fail
          refine (HD ga X w22 hA).mono ?_
          rintro e w23 ⟨rfl, bq⟩
          replace hA := hA.below bq
          replace hb := bnext hb bq
          clear bq
          go_wp2_with fail
          refine (HD ga X w23 hA).mono ?_
          rintro e w24 ⟨rfl, bq⟩
          replace hA := hA.below bq
          replace hb := bnext hb bq
          clear bq
          go_wp2_with fail
          refine (HS ga X w24 hA).mono ?_
          rintro e w25 ⟨rfl, bq⟩
          replace hA := hA.below bq
          replace hb := bnext hb bq
          clear bq
          go_wp2_with fail
          refine (HS ga X w25 hA).mono ?_
          rintro e w26 ⟨rfl, bq⟩
          replace hA := hA.below bq
          replace hb := bnext hb bq
          clear bq
          go_wp2_with fail
          go_roundw
          case rel => exact ⟨j + 1, X, by omega, by omega, by go_num, nin.out, ncm.out, nsp.out, fun h => absurd h (by omega), fun _ => nst.out, hA, hb⟩
          case measure => simp [intOf]; omega
        by_cases t3 : o'' < -K
        · have hT : T = true := by rw [e1.out, hst, t1I, decide_eq_false t2, decide_eq_true t3]; rfl
          subst hT
          have hY := y4 rfl
          subst hY
          clear t1 hst t0
          clear y4 y5
          go_wp2_with fail
          refine (HF ga X w21 hA).mono ?_
          rintro e w22 ⟨rfl, bq⟩
          replace hA := hA.below bq
          replace hb := bnext hb bq
          clear bq
          rw [nfq.out]
          go_wp2_with fail
          refine (HD ga X w22 hA).mono ?_
          rintro e w23 ⟨rfl, bq⟩
          replace hA := hA.below bq
          replace hb := bnext hb bq
          clear bq
          go_wp2_with fail
          refine (HD ga X w23 hA).mono ?_
          rintro e w24 ⟨rfl, bq⟩
          replace hA := hA.below bq
          replace hb := bnext hb bq
          clear bq
          go_wp2_with fail
          refine (HS ga X w24 hA).mono ?_
          rintro e w25 ⟨rfl, bq⟩
          replace hA := hA.below bq
          replace hb := bnext hb bq
          clear bq
          go_wp2_with fail
          refine (HS ga X w25 hA).mono ?_
          rintro e w26 ⟨rfl, bq⟩
          replace hA := hA.below bq
          replace hb := bnext hb bq
          clear bq
          go_wp2_with fail
          go_roundw
          case rel => exact ⟨j + 1, X, by omega, by omega, by go_num, nin.out, ncm.out, nsp.out, fun h => absurd h (by omega), fun _ => nst.out, hA, hb⟩
          case measure => simp [intOf]; omega
        · have hT : T = false := by rw [e1.out, hst, t1I, decide_eq_false t2, decide_eq_false t3]; rfl
          subst hT
          have hY := y5 rfl
          subst hY
          clear t1 hst t0
          clear y4 y5
          go_wp2_with fail
          refine (HF ga X w21 hA).mono ?_
          rintro e w22 ⟨rfl, bq⟩
          replace hA := hA.below bq
          replace hb := bnext hb bq
          clear bq
          rw [nfq.out]
          go_wp2_with fail
          refine (HD ga X w22 hA).mono ?_
          rintro e w23 ⟨rfl, bq⟩
          replace hA := hA.below bq
          replace hb := bnext hb bq
          clear bq
          go_wp2_with fail
          refine (HD ga X w23 hA).mono ?_
          rintro e w24 ⟨rfl, bq⟩
          replace hA := hA.below bq
          replace hb := bnext hb bq
          clear bq
          go_wp2_with fail
          refine (HS ga X w24 hA).mono ?_
          rintro e w25 ⟨rfl, bq⟩
          replace hA := hA.below bq
          replace hb := bnext hb bq
          clear bq
          go_wp2_with fail
          refine (HS ga X w25 hA).mono ?_
          rintro e w26 ⟨rfl, bq⟩
          replace hA := hA.below bq
          replace hb := bnext hb bq
          clear bq
          go_wp2_with fail
          go_roundw
          case rel => exact ⟨j + 1, X, by omega, by omega, by go_num, nin.out, ncm.out, nsp.out, fun h => absurd h (by omega), fun _ => nst.out, hA, hb⟩
          case measure => simp [intOf]; omega

end Go.Proofs.Ytpiohedfhhkkhaa
