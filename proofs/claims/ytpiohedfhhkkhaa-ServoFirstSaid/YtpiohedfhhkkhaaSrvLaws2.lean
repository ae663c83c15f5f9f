/- carillonlaw20's ServoSettles, from contracts (gen_srvlaws.py). -/
import Derived.Test.YtpiohedfhhkkhaaSrvLaws1
namespace Go.Proofs.Ytpiohedfhhkkhaa
open Go.RowKit Go.Proofs
set_option maxRecDepth 50000
set_option linter.unusedVariables false
set_option linter.unusedSimpArgs false

def bseq : Nat → Int
  | 0 => 50000
  | n + 1 => (29 * bseq n + 112) / 40 + 1
theorem bseq_in : ∀ n, 0 ≤ bseq n ∧ bseq n ≤ 50000
  | 0 => by decide
  | n + 1 => by
    have h := bseq_in n
    show 0 ≤ (29 * bseq n + 112) / 40 + 1 ∧ (29 * bseq n + 112) / 40 + 1 ≤ 50000
    omega
theorem bseq_small : ∀ n, bseq (60 + n) ≤ 20
  | 0 => by decide
  | n + 1 => by
    have h := bseq_small n
    have h0 := bseq_in (60 + n)
    show (29 * bseq (60 + n) + 112) / 40 + 1 ≤ 20
    omega
theorem bseq_after {n : Nat} (h : 60 ≤ n) : bseq n ≤ 20 := by
  obtain ⟨k, rfl⟩ : ∃ k, n = 60 + k := ⟨n - 60, by omega⟩
  exact bseq_small k
theorem tdiv_near (a : Int) : -999 ≤ 1000 * a.tdiv 1000 - a ∧ 1000 * a.tdiv 1000 - a ≤ 999 := by
  have h := Int.mul_tdiv_add_tmod a 1000
  have h1 := Int.tmod_lt_of_pos a (show (0 : Int) < 1000 by decide)
  have h2 : -1000 < a.tmod 1000 := by
    have := Int.tmod_lt_of_pos (-a) (show (0 : Int) < 1000 by decide)
    rw [Int.neg_tmod] at this
    omega
  omega
/-- One sample, nothing clamped. -/
theorem settle_one {st fq dr cm x : Int} (hst : st = 1 ∨ st = 2) (h1 : -112500 ≤ x) (h2 : x ≤ 112500) (h3 : -200000 ≤ dr) (h4 : dr ≤ 200000) :
    ∃ d f : Int, setV ⟨700, 300, 20000000, st, fq, dr, cm⟩ x = false ∧ byV ⟨700, 300, 20000000, st, fq, dr, cm⟩ x = 0 ∧ frV ⟨700, 300, 20000000, st, fq, dr, cm⟩ x 1000000000 = f ∧
      (∃ st' cm' : Int, nxV ⟨700, 300, 20000000, st, fq, dr, cm⟩ x 1000000000 = ⟨700, 300, 20000000, st', f, d, cm'⟩ ∧ (st' = 1 ∨ st' = 2) ∧ (0 ≤ cm → 0 ≤ cm' ∧ cm' ≤ cm + 1) ∧ (-100 ≤ x → x ≤ 100 → cm' = cm + 1 ∧ (2 ≤ cm → st' = 2))) ∧
      (-999 ≤ 1000 * (d - dr) - 300 * x ∧ 1000 * (d - dr) - 300 * x ≤ 999) ∧ (-999 ≤ 1000 * (-f - d) - 700 * x ∧ 1000 * (-f - d) - 700 * x ≤ 999) := by
  have ho : ocV x = x := cutI_in (by omega) (by omega)
  have hs : setV ⟨700, 300, 20000000, st, fq, dr, cm⟩ x = false := by
    show ((st == 0) || ((20000000 : Int) == 0) || decide ((20000000 : Int) < ocV x) || decide (ocV x < -20000000)) = false
    rw [ho, beq_false_of_ne (show st ≠ 0 by omega), decide_eq_false (show ¬ (20000000 : Int) < x by omega), decide_eq_false (show ¬ x < -20000000 by omega)]
    rfl
  have hr : rtV x 1000000000 = x := by
    unfold rtV
    rw [ho, show icV 1000000000 = 1000000000 by decide, Int.mul_tdiv_cancel _ (by decide)]
    exact cutI_in (by omega) (by omega)
  have t3 := tdiv_near (300 * x)
  have t7 := tdiv_near (700 * x)
  generalize hq : (300 * x).tdiv 1000 = q at t3
  generalize hp : (700 * x).tdiv 1000 = p at t7
  have hd : ndV ⟨700, 300, 20000000, st, fq, dr, cm⟩ x 1000000000 = dr + q := by
    show cutI (dr + (300 * rtV x 1000000000).tdiv 1000) (-512000) 512000 = dr + q
    rw [hr, hq]
    exact cutI_in (by omega) (by omega)
  have hf : rfV ⟨700, 300, 20000000, st, fq, dr, cm⟩ x 1000000000 = -p - (dr + q) := by
    unfold rfV
    rw [hd]
    show -((700 * rtV x 1000000000).tdiv 1000) - (dr + q) = _
    rw [hr, hp]
  have hc : cutI (-p - (dr + q)) (-512000) 512000 = -p - (dr + q) := cutI_in (by omega) (by omega)
  refine ⟨dr + q, -p - (dr + q), hs, (nxV_not (i := 0) hs).2, by unfold frV; rw [hs, hf]; exact hc, ?_, by omega, by omega⟩
  have hn : nxV ⟨700, 300, 20000000, st, fq, dr, cm⟩ x 1000000000 = ⟨700, 300, 20000000, if grB x then 1 else if smB x ∧ 3 ≤ cm + 1 then 2 else st, -p - (dr + q), dr + q, if smB x then cm + 1 else 0⟩ := by
    unfold nxV
    rw [hs, hf, hc, hd, if_neg (show ¬ (-p - (dr + q) < -512000 ∨ 512000 < -p - (dr + q)) by omega)]
    rfl
  refine ⟨_, _, hn, ?_, ?_, ?_⟩
  · split
    · exact .inl rfl
    · split
      · exact .inr rfl
      · exact hst
  · intro h
    split <;> omega
  · intro ha hb
    have hsm : smB x = true := by unfold smB; rw [ho]; exact decide_eq_true ⟨ha, hb⟩
    have hgr : grB x = false := by unfold grB; rw [ho]; exact decide_eq_false (by omega)
    refine ⟨by rw [hsm]; rfl, fun h => ?_⟩
    rw [hsm, hgr, if_neg (by decide), if_pos ⟨rfl, by omega⟩]
theorem settle_in {st fq dr cm : Int} (h1 : st = 1 ∨ st = 2) (h2 : -512000 ≤ fq ∧ fq ≤ 512000) (h3 : -200000 ≤ dr ∧ dr ≤ 200000) (h4 : 0 ≤ cm ∧ cm ≤ 200) : InSv ⟨700, 300, 20000000, st, fq, dr, cm⟩ :=
  ⟨by show (0 : Int) ≤ 700 ∧ (700 : Int) ≤ 2000; decide, by show (0 : Int) ≤ 300 ∧ (300 : Int) ≤ 2000; decide, by show (0 : Int) ≤ 20000000 ∧ (20000000 : Int) ≤ 1000000000; decide, by show 0 ≤ st ∧ st ≤ 2; omega, h2, by show -512000 ≤ dr ∧ dr ≤ 512000; omega, by show 0 ≤ cm ∧ cm ≤ 4611686018427387904; omega⟩
theorem settle_next {r x dr x' d f B : Int} (hB : 0 ≤ B ∧ B ≤ 50000) (hr : -50000 ≤ r ∧ r ≤ 50000) (hu : -B ≤ 2 * (r - dr) - x ∧ 2 * (r - dr) - x ≤ B) (hx : -(9 * B) ≤ 4 * x ∧ 4 * x ≤ 9 * B)
    (hd : -999 ≤ 1000 * (d - dr) - 300 * x ∧ 1000 * (d - dr) - 300 * x ≤ 999) (hf : -999 ≤ 1000 * (-f - d) - 700 * x ∧ 1000 * (-f - d) - 700 * x ≤ 999) (hx' : x' = x + r + f) :
    (-((29 * B + 112) / 40 + 1) ≤ 2 * (r - d) - x' ∧ 2 * (r - d) - x' ≤ (29 * B + 112) / 40 + 1) ∧ (-(9 * ((29 * B + 112) / 40 + 1)) ≤ 4 * x' ∧ 4 * x' ≤ 9 * ((29 * B + 112) / 40 + 1)) := by
  generalize hb : (29 * B + 112) / 40 = b
  have hb1 : 40 * b + 39 ≥ 29 * B + 112 := by omega
  omega

set_option maxRecDepth 100000 in
set_option maxHeartbeats 8000000 in
theorem servoSettles_from {R : List Value → Sv → Prop} (HN : CNewV R) (HM : CSamp R) (HS : CStaV R) (rate first : Int) (w : World) :
    Calls Try.prog 5 #[.int .i64 rate, .int .i64 first] w fun e w' => e = .returned (.bool true) ∧ Below w.heap.size w w' := by
  go_enter Try.func5, Try.ntmps5
  go_wp2_with fail
  refine (HN 700 300 20000000 w).mono ?_
  rintro e w1 ⟨ga, rfl, hg, h9, bq⟩
  have l_hA : w.heap.size ≤ ga := hg
  have hb := bq
  clear bq
  have hA := h9
  clear h9 hg
  go_wp2_with fail
  refine (place_in rate 100001 _ (by decide) (by decide)).mono ?_
  rintro e w0 ⟨a, rfl, ha0, ha1, -, rfl⟩
  obtain ⟨r, hr⟩ : ∃ r : Int, r = a - 50000 := ⟨_, rfl⟩
  have wa : IntKind.i64.wrap (a - 50000) = a - 50000 := by rw [IntKind.wrap_i64]; omega
  have hr0 : -50000 ≤ r := by omega
  have hr1 : r ≤ 50000 := by omega
  go_wp2_with fail
  try rw [wa]
  rw [← hr]
  clear wa hr ha0 ha1
  refine (place_in first 2000001 _ (by decide) (by decide)).mono ?_
  rintro e w0 ⟨a, rfl, ha0, ha1, -, rfl⟩
  obtain ⟨x0, hx0⟩ : ∃ x : Int, x = a - 1000000 := ⟨_, rfl⟩
  have wa : IntKind.i64.wrap (a - 1000000) = a - 1000000 := by rw [IntKind.wrap_i64]; omega
  have x00 : -1000000 ≤ x0 := by omega
  have x01 : x0 ≤ 1000000 := by omega
  go_wp2_with fail
  try rw [wa]
  rw [← hx0]
  clear wa hx0 ha0 ha1
  go_loopw [7, 8] (fun xv iv wr => ∃ (j : Nat) (x : Int) (s : Sv), j ≤ 120 ∧ iv = .int .i64 (j : Int) ∧ xv = .int .i64 x ∧ SvAt R wr ga s ∧ Below w.heap.size w wr ∧
      ((j = 0 ∧ x = x0 ∧ s = newSv 700 300 20000000) ∨ (∃ (m : Nat) (st fq dr cm : Int), j = m + 1 ∧ s = ⟨700, 300, 20000000, st, fq, dr, cm⟩ ∧ (st = 1 ∨ st = 2) ∧ (-512000 ≤ fq ∧ fq ≤ 512000) ∧ (0 ≤ cm ∧ cm ≤ j) ∧ ((j : Int) ≤ cm + 70) ∧ (73 ≤ j → st = 2) ∧
        (-(bseq m) ≤ 2 * (r - dr) - x ∧ 2 * (r - dr) - x ≤ bseq m) ∧ (-(9 * bseq m) ≤ 4 * x ∧ 4 * x ≤ 9 * bseq m)))) (fun _ iv _ => 120 - (intOf iv).toNat)
  case atStart => exact ⟨0, x0, _, by decide, rfl, rfl, hA, hb, .inl ⟨rfl, rfl, rfl⟩⟩
  case round =>
    clear hA hb
    obtain ⟨j, x, s, hj, rfl, rfl, hA, hb, hcase⟩ := hrel
    by_cases hlt : j < 120
    case neg =>
      have hltI : ¬ (j : Int) < 120 := by omega
      have hj0 : (0 : Int) ≤ (j : Int) := by omega
      obtain ⟨h0, -, -⟩ | ⟨m, st, fq, dr, cm, hjm, rfl, hst, hfq, hcm, hc70, h73, hu, hx⟩ := hcase
      · omega
      obtain rfl : st = 2 := h73 (by omega)
      clear hu hx hcm hc70 hst hjm h73 hfq
      go_wp2_with fail
      refine (HS ga _ wr hA).mono ?_
      rintro e wq ⟨rfl, bq⟩
      replace hb := bnext hb bq
      go_wp2_with fail
      refine (awake20_from HN HM HS _).mono ?_
      rintro e wz ⟨rfl, bz⟩
      go_wp2_with fail
      go_ret
      exact ⟨rfl, bnext hb bz⟩
    have hltI : (j : Int) < 120 := by omega
    have hj0 : (0 : Int) ≤ (j : Int) := by omega
    obtain ⟨rfl, rfl, rfl⟩ | ⟨m, st, fq, dr, cm, hjm, rfl, hst, hfq, hcm, hc70, h73, hu, hx⟩ := hcase
    · skip
      clear hltI hj0 hlt hj
      go_wp2_with fail
      refine (HM ga _ x 1000000000 wr hA (newSv_in _ _ _) ⟨by omega, by omega⟩ (by decide)).mono ?_
      rintro e w21 ⟨rfl, h9, oq⟩
      replace hb := Only.below hb oq l_hA hb.size
      replace hA := h9
      clear h9 oq
      obtain ⟨b1, b2, b3, b4⟩ := new_set (kp := 700) (ki := 300) (sp := 20000000) (o := x) (i := 1000000000) (by omega) (by omega)
      rw [b4] at hA
      replace hA : SvAt R w21 ga ⟨700, 300, 20000000, 1, 0, 0, 0⟩ := hA
      rw [b1, b2, b3]
      clear b1 b2 b3 b4
      have wx : IntKind.i64.wrap (x + -x) = 0 := by rw [IntKind.wrap_i64]; omega
      go_wp2_with fail
      try rw [wx]
      go_wp2_with fail
      go_roundw
      case rel => exact ⟨1, r, _, by decide, by go_num, by first | rfl | (congr 1; omega), hA, hb, .inr ⟨0, 1, 0, 0, 0, rfl, rfl, .inl rfl, by decide, by decide, by decide, by decide, by show -50000 ≤ 2 * (r - 0) - r ∧ 2 * (r - 0) - r ≤ 50000; omega, by show -(9 * 50000) ≤ 4 * r ∧ 4 * r ≤ 9 * 50000; omega⟩⟩
      case measure => simp [intOf]
    · skip
      have hB := bseq_in m
      have hdr : -200000 ≤ dr ∧ dr ≤ 200000 := by omega
      obtain ⟨d, f, b1, b2, b3, ⟨st', cm', b4, hst', hcm', hsm⟩, hd, hf⟩ := settle_one (st := st) (fq := fq) (dr := dr) (cm := cm) (x := x) hst (by omega) (by omega) hdr.1 hdr.2
      have hin := settle_in hst hfq hdr (show 0 ≤ cm ∧ cm ≤ 200 by omega)
      have hxr : -9223372036854775808 ≤ x ∧ x ≤ 9223372036854775807 := by omega
      obtain ⟨x', hx'⟩ : ∃ x' : Int, x' = x + r + f := ⟨_, rfl⟩
      obtain ⟨n1, n2⟩ := settle_next hB ⟨hr0, hr1⟩ hu hx hd hf hx'
      replace n1 : -(bseq (m + 1)) ≤ 2 * (r - d) - x' ∧ 2 * (r - d) - x' ≤ bseq (m + 1) := n1
      replace n2 : -(9 * bseq (m + 1)) ≤ 4 * x' ∧ 4 * x' ≤ 9 * bseq (m + 1) := n2
      have hB' := bseq_in (m + 1)
      have hfr : -512000 ≤ f ∧ f ≤ 512000 := by omega
      have hcm2 := hcm' hcm.1
      have hsmall : 60 ≤ m → cm' = cm + 1 ∧ (2 ≤ cm → st' = 2) := fun h => by
        have h20 := bseq_after h
        exact hsm (by omega) (by omega)
      have hxs : 60 ≤ m + 1 → -100 ≤ x' ∧ x' ≤ 100 := fun h => by
        have h20 := bseq_after h
        omega
      have w1' : IntKind.i64.wrap (x + r) = x + r := by rw [IntKind.wrap_i64]; omega
      have w2' : IntKind.i64.wrap (x + r + f) = x' := by rw [IntKind.wrap_i64]; omega
      have hxa : -150000 ≤ x' ∧ x' ≤ 150000 := by omega
      have fin : ((j + 1 : Nat) : Int) ≤ cm' + 70 ∧ (73 ≤ j + 1 → st' = 2) := by
        by_cases h : 60 ≤ m
        · have hh := hsmall h
          exact ⟨by omega, fun h2 => hh.2 (by omega)⟩
        · exact ⟨by omega, fun h2 => absurd h2 (by omega)⟩
      replace hd := hid hd
      replace hf := hid hf
      replace hu := hid hu
      replace hx := hid hx
      replace n1 := hid n1
      replace n2 := hid n2
      replace hcm := hid hcm
      replace hcm2 := hid hcm2
      replace fin := hid fin
      replace hx' := hid hx'
      replace hst' := hid hst'
      replace hjm := hid hjm
      clear hcm' hsm hsmall h73 hc70 hB hB' hst
      go_wp2_with fail
      refine (HM ga ⟨700, 300, 20000000, st, fq, dr, cm⟩ x 1000000000 wr hA hin hxr (by decide)).mono ?_
      rintro e w41 ⟨rfl, h9, oq⟩
      replace hb := Only.below hb oq l_hA hb.size
      replace hA := h9
      clear h9 oq
      rw [b4] at hA
      rw [b1, b2, b3]
      clear b1 b2 b3 b4 hin
      by_cases h80 : 80 < j
      · have hq := hxs (by have := hjm.out; omega)
        have hq1 : ¬ 100 < x' := by omega
        have hq2 : ¬ x' < -100 := by omega
        have h80I : 80 < (j : Int) := by omega
        clear hxs
        go_wp2_with fail
        go_roundw
        case rel => exact ⟨j + 1, x', _, by omega, by go_num, by first | rfl | (congr 1; have := hx'.out; omega), hA, hb, .inr ⟨m + 1, st', f, d, cm', by have := hjm.out; omega, rfl, hst'.out, hfr, by have := hcm2.out; have := hcm.out; omega, fin.out.1, fin.out.2, n1.out, n2.out⟩⟩
        case measure => simp [intOf]; omega
      · have h80I : ¬ 80 < (j : Int) := by omega
        clear hxs
        go_wp2_with fail
        go_roundw
        case rel => exact ⟨j + 1, x', _, by omega, by go_num, by first | rfl | (congr 1; have := hx'.out; omega), hA, hb, .inr ⟨m + 1, st', f, d, cm', by have := hjm.out; omega, rfl, hst'.out, hfr, by have := hcm2.out; have := hcm.out; omega, fin.out.1, fin.out.2, n1.out, n2.out⟩⟩
        case measure => simp [intOf]; omega

end Go.Proofs.Ytpiohedfhhkkhaa
