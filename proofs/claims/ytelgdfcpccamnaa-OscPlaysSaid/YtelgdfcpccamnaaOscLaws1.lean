/- carillonlaw24's awake, OscSteps, OscSteers, OscSmall, from contracts (gen_osclaws.py). -/
import Derived.Test.YtelgdfcpccamnaaOsc
namespace Go.Proofs.Ytelgdfcpccamnaa
open Go.RowKit Go.Proofs
set_option maxRecDepth 50000
set_option linter.unusedVariables false
set_option linter.unusedSimpArgs false

set_option maxRecDepth 100000 in
set_option maxHeartbeats 8000000 in
theorem awake24_from {R : List Value → Oz → Prop} (HN : CNewO R) (HR : CReadO R) (HRa : CRateO R) (HFr : CFreqO R) (w : World) :
    Calls Try.prog 20 #[] w fun e w' => e = .returned (.bool true) ∧ Below w.heap.size w w' := by
  go_enter Try.func20, Try.ntmps20
  go_wp2_with fail
  refine (HN 0 1000 w (by decide) (by decide)).mono ?_
  rintro e w1 ⟨ga, rfl, hg, h9, bq⟩
  have l_hA : w.heap.size ≤ ga := hg
  have hb := bq
  clear bq
  have hA := h9
  clear h9 hg
  have e1 : readO (newO 0 1000) 1000000000 = 1000001000 := by decide
  have INA := newO_in 0 1000
  go_wp2_with fail
  refine (HR ga _ 1000000000 w1 hA INA (by decide)).mono ?_
  rintro e w2 ⟨rfl, bq⟩
  replace hA := hA.below bq
  replace hb := bnext hb bq
  clear bq
  rw [e1]
  clear e1
  go_wp2_with fail
  refine (HRa ga _ w2 hA).mono ?_
  rintro e w3 ⟨rfl, bq⟩
  replace hA := hA.below bq
  replace hb := bnext hb bq
  clear bq
  rw [show (newO 0 1000).r = 1000 from by decide]
  go_wp2_with fail
  refine (HFr ga _ w3 hA).mono ?_
  rintro e w4 ⟨rfl, bq⟩
  replace hA := hA.below bq
  replace hb := bnext hb bq
  clear bq
  rw [show (newO 0 1000).f = 0 from rfl]
  go_wp2_with fail
  go_ret
  exact ⟨rfl, hb⟩

set_option maxRecDepth 100000 in
set_option maxHeartbeats 8000000 in
theorem oscSteps_from {R : List Value → Oz → Prop} (HN : CNewO R) (HR : CReadO R) (HRa : CRateO R) (HFr : CFreqO R) (HS : CStepO R) (local' rate t b later : Int) (hr : -9223372036854775808 ≤ rate ∧ rate ≤ 9223372036854775807) (w : World) :
    Calls Try.prog 4 #[.int .i64 local', .int .i64 rate, .int .i64 t, .int .i64 b, .int .i64 later] w fun e w' => e = .returned (.bool true) ∧ Below w.heap.size w w' := by
  go_enter Try.func4, Try.ntmps4
  go_wp2_with fail
  refine (place_in local' 500000000000000 _ (by decide) (by decide)).mono ?_
  rintro e w0 ⟨a, rfl, ha0, ha1, -, rfl⟩
  obtain ⟨l, hl⟩ : ∃ l : Int, l = a + 500000000000000 := ⟨_, rfl⟩
  have wa : IntKind.i64.wrap (a + 500000000000000) = a + 500000000000000 := by rw [IntKind.wrap_i64]; omega
  have l1 : 500000000000000 ≤ l := by omega
  have l2 : l < 1000000000000000 := by omega
  go_wp2_with fail
  try rw [wa]
  rw [← hl]
  clear wa hl ha0 ha1
  refine (HN l rate w ⟨by omega, by omega⟩ hr).mono ?_
  rintro e w1 ⟨ga, rfl, hg, h9, bq⟩
  have l_hA : w.heap.size ≤ ga := hg
  have hb := bq
  clear bq
  have hA := h9
  clear h9 hg
  go_wp2_with fail
  refine (HN l rate w1 ⟨by omega, by omega⟩ hr).mono ?_
  rintro e w2 ⟨gc, rfl, hg, h9, bq⟩
  have n_hA_hC : ga ≠ gc := by have h1 := hA.lt; have h2 := hg; omega
  have l_hC : w.heap.size ≤ gc := Nat.le_trans hb.size (hg)
  replace hA := hA.below bq
  replace hb := bnext hb bq
  clear bq
  have hC := h9
  clear h9 hg
  go_wp2_with fail
  refine (place_in t 1000 _ (by decide) (by decide)).mono ?_
  rintro e w0 ⟨k, rfl, hk0, hk1, -, rfl⟩
  obtain ⟨x, hx⟩ : ∃ x : Int, x = k * 1000000000 := ⟨_, rfl⟩
  have wa : IntKind.i64.wrap (k * 1000000000) = k * 1000000000 := by rw [IntKind.wrap_i64]; omega
  go_wp2_with fail
  try rw [wa]
  rw [← hx]
  have HX := hid hx
  have hx1 : 0 ≤ x := by omega
  have hx2 : x < 1000000000000 := by omega
  clear wa hx
  refine (place_in b 500000000000000 _ (by decide) (by decide)).mono ?_
  rintro e w0 ⟨c, rfl, hc0, hc1, -, rfl⟩
  obtain ⟨n, hn⟩ : ∃ n : Int, n = c - 250000000000000 := ⟨_, rfl⟩
  have wa : IntKind.i64.wrap (c - 250000000000000) = c - 250000000000000 := by rw [IntKind.wrap_i64]; omega
  have n1 : -250000000000000 ≤ n := by omega
  have n2 : n < 250000000000000 := by omega
  go_wp2_with fail
  try rw [wa]
  rw [← hn]
  clear wa hn hc0 hc1
  have INA := newO_in l rate
  refine (HS ga _ x n w2 hA INA ⟨by omega, by omega⟩ ⟨by omega, by omega⟩).mono ?_
  rintro e w3 ⟨rfl, h9, oq⟩
  replace hC := hC.only oq (Ne.symm n_hA_hC)
  replace hb := Only.below hb oq l_hA hb.size
  replace hA := h9
  clear h9 oq
  go_wp2_with fail
  refine (place_in later 1000 _ (by decide) (by decide)).mono ?_
  rintro e w0 ⟨j, rfl, hj0, hj1, -, rfl⟩
  obtain ⟨y, hy⟩ : ∃ y : Int, y = x + j * 1000000000 := ⟨_, rfl⟩
  have wa : IntKind.i64.wrap (j * 1000000000) = j * 1000000000 := by rw [IntKind.wrap_i64]; omega
  have wb : IntKind.i64.wrap (x + j * 1000000000) = x + j * 1000000000 := by rw [IntKind.wrap_i64]; omega
  go_wp2_with fail
  try rw [wa]
  try rw [wb]
  rw [← hy]
  obtain ⟨q1, q2⟩ := stepO_eq (rate := rate) l1 l2 hk0 hk1 hj0 hj1 n1 n2 HX.out hy
  have hy1 : 0 ≤ y := by omega
  have hy2 : y < 3000000000000 := by omega
  have INB := stepO_in INA x n
  have QA := hid q1
  have QB := hid q2
  clear wa wb hy q1 q2 hj0 hj1 hk0 hk1
  refine (HR ga _ x w3 hA INB ⟨by omega, by omega⟩).mono ?_
  rintro e w4 ⟨rfl, bq⟩
  replace hA := hA.below bq
  replace hC := hC.below bq
  replace hb := bnext hb bq
  clear bq
  rw [QA.out]
  go_wp2_with fail
  refine (HR gc _ x w4 hC INA ⟨by omega, by omega⟩).mono ?_
  rintro e w5 ⟨rfl, bq⟩
  replace hA := hA.below bq
  replace hC := hC.below bq
  replace hb := bnext hb bq
  clear bq
  have r1 := readO_range (newO l rate) x
  have wa : IntKind.i64.wrap (readO (newO l rate) x + n) = readO (newO l rate) x + n := by rw [IntKind.wrap_i64]; omega
  clear r1
  generalize readO (newO l rate) x = V1 at *
  go_wp2_with fail
  refine (HR ga _ y w5 hA INB ⟨by omega, by omega⟩).mono ?_
  rintro e w6 ⟨rfl, bq⟩
  replace hA := hA.below bq
  replace hC := hC.below bq
  replace hb := bnext hb bq
  clear bq
  rw [QB.out]
  go_wp2_with fail
  refine (HR gc _ y w6 hC INA ⟨by omega, by omega⟩).mono ?_
  rintro e w7 ⟨rfl, bq⟩
  replace hA := hA.below bq
  replace hC := hC.below bq
  replace hb := bnext hb bq
  clear bq
  have r1 := readO_range (newO l rate) y
  have wa2 : IntKind.i64.wrap (readO (newO l rate) y + n) = readO (newO l rate) y + n := by rw [IntKind.wrap_i64]; omega
  clear r1
  generalize readO (newO l rate) y = V2 at *
  go_wp2_with fail
  refine (awake24_from HN HR HRa HFr _).mono ?_
  rintro e wz ⟨rfl, bz⟩
  go_wp2_with fail
  go_ret
  exact ⟨rfl, bnext hb bz⟩

set_option maxRecDepth 100000 in
set_option maxHeartbeats 8000000 in
theorem oscSteers_from {R : List Value → Oz → Prop} (HN : CNewO R) (HR : CReadO R) (HRa : CRateO R) (HFr : CFreqO R) (HF : CSetFO R) (local' rate t later : Int) (w : World) :
    Calls Try.prog 5 #[.int .i64 local', .int .i64 rate, .int .i64 t, .int .i64 later] w fun e w' => e = .returned (.bool true) ∧ Below w.heap.size w w' := by
  go_enter Try.func5, Try.ntmps5
  go_wp2_with fail
  refine (place_in local' 1000000000000000 _ (by decide) (by decide)).mono ?_
  rintro e w0 ⟨l, rfl, hl0, hl1, -, rfl⟩
  go_wp2_with fail
  refine (place_in rate 1000001 _ (by decide) (by decide)).mono ?_
  rintro e w0 ⟨a, rfl, ha0, ha1, -, rfl⟩
  obtain ⟨r, hr⟩ : ∃ r : Int, r = a - 500000 := ⟨_, rfl⟩
  have wa : IntKind.i64.wrap (a - 500000) = a - 500000 := by rw [IntKind.wrap_i64]; omega
  have r1 : -500000 ≤ r := by omega
  have r2 : r ≤ 500000 := by omega
  go_wp2_with fail
  try rw [wa]
  rw [← hr]
  clear wa hr ha0 ha1
  refine (HN l r w ⟨by omega, by omega⟩ ⟨by omega, by omega⟩).mono ?_
  rintro e w1 ⟨ga, rfl, hg, h9, bq⟩
  have l_hA : w.heap.size ≤ ga := hg
  have hb := bq
  clear bq
  have hA := h9
  clear h9 hg
  go_wp2_with fail
  refine (place_in t 1000000 _ (by decide) (by decide)).mono ?_
  rintro e w0 ⟨u, rfl, hu0, hu1, -, rfl⟩
  obtain ⟨x, hx⟩ : ∃ x : Int, x = u * 1000000 := ⟨_, rfl⟩
  have wa : IntKind.i64.wrap (u * 1000000) = u * 1000000 := by rw [IntKind.wrap_i64]; omega
  go_wp2_with fail
  try rw [wa]
  rw [← hx]
  have HX := hid hx
  have hx1 : 0 ≤ x := by omega
  have hx2 : x < 1000000000000 := by omega
  have INA := newO_in l r
  have hwr : IntKind.i64.wrap (-r) = -r := by rw [IntKind.wrap_i64]; omega
  clear wa hx
  refine (HR ga _ x w1 hA INA ⟨by omega, by omega⟩).mono ?_
  rintro e w2 ⟨rfl, bq⟩
  replace hA := hA.below bq
  replace hb := bnext hb bq
  clear bq
  go_wp2_with fail
  try rw [hwr]
  refine (HF ga _ x (-r) w2 hA INA ⟨by omega, by omega⟩ ⟨by omega, by omega⟩).mono ?_
  rintro e w3 ⟨rfl, h9, oq⟩
  replace hb := Only.below hb oq l_hA hb.size
  replace hA := h9
  clear h9 oq
  go_wp2_with fail
  refine (place_in later 1000000 _ (by decide) (by decide)).mono ?_
  rintro e w0 ⟨v, rfl, hv0, hv1, -, rfl⟩
  obtain ⟨y, hy⟩ : ∃ y : Int, y = v * 1000000 := ⟨_, rfl⟩
  have wa : IntKind.i64.wrap (v * 1000000) = v * 1000000 := by rw [IntKind.wrap_i64]; omega
  have hy1 : 0 ≤ y := by omega
  have hy2 : y < 1000000000000 := by omega
  obtain ⟨q1, q2, q3, q4, q5⟩ := steerO_eq hl0 hl1 r1 r2 hu0 hu1 hv0 hv1 HX.out hy
  go_wp2_with fail
  try rw [wa]
  rw [← hy]
  have wb : IntKind.i64.wrap (x + y) = x + y := by rw [IntKind.wrap_i64]; omega
  have INB := setFO_in INA x (-r)
  have hq6 := readO_range (newO l r) x
  have Q1 := hid q1
  have Q2 := hid q2
  have Q3 := hid q3
  have Q4 := hid q4
  have wc : IntKind.i64.wrap (readO (newO l r) x + y) = readO (newO l r) x + y := by rw [IntKind.wrap_i64]; omega
  clear wa hy q1 q2 q3 q4 q5 hq6 hu0 hu1 hv0 hv1
  generalize readO (newO l r) x = V at *
  refine (HR ga _ x w3 hA INB ⟨by omega, by omega⟩).mono ?_
  rintro e w4 ⟨rfl, bq⟩
  replace hA := hA.below bq
  replace hb := bnext hb bq
  clear bq
  rw [Q1.out]
  go_wp2_with fail
  try rw [wb]
  refine (HR ga _ (x + y) w4 hA INB ⟨by omega, by omega⟩).mono ?_
  rintro e w5 ⟨rfl, bq⟩
  replace hA := hA.below bq
  replace hb := bnext hb bq
  clear bq
  rw [Q2.out]
  go_wp2_with fail
  refine (HRa ga _ w5 hA).mono ?_
  rintro e w6 ⟨rfl, bq⟩
  replace hA := hA.below bq
  replace hb := bnext hb bq
  clear bq
  rw [Q3.out]
  go_wp2_with fail
  refine (HFr ga _ w6 hA).mono ?_
  rintro e w7 ⟨rfl, bq⟩
  replace hA := hA.below bq
  replace hb := bnext hb bq
  clear bq
  rw [Q4.out]
  go_wp2_with fail
  refine (awake24_from HN HR HRa HFr _).mono ?_
  rintro e wz ⟨rfl, bz⟩
  go_wp2_with fail
  go_ret
  exact ⟨rfl, bnext hb bz⟩

set_option maxRecDepth 100000 in
set_option maxHeartbeats 8000000 in
theorem oscSmall_from {R : List Value → Oz → Prop} (HN : CNewO R) (HR : CReadO R) (HRa : CRateO R) (HFr : CFreqO R) (HF : CSetFO R) (local' rate freq t : Int) (hr : -9223372036854775808 ≤ rate ∧ rate ≤ 9223372036854775807) (hf : -9223372036854775808 ≤ freq ∧ freq ≤ 9223372036854775807) (w : World) :
    Calls Try.prog 6 #[.int .i64 local', .int .i64 rate, .int .i64 freq, .int .i64 t] w fun e w' => e = .returned (.bool true) ∧ Below w.heap.size w w' := by
  go_enter Try.func6, Try.ntmps6
  go_wp2_with fail
  refine (place_in local' 1000000000000000 _ (by decide) (by decide)).mono ?_
  rintro e w0 ⟨l, rfl, hl0, hl1, -, rfl⟩
  go_wp2_with fail
  refine (HN l rate w ⟨by omega, by omega⟩ hr).mono ?_
  rintro e w1 ⟨ga, rfl, hg, h9, bq⟩
  have l_hA : w.heap.size ≤ ga := hg
  have hb := bq
  clear bq
  have hA := h9
  clear h9 hg
  have INA := newO_in l rate
  go_wp2_with fail
  refine (HF ga _ 0 freq w1 hA INA (by decide) hf).mono ?_
  rintro e w2 ⟨rfl, h9, oq⟩
  replace hb := Only.below hb oq l_hA hb.size
  replace hA := h9
  clear h9 oq
  have INB := setFO_in INA 0 freq
  have ht0 := setF0 l rate freq
  generalize setFO (newO l rate) 0 freq = s at *
  have HT := hid ht0
  clear ht0 INA
  go_wp2_with fail
  refine (place_in t 1099511627776 _ (by decide) (by decide)).mono ?_
  rintro e w0 ⟨x, rfl, hx0, hx1, -, rfl⟩
  go_wp2_with fail
  refine (HR ga _ x w2 hA INB ⟨by omega, by omega⟩).mono ?_
  rintro e w3 ⟨rfl, bq⟩
  replace hA := hA.below bq
  replace hb := bnext hb bq
  clear bq
  go_wp2_with fail
  go_loopw [11, 12] (fun vv iv wr => ∃ i : Int, 1 ≤ i ∧ i ≤ 21 ∧ iv = .int .i64 i ∧ vv = .int .i64 (readO s (x + (i - 1))) ∧ OzAt R wr ga s ∧ Below w.heap.size w wr) (fun _ iv _ => (21 - intOf iv).toNat)
  case atStart => exact ⟨1, by decide, by decide, rfl, by rw [show x + (1 - 1) = x by omega], hA, hb⟩
  case round =>
    clear hA hb
    obtain ⟨i, hi1, hi2, rfl, rfl, hA, hb⟩ := hrel
    by_cases hlt : i ≤ 20
    case neg =>
      go_wp2_with fail
      refine (awake24_from HN HR HRa HFr _).mono ?_
      rintro e wz ⟨rfl, bz⟩
      go_wp2_with fail
      go_ret
      exact ⟨rfl, bnext hb bz⟩
    have hlt2 : i < 21 := by omega
    have wa : IntKind.i64.wrap (x + i) = x + i := by rw [IntKind.wrap_i64]; omega
    have hsm := smallO (s := s) (t := x + (i - 1)) INB (by rw [HT.out]; omega) (by omega)
    rw [show x + (i - 1) + 1 = x + i by omega] at hsm
    have hrg := readO_range s (x + (i - 1))
    have wb : IntKind.i64.wrap (readO s (x + (i - 1)) + 2) = readO s (x + (i - 1)) + 2 := by rw [IntKind.wrap_i64]; omega
    have HV2 := hid (show readO s (x + (i + 1 - 1)) = readO s (x + i) by rw [show x + (i + 1 - 1) = x + i by omega])
    clear hrg
    go_wp2_with fail
    try rw [wa]
    refine (HR ga _ (x + i) wr hA INB ⟨by omega, by omega⟩).mono ?_
    rintro e w21 ⟨rfl, bq⟩
    replace hA := hA.below bq
    replace hb := bnext hb bq
    clear bq
    obtain ⟨V1, hV1⟩ : ∃ V1, V1 = readO s (x + (i - 1)) := ⟨_, rfl⟩
    obtain ⟨V2, hV2⟩ : ∃ V2, V2 = readO s (x + i) := ⟨_, rfl⟩
    rw [← hV1, ← hV2] at hsm
    rw [← hV1] at wb
    rw [← hV1, ← hV2]
    rw [← hV2] at HV2
    have g1 : ¬ V2 < V1 := by omega
    have g2 : ¬ V1 + 2 < V2 := by omega
    clear hV1 hV2 hsm
    go_wp2_with fail
    go_roundw
    case rel => exact ⟨i + 1, by omega, by omega, by go_num, by rw [HV2.out], hA, hb⟩
    case measure => simp [intOf]; omega

end Go.Proofs.Ytelgdfcpccamnaa
