/- carillonlaw24's OscPlays, from contracts (gen_oscref.py). -/
import Derived.Test.YtelgdfcpccamnaaOscRef
import Derived.Test.YtelgdfcpccamnaaOscLaws1
import Derived.Test.YtelgdfcpccamnaaStr
namespace Go.Proofs.Ytelgdfcpccamnaa
open Go.RowKit Go.Proofs
set_option maxRecDepth 50000
set_option linter.unusedVariables false
set_option linter.unusedSimpArgs false

structure Op24 where
  kd : Int
  tt : Int
  nn : Int
def op24L (x : Op24) : List Value := [.int .i64 x.kd, .int .i64 x.tt, .int .i64 x.nn]
def op24K : RowK Op24 := ⟨op24L, 3, by decide, fun _ => rfl, by
  intro q v hv
  simp only [op24L, List.mem_cons, List.not_mem_nil, or_false] at hv
  rcases hv with rfl | rfl | rfl <;> rfl⟩
def zeroOp24 : Op24 := ⟨0, 0, 0⟩
theorem op24T : StrT op24K 28 := ⟨⟨_, Try.underlying28, rfl⟩, by kernel_rfl⟩
def Op24In (x : Op24) : Prop := (-9223372036854775808 ≤ x.kd ∧ x.kd ≤ 9223372036854775807) ∧ (-9223372036854775808 ≤ x.tt ∧ x.tt ≤ 9223372036854775807) ∧ (-9223372036854775808 ≤ x.nn ∧ x.nn ≤ 9223372036854775807)

set_option maxRecDepth 100000 in
set_option maxHeartbeats 8000000 in
theorem oscPlays_from {R : List Value → Oz → Prop} (HN : CNewO R) (HR : CReadO R) (HRa : CRateO R) (HFr : CFreqO R) (HS : CSetRO R) (HF : CSetFO R) (HT4 : CStepO R) (l0 rate : Int) (hl : -9223372036854775808 ≤ l0 ∧ l0 ≤ 9223372036854775807) (hr : -9223372036854775808 ≤ rate ∧ rate ≤ 9223372036854775807) (v : Value) (l : List Op24) (w : World) (hR : op24K.Reads w v l) (hall : ∀ x ∈ l, Op24In x) :
    Calls Try.prog 3 #[.int .i64 l0, .int .i64 rate, v] w fun e w' => e = .returned (.bool true) ∧ Below w.heap.size w w' := by
  obtain ⟨p, cap, rfl, hcap, hmax, hat⟩ := hR
  have HAT := hid fun h => RowK.At.pos (K := op24K) hat h
  have HALL := hid hall
  unfold maxLen at hmax
  clear hat hall
  go_enter Try.func3, Try.ntmps3
  go_wp2_with fail
  refine (HN l0 rate w hl hr).mono ?_
  rintro e w1 ⟨gx, rfl, hg, h9, bq⟩
  have l_hX : w.heap.size ≤ gx := hg
  have hb := bq
  clear bq
  have hX := h9
  clear h9 hg
  go_wp2_with fail
  refine (refNewO_any l0 rate w1).mono ?_
  rintro e w2 ⟨gr, rfl, hg, h9, bq⟩
  have n_hX_hY : gx ≠ gr := by have h1 := hX.lt; have h2 := hg; omega
  have l_hY : w.heap.size ≤ gr := Nat.le_trans hb.size (hg)
  replace hX := hX.below bq
  replace hb := bnext hb bq
  clear bq
  have hY := h9
  clear h9 hg
  have hIN := newO_in l0 rate
  generalize newO l0 rate = s0 at *
  go_wp2_with fail
  go_loopw [9] (fun iv wr => ∃ (j : Nat) (s : Oz), j ≤ l.length ∧ j ≤ 80 ∧ iv = .int .i64 (j : Int) ∧ InO s ∧ OzAt R wr gx s ∧ ObAt 34 RO wr gr s ∧ Below w.heap.size w wr) (fun iv _ => 80 - (intOf iv).toNat)
  case atStart => exact ⟨0, s0, Nat.zero_le _, Nat.zero_le _, rfl, hIN, hX, hY, hb⟩
  case round =>
    clear hX hY hb hIN
    obtain ⟨j, s, hjl, hj80, rfl, hIN, hX, hY, hb⟩ := hrel
    by_cases hlt : j < l.length
    case neg =>
      have hltI : ¬ (j : Int) < (l.length : Int) := by omega
      go_wp2_with fail
      refine (awake24_from HN HR HRa HFr _).mono ?_
      rintro e wz ⟨rfl, bz⟩
      go_wp2_with fail
      go_ret
      exact ⟨rfl, bnext hb bz⟩
    by_cases h80 : j < 80
    case neg =>
      have hltI : (j : Int) < (l.length : Int) := by omega
      have h80I : ¬ (j : Int) < 80 := by omega
      go_wp2_with fail
      refine (awake24_from HN HR HRa HFr _).mono ?_
      rintro e wz ⟨rfl, bz⟩
      go_wp2_with fail
      go_ret
      exact ⟨rfl, bnext hb bz⟩
    have hltI : (j : Int) < (l.length : Int) := by omega
    have h80I : (j : Int) < 80 := by omega
    have hj0 : (0 : Int) ≤ (j : Int) := by omega
    obtain ⟨b, off, rfl, hbl, hc⟩ := HAT.out (by omega)
    have hRg : wr.rangeAt b (off + j * 3) (op24K.enc l[j]) := fun i u hi => by
      have hi3 : i < 3 := (List.getElem?_eq_some_iff.1 hi).1
      rw [hb.cell (p := ⟨b, off + j * 3 + i, none⟩) (by show b < w.heap.size; omega), Nat.add_assoc]
      exact RowK.At.cell (K := op24K) hc j i hlt hi3 u hi
    have hok := HALL.out _ (List.getElem_mem hlt)
    clear hc
    generalize l[j] = v at *
    obtain ⟨kd, tt, nn⟩ := v
    obtain ⟨hkd, htt, hnn⟩ := hok
    replace htt : -9223372036854775808 ≤ tt ∧ tt ≤ 9223372036854775807 := htt
    replace hnn : -9223372036854775808 ≤ nn ∧ nn ≤ 9223372036854775807 := hnn
    have HT := hid htt
    have HNN := hid hnn
    clear hkd htt hnn hcap hmax
    have hn1 := bnew wr (Obj.cells (op24K.enc (zeroOp24)).toArray 28)
    have hM0 := Box.new wr (op24K.enc (zeroOp24)) 28
    go_upto_region 9 with (first | (guard_target =~ wpList _ _ _ (⟨some 32, _, _, _, _, _⟩ :: _) _ _; refine op24T.load (op := ⟨some 32, .load _ _, _, _, _, _⟩) (by rfl) _ (by rfl) b (off + j * 3) (by rfl) (⟨kd, tt, nn⟩) hRg ?_) | (guard_target =~ wpList _ _ _ (⟨none, _, _, _, _, _⟩ :: _) _ _; refine op24T.store (op := ⟨none, .store _ _ _, _, _, _, _⟩) (by rfl) _ _ (by rfl) (wr.heap.size) (⟨kd, tt, nn⟩) (zeroOp24) _ (by rfl) (by rfl) hM0 ?_))
    have n_hX_hO : gx ≠ wr.heap.size := by have h1 := hX.lt; have h2 := Nat.le_refl wr.heap.size; omega
    have n_hY_hO : gr ≠ wr.heap.size := by have h1 := hY.lt; have h2 := Nat.le_refl wr.heap.size; omega
    have l_hO : w.heap.size ≤ wr.heap.size := Nat.le_trans hb.size (Nat.le_refl wr.heap.size)
    have hO := hM0.rowK (op24K.enc (⟨kd, tt, nn⟩))
    replace hX := (hX.below hn1).row (k := wr.heap.size) n_hX_hO (op24K.enc (⟨kd, tt, nn⟩)).toArray
    replace hY := (hY.below hn1).row (k := wr.heap.size) n_hY_hO (op24K.enc (⟨kd, tt, nn⟩)).toArray
    have hW := below_setRow hn1 (Nat.le_refl _) (op24K.enc (⟨kd, tt, nn⟩)).toArray
    replace hb := bnext hb hW
    change Code.wp Try.prog _ _ _ ((wr.alloc (Obj.cells (op24K.enc (zeroOp24)).toArray 28)).setRow wr.heap.size (op24K.enc (⟨kd, tt, nn⟩)).toArray)
    generalize (wr.alloc (Obj.cells (op24K.enc (zeroOp24)).toArray 28)).setRow wr.heap.size (op24K.enc (⟨kd, tt, nn⟩)).toArray = w21 at *
    clear hn1 hM0 hW
    generalize wr.heap.size = go at *
    clear hRg
    have o0 : w21.cell? ⟨go, 0, none⟩ = some (.int .i64 kd) := hO.cell 0 _ rfl
    have o1 : w21.cell? ⟨go, 1, none⟩ = some (.int .i64 tt) := hO.cell 1 _ rfl
    have o2 : w21.cell? ⟨go, 2, none⟩ = some (.int .i64 nn) := hO.cell 2 _ rfl
    go_wp2_with fail
    refine (place_in kd 5 _ (by decide) (by decide)).mono ?_
    rintro e w0 ⟨k, rfl, hk0, hk1, -, rfl⟩
    clear o0 o1 o2
    by_cases h2 : k = 2
    case pos =>
      subst h2
      have o0 : w21.cell? ⟨go, 0, none⟩ = some (.int .i64 kd) := hO.cell 0 _ rfl
      have o1 : w21.cell? ⟨go, 1, none⟩ = some (.int .i64 tt) := hO.cell 1 _ rfl
      have o2 : w21.cell? ⟨go, 2, none⟩ = some (.int .i64 nn) := hO.cell 2 _ rfl
      go_wp2_with fail
      refine (HS gx s tt nn w21 hX hIN HT.out HNN.out).mono ?_
      rintro e w22 ⟨rfl, h9, oq⟩
      replace hY := hY.only oq (Ne.symm n_hX_hY)
      replace hO := hO.only oq (Ne.symm n_hX_hO)
      replace hb := Only.below hb oq l_hX hb.size
      replace hX := h9
      clear h9 oq
      clear o0 o1 o2
      have o0 : w22.cell? ⟨go, 0, none⟩ = some (.int .i64 kd) := hO.cell 0 _ rfl
      have o1 : w22.cell? ⟨go, 1, none⟩ = some (.int .i64 tt) := hO.cell 1 _ rfl
      have o2 : w22.cell? ⟨go, 2, none⟩ = some (.int .i64 nn) := hO.cell 2 _ rfl
      go_wp2_with fail
      refine (refSetRO_any gr s tt nn w22 hY hIN).mono ?_
      rintro e w23 ⟨rfl, h9, oq⟩
      replace hX := hX.only oq n_hX_hY
      replace hO := hO.only oq (Ne.symm n_hY_hO)
      replace hb := Only.below hb oq l_hY hb.size
      replace hY := h9
      clear h9 oq
      clear o0 o1 o2
      have hIN2 := setRO_in hIN tt nn
      generalize setRO s tt nn = s2 at *
      obtain ⟨xs, hQ, hxs⟩ := hY
      have hxs' : xs = oK.enc s2 := hxs
      subst hxs'
      clear hxs
      go_upto_region 21 with fail
      refine wp_region_held_drew (S := fun w' => Box w' gr (oK.enc s2) 34) (by kernel_rfl) (hQ.below (Below.drew (Below.refl _ _))) ?_
      intro hS
      have bq := Below.drew (Below.refl w23.heap.size w23)
      generalize w23.drew = w24 at *
      clear hS
      replace hX := hX.below bq
      replace hO := hO.below bq
      replace hQ := hQ.below bq
      replace hb := bnext hb bq
      clear bq
      refine rtake 0 rfl (by rfl) (by kernel_rfl) (by kernel_rfl) (by kernel_rfl) (fun _ _ _ h => h) hQ (fun wx hwx => by go_simp; try with_reducible rfl) ?_
      try simp only [Act.put, List.setIfInBounds_toArray, List.set_cons_zero, List.set_cons_succ]
      refine rtake 2 rfl (by rfl) (by kernel_rfl) (by kernel_rfl) (by kernel_rfl) (fun _ _ _ h => h) hQ (fun wx hwx => by go_simp; try with_reducible rfl) ?_
      try simp only [Act.put, List.setIfInBounds_toArray, List.set_cons_zero, List.set_cons_succ]
      refine rtake 3 rfl (by rfl) (by kernel_rfl) (by kernel_rfl) (by kernel_rfl) (fun _ _ _ h => h) hQ (fun wx hwx => by go_simp; try with_reducible rfl) ?_
      try simp only [Act.put, List.setIfInBounds_toArray, List.set_cons_zero, List.set_cons_succ]
      refine rtake 4 rfl (by rfl) (by kernel_rfl) (by kernel_rfl) (by kernel_rfl) (fun _ _ _ h => h) hQ (fun wx hwx => by go_simp; try with_reducible rfl) ?_
      try simp only [Act.put, List.setIfInBounds_toArray, List.set_cons_zero, List.set_cons_succ]
      refine rtake 5 rfl (by rfl) (by kernel_rfl) (by kernel_rfl) (by kernel_rfl) (fun _ _ _ h => h) hQ (fun wx hwx => by have q9 : wx.cell? ⟨gr, 2, none⟩ = some (.int .i64 s2.r) := hwx.cell 2 _ rfl; go_simp; try with_reducible rfl) ?_
      try simp only [Act.put, List.setIfInBounds_toArray, List.set_cons_zero, List.set_cons_succ]
      refine rcall 1 rfl (by kernel_rfl) (by rfl) (fun K' hK => ?_)
      go_simp
      refine (HRa gx _ w24 hX).mono ?_
      rintro e w25 ⟨rfl, bq⟩
      refine hK.out _ _ (hQ.below bq) ?_
      clear hK K'
      try simp only [Act.put, List.setIfInBounds_toArray, List.set_cons_zero, List.set_cons_succ]
      replace hX := hX.below bq
      replace hO := hO.below bq
      replace hQ := hQ.below bq
      replace hb := bnext hb bq
      clear bq
      refine rtake 6 rfl (by rfl) (by kernel_rfl) (by kernel_rfl) (by kernel_rfl) (fun _ _ _ h => h) hQ (fun wx hwx => by go_simp; try with_reducible rfl) ?_
      try simp only [Act.put, List.setIfInBounds_toArray, List.set_cons_zero, List.set_cons_succ]
      refine rtake 7 rfl (by rfl) (by kernel_rfl) (by kernel_rfl) (by kernel_rfl) (fun _ _ _ h => h) hQ (fun wx hwx => by go_simp; try with_reducible rfl) ?_
      try simp only [Act.put, List.setIfInBounds_toArray, List.set_cons_zero, List.set_cons_succ]
      refine rtake 8 rfl (by rfl) (by kernel_rfl) (by kernel_rfl) (by kernel_rfl) (fun _ _ _ h => h) hQ (fun wx hwx => by go_simp; try with_reducible rfl) ?_
      try simp only [Act.put, List.setIfInBounds_toArray, List.set_cons_zero, List.set_cons_succ]
      refine rtake 10 rfl (by rfl) (by kernel_rfl) (by kernel_rfl) (by kernel_rfl) (fun _ _ _ h => h) hQ (fun wx hwx => by go_simp; try with_reducible rfl) ?_
      try simp only [Act.put, List.setIfInBounds_toArray, List.set_cons_zero, List.set_cons_succ]
      refine rtake 11 rfl (by rfl) (by kernel_rfl) (by kernel_rfl) (by kernel_rfl) (fun _ _ _ h => h) hQ (fun wx hwx => by go_simp; try with_reducible rfl) ?_
      try simp only [Act.put, List.setIfInBounds_toArray, List.set_cons_zero, List.set_cons_succ]
      refine rtake 12 rfl (by rfl) (by kernel_rfl) (by kernel_rfl) (by kernel_rfl) (fun _ _ _ h => h) hQ (fun wx hwx => by go_simp; try with_reducible rfl) ?_
      try simp only [Act.put, List.setIfInBounds_toArray, List.set_cons_zero, List.set_cons_succ]
      refine rtake 13 rfl (by rfl) (by kernel_rfl) (by kernel_rfl) (by kernel_rfl) (fun _ _ _ h => h) hQ (fun wx hwx => by have q9 : wx.cell? ⟨gr, 3, none⟩ = some (.int .i64 s2.f) := hwx.cell 3 _ rfl; go_simp; try with_reducible rfl) ?_
      try simp only [Act.put, List.setIfInBounds_toArray, List.set_cons_zero, List.set_cons_succ]
      refine rcall 9 rfl (by kernel_rfl) (by rfl) (fun K' hK => ?_)
      go_simp
      refine (HFr gx _ w25 hX).mono ?_
      rintro e w26 ⟨rfl, bq⟩
      refine hK.out _ _ (hQ.below bq) ?_
      clear hK K'
      try simp only [Act.put, List.setIfInBounds_toArray, List.set_cons_zero, List.set_cons_succ]
      replace hX := hX.below bq
      replace hO := hO.below bq
      replace hQ := hQ.below bq
      replace hb := bnext hb bq
      clear bq
      refine rtake 14 rfl (by rfl) (by kernel_rfl) (by kernel_rfl) (by kernel_rfl) (fun _ _ _ h => h) hQ (fun wx hwx => by go_simp; try with_reducible rfl) ?_
      try simp only [Act.put, List.setIfInBounds_toArray, List.set_cons_zero, List.set_cons_succ]
      refine rtake 15 rfl (by rfl) (by kernel_rfl) (by kernel_rfl) (by kernel_rfl) (fun _ _ _ h => h) hQ (fun wx hwx => by go_simp; try with_reducible rfl) ?_
      try simp only [Act.put, List.setIfInBounds_toArray, List.set_cons_zero, List.set_cons_succ]
      refine wpAnyH_done (by kernel_rfl) ?_ _
      go_wp2_with fail
      go_roundw
      case rel => exact ⟨j + 1, s2, by omega, by omega, by go_num, hIN2, hX, ⟨_, hQ, rfl⟩, hb⟩
      case measure => simp [intOf]; omega
    by_cases h3 : k = 3
    case pos =>
      subst h3
      have o0 : w21.cell? ⟨go, 0, none⟩ = some (.int .i64 kd) := hO.cell 0 _ rfl
      have o1 : w21.cell? ⟨go, 1, none⟩ = some (.int .i64 tt) := hO.cell 1 _ rfl
      have o2 : w21.cell? ⟨go, 2, none⟩ = some (.int .i64 nn) := hO.cell 2 _ rfl
      go_wp2_with fail
      refine (HF gx s tt nn w21 hX hIN HT.out HNN.out).mono ?_
      rintro e w22 ⟨rfl, h9, oq⟩
      replace hY := hY.only oq (Ne.symm n_hX_hY)
      replace hO := hO.only oq (Ne.symm n_hX_hO)
      replace hb := Only.below hb oq l_hX hb.size
      replace hX := h9
      clear h9 oq
      clear o0 o1 o2
      have o0 : w22.cell? ⟨go, 0, none⟩ = some (.int .i64 kd) := hO.cell 0 _ rfl
      have o1 : w22.cell? ⟨go, 1, none⟩ = some (.int .i64 tt) := hO.cell 1 _ rfl
      have o2 : w22.cell? ⟨go, 2, none⟩ = some (.int .i64 nn) := hO.cell 2 _ rfl
      go_wp2_with fail
      refine (refSetFO_any gr s tt nn w22 hY hIN).mono ?_
      rintro e w23 ⟨rfl, h9, oq⟩
      replace hX := hX.only oq n_hX_hY
      replace hO := hO.only oq (Ne.symm n_hY_hO)
      replace hb := Only.below hb oq l_hY hb.size
      replace hY := h9
      clear h9 oq
      clear o0 o1 o2
      have hIN2 := setFO_in hIN tt nn
      generalize setFO s tt nn = s2 at *
      obtain ⟨xs, hQ, hxs⟩ := hY
      have hxs' : xs = oK.enc s2 := hxs
      subst hxs'
      clear hxs
      go_upto_region 21 with fail
      refine wp_region_held_drew (S := fun w' => Box w' gr (oK.enc s2) 34) (by kernel_rfl) (hQ.below (Below.drew (Below.refl _ _))) ?_
      intro hS
      have bq := Below.drew (Below.refl w23.heap.size w23)
      generalize w23.drew = w24 at *
      clear hS
      replace hX := hX.below bq
      replace hO := hO.below bq
      replace hQ := hQ.below bq
      replace hb := bnext hb bq
      clear bq
      refine rtake 0 rfl (by rfl) (by kernel_rfl) (by kernel_rfl) (by kernel_rfl) (fun _ _ _ h => h) hQ (fun wx hwx => by go_simp; try with_reducible rfl) ?_
      try simp only [Act.put, List.setIfInBounds_toArray, List.set_cons_zero, List.set_cons_succ]
      refine rtake 2 rfl (by rfl) (by kernel_rfl) (by kernel_rfl) (by kernel_rfl) (fun _ _ _ h => h) hQ (fun wx hwx => by go_simp; try with_reducible rfl) ?_
      try simp only [Act.put, List.setIfInBounds_toArray, List.set_cons_zero, List.set_cons_succ]
      refine rtake 3 rfl (by rfl) (by kernel_rfl) (by kernel_rfl) (by kernel_rfl) (fun _ _ _ h => h) hQ (fun wx hwx => by go_simp; try with_reducible rfl) ?_
      try simp only [Act.put, List.setIfInBounds_toArray, List.set_cons_zero, List.set_cons_succ]
      refine rtake 4 rfl (by rfl) (by kernel_rfl) (by kernel_rfl) (by kernel_rfl) (fun _ _ _ h => h) hQ (fun wx hwx => by go_simp; try with_reducible rfl) ?_
      try simp only [Act.put, List.setIfInBounds_toArray, List.set_cons_zero, List.set_cons_succ]
      refine rtake 5 rfl (by rfl) (by kernel_rfl) (by kernel_rfl) (by kernel_rfl) (fun _ _ _ h => h) hQ (fun wx hwx => by have q9 : wx.cell? ⟨gr, 2, none⟩ = some (.int .i64 s2.r) := hwx.cell 2 _ rfl; go_simp; try with_reducible rfl) ?_
      try simp only [Act.put, List.setIfInBounds_toArray, List.set_cons_zero, List.set_cons_succ]
      refine rcall 1 rfl (by kernel_rfl) (by rfl) (fun K' hK => ?_)
      go_simp
      refine (HRa gx _ w24 hX).mono ?_
      rintro e w25 ⟨rfl, bq⟩
      refine hK.out _ _ (hQ.below bq) ?_
      clear hK K'
      try simp only [Act.put, List.setIfInBounds_toArray, List.set_cons_zero, List.set_cons_succ]
      replace hX := hX.below bq
      replace hO := hO.below bq
      replace hQ := hQ.below bq
      replace hb := bnext hb bq
      clear bq
      refine rtake 6 rfl (by rfl) (by kernel_rfl) (by kernel_rfl) (by kernel_rfl) (fun _ _ _ h => h) hQ (fun wx hwx => by go_simp; try with_reducible rfl) ?_
      try simp only [Act.put, List.setIfInBounds_toArray, List.set_cons_zero, List.set_cons_succ]
      refine rtake 7 rfl (by rfl) (by kernel_rfl) (by kernel_rfl) (by kernel_rfl) (fun _ _ _ h => h) hQ (fun wx hwx => by go_simp; try with_reducible rfl) ?_
      try simp only [Act.put, List.setIfInBounds_toArray, List.set_cons_zero, List.set_cons_succ]
      refine rtake 8 rfl (by rfl) (by kernel_rfl) (by kernel_rfl) (by kernel_rfl) (fun _ _ _ h => h) hQ (fun wx hwx => by go_simp; try with_reducible rfl) ?_
      try simp only [Act.put, List.setIfInBounds_toArray, List.set_cons_zero, List.set_cons_succ]
      refine rtake 10 rfl (by rfl) (by kernel_rfl) (by kernel_rfl) (by kernel_rfl) (fun _ _ _ h => h) hQ (fun wx hwx => by go_simp; try with_reducible rfl) ?_
      try simp only [Act.put, List.setIfInBounds_toArray, List.set_cons_zero, List.set_cons_succ]
      refine rtake 11 rfl (by rfl) (by kernel_rfl) (by kernel_rfl) (by kernel_rfl) (fun _ _ _ h => h) hQ (fun wx hwx => by go_simp; try with_reducible rfl) ?_
      try simp only [Act.put, List.setIfInBounds_toArray, List.set_cons_zero, List.set_cons_succ]
      refine rtake 12 rfl (by rfl) (by kernel_rfl) (by kernel_rfl) (by kernel_rfl) (fun _ _ _ h => h) hQ (fun wx hwx => by go_simp; try with_reducible rfl) ?_
      try simp only [Act.put, List.setIfInBounds_toArray, List.set_cons_zero, List.set_cons_succ]
      refine rtake 13 rfl (by rfl) (by kernel_rfl) (by kernel_rfl) (by kernel_rfl) (fun _ _ _ h => h) hQ (fun wx hwx => by have q9 : wx.cell? ⟨gr, 3, none⟩ = some (.int .i64 s2.f) := hwx.cell 3 _ rfl; go_simp; try with_reducible rfl) ?_
      try simp only [Act.put, List.setIfInBounds_toArray, List.set_cons_zero, List.set_cons_succ]
      refine rcall 9 rfl (by kernel_rfl) (by rfl) (fun K' hK => ?_)
      go_simp
      refine (HFr gx _ w25 hX).mono ?_
      rintro e w26 ⟨rfl, bq⟩
      refine hK.out _ _ (hQ.below bq) ?_
      clear hK K'
      try simp only [Act.put, List.setIfInBounds_toArray, List.set_cons_zero, List.set_cons_succ]
      replace hX := hX.below bq
      replace hO := hO.below bq
      replace hQ := hQ.below bq
      replace hb := bnext hb bq
      clear bq
      refine rtake 14 rfl (by rfl) (by kernel_rfl) (by kernel_rfl) (by kernel_rfl) (fun _ _ _ h => h) hQ (fun wx hwx => by go_simp; try with_reducible rfl) ?_
      try simp only [Act.put, List.setIfInBounds_toArray, List.set_cons_zero, List.set_cons_succ]
      refine rtake 15 rfl (by rfl) (by kernel_rfl) (by kernel_rfl) (by kernel_rfl) (fun _ _ _ h => h) hQ (fun wx hwx => by go_simp; try with_reducible rfl) ?_
      try simp only [Act.put, List.setIfInBounds_toArray, List.set_cons_zero, List.set_cons_succ]
      refine wpAnyH_done (by kernel_rfl) ?_ _
      go_wp2_with fail
      go_roundw
      case rel => exact ⟨j + 1, s2, by omega, by omega, by go_num, hIN2, hX, ⟨_, hQ, rfl⟩, hb⟩
      case measure => simp [intOf]; omega
    by_cases h4 : k = 4
    case pos =>
      subst h4
      have o0 : w21.cell? ⟨go, 0, none⟩ = some (.int .i64 kd) := hO.cell 0 _ rfl
      have o1 : w21.cell? ⟨go, 1, none⟩ = some (.int .i64 tt) := hO.cell 1 _ rfl
      have o2 : w21.cell? ⟨go, 2, none⟩ = some (.int .i64 nn) := hO.cell 2 _ rfl
      go_wp2_with fail
      refine (HT4 gx s tt nn w21 hX hIN HT.out HNN.out).mono ?_
      rintro e w22 ⟨rfl, h9, oq⟩
      replace hY := hY.only oq (Ne.symm n_hX_hY)
      replace hO := hO.only oq (Ne.symm n_hX_hO)
      replace hb := Only.below hb oq l_hX hb.size
      replace hX := h9
      clear h9 oq
      clear o0 o1 o2
      have o0 : w22.cell? ⟨go, 0, none⟩ = some (.int .i64 kd) := hO.cell 0 _ rfl
      have o1 : w22.cell? ⟨go, 1, none⟩ = some (.int .i64 tt) := hO.cell 1 _ rfl
      have o2 : w22.cell? ⟨go, 2, none⟩ = some (.int .i64 nn) := hO.cell 2 _ rfl
      go_wp2_with fail
      refine (refStepO_any gr s tt nn w22 hY hIN).mono ?_
      rintro e w23 ⟨rfl, h9, oq⟩
      replace hX := hX.only oq n_hX_hY
      replace hO := hO.only oq (Ne.symm n_hY_hO)
      replace hb := Only.below hb oq l_hY hb.size
      replace hY := h9
      clear h9 oq
      clear o0 o1 o2
      have hIN2 := stepO_in hIN tt nn
      generalize stepO s tt nn = s2 at *
      obtain ⟨xs, hQ, hxs⟩ := hY
      have hxs' : xs = oK.enc s2 := hxs
      subst hxs'
      clear hxs
      go_upto_region 21 with fail
      refine wp_region_held_drew (S := fun w' => Box w' gr (oK.enc s2) 34) (by kernel_rfl) (hQ.below (Below.drew (Below.refl _ _))) ?_
      intro hS
      have bq := Below.drew (Below.refl w23.heap.size w23)
      generalize w23.drew = w24 at *
      clear hS
      replace hX := hX.below bq
      replace hO := hO.below bq
      replace hQ := hQ.below bq
      replace hb := bnext hb bq
      clear bq
      refine rtake 0 rfl (by rfl) (by kernel_rfl) (by kernel_rfl) (by kernel_rfl) (fun _ _ _ h => h) hQ (fun wx hwx => by go_simp; try with_reducible rfl) ?_
      try simp only [Act.put, List.setIfInBounds_toArray, List.set_cons_zero, List.set_cons_succ]
      refine rtake 2 rfl (by rfl) (by kernel_rfl) (by kernel_rfl) (by kernel_rfl) (fun _ _ _ h => h) hQ (fun wx hwx => by go_simp; try with_reducible rfl) ?_
      try simp only [Act.put, List.setIfInBounds_toArray, List.set_cons_zero, List.set_cons_succ]
      refine rtake 3 rfl (by rfl) (by kernel_rfl) (by kernel_rfl) (by kernel_rfl) (fun _ _ _ h => h) hQ (fun wx hwx => by go_simp; try with_reducible rfl) ?_
      try simp only [Act.put, List.setIfInBounds_toArray, List.set_cons_zero, List.set_cons_succ]
      refine rtake 4 rfl (by rfl) (by kernel_rfl) (by kernel_rfl) (by kernel_rfl) (fun _ _ _ h => h) hQ (fun wx hwx => by go_simp; try with_reducible rfl) ?_
      try simp only [Act.put, List.setIfInBounds_toArray, List.set_cons_zero, List.set_cons_succ]
      refine rtake 5 rfl (by rfl) (by kernel_rfl) (by kernel_rfl) (by kernel_rfl) (fun _ _ _ h => h) hQ (fun wx hwx => by have q9 : wx.cell? ⟨gr, 2, none⟩ = some (.int .i64 s2.r) := hwx.cell 2 _ rfl; go_simp; try with_reducible rfl) ?_
      try simp only [Act.put, List.setIfInBounds_toArray, List.set_cons_zero, List.set_cons_succ]
      refine rcall 1 rfl (by kernel_rfl) (by rfl) (fun K' hK => ?_)
      go_simp
      refine (HRa gx _ w24 hX).mono ?_
      rintro e w25 ⟨rfl, bq⟩
      refine hK.out _ _ (hQ.below bq) ?_
      clear hK K'
      try simp only [Act.put, List.setIfInBounds_toArray, List.set_cons_zero, List.set_cons_succ]
      replace hX := hX.below bq
      replace hO := hO.below bq
      replace hQ := hQ.below bq
      replace hb := bnext hb bq
      clear bq
      refine rtake 6 rfl (by rfl) (by kernel_rfl) (by kernel_rfl) (by kernel_rfl) (fun _ _ _ h => h) hQ (fun wx hwx => by go_simp; try with_reducible rfl) ?_
      try simp only [Act.put, List.setIfInBounds_toArray, List.set_cons_zero, List.set_cons_succ]
      refine rtake 7 rfl (by rfl) (by kernel_rfl) (by kernel_rfl) (by kernel_rfl) (fun _ _ _ h => h) hQ (fun wx hwx => by go_simp; try with_reducible rfl) ?_
      try simp only [Act.put, List.setIfInBounds_toArray, List.set_cons_zero, List.set_cons_succ]
      refine rtake 8 rfl (by rfl) (by kernel_rfl) (by kernel_rfl) (by kernel_rfl) (fun _ _ _ h => h) hQ (fun wx hwx => by go_simp; try with_reducible rfl) ?_
      try simp only [Act.put, List.setIfInBounds_toArray, List.set_cons_zero, List.set_cons_succ]
      refine rtake 10 rfl (by rfl) (by kernel_rfl) (by kernel_rfl) (by kernel_rfl) (fun _ _ _ h => h) hQ (fun wx hwx => by go_simp; try with_reducible rfl) ?_
      try simp only [Act.put, List.setIfInBounds_toArray, List.set_cons_zero, List.set_cons_succ]
      refine rtake 11 rfl (by rfl) (by kernel_rfl) (by kernel_rfl) (by kernel_rfl) (fun _ _ _ h => h) hQ (fun wx hwx => by go_simp; try with_reducible rfl) ?_
      try simp only [Act.put, List.setIfInBounds_toArray, List.set_cons_zero, List.set_cons_succ]
      refine rtake 12 rfl (by rfl) (by kernel_rfl) (by kernel_rfl) (by kernel_rfl) (fun _ _ _ h => h) hQ (fun wx hwx => by go_simp; try with_reducible rfl) ?_
      try simp only [Act.put, List.setIfInBounds_toArray, List.set_cons_zero, List.set_cons_succ]
      refine rtake 13 rfl (by rfl) (by kernel_rfl) (by kernel_rfl) (by kernel_rfl) (fun _ _ _ h => h) hQ (fun wx hwx => by have q9 : wx.cell? ⟨gr, 3, none⟩ = some (.int .i64 s2.f) := hwx.cell 3 _ rfl; go_simp; try with_reducible rfl) ?_
      try simp only [Act.put, List.setIfInBounds_toArray, List.set_cons_zero, List.set_cons_succ]
      refine rcall 9 rfl (by kernel_rfl) (by rfl) (fun K' hK => ?_)
      go_simp
      refine (HFr gx _ w25 hX).mono ?_
      rintro e w26 ⟨rfl, bq⟩
      refine hK.out _ _ (hQ.below bq) ?_
      clear hK K'
      try simp only [Act.put, List.setIfInBounds_toArray, List.set_cons_zero, List.set_cons_succ]
      replace hX := hX.below bq
      replace hO := hO.below bq
      replace hQ := hQ.below bq
      replace hb := bnext hb bq
      clear bq
      refine rtake 14 rfl (by rfl) (by kernel_rfl) (by kernel_rfl) (by kernel_rfl) (fun _ _ _ h => h) hQ (fun wx hwx => by go_simp; try with_reducible rfl) ?_
      try simp only [Act.put, List.setIfInBounds_toArray, List.set_cons_zero, List.set_cons_succ]
      refine rtake 15 rfl (by rfl) (by kernel_rfl) (by kernel_rfl) (by kernel_rfl) (fun _ _ _ h => h) hQ (fun wx hwx => by go_simp; try with_reducible rfl) ?_
      try simp only [Act.put, List.setIfInBounds_toArray, List.set_cons_zero, List.set_cons_succ]
      refine wpAnyH_done (by kernel_rfl) ?_ _
      go_wp2_with fail
      go_roundw
      case rel => exact ⟨j + 1, s2, by omega, by omega, by go_num, hIN2, hX, ⟨_, hQ, rfl⟩, hb⟩
      case measure => simp [intOf]; omega
    go_upto_region 10 with fail
    refine wp_region_held_drew (S := fun w' => Box w' go (op24K.enc ⟨kd, tt, nn⟩) 28) (by kernel_rfl) (hO.below (Below.drew (Below.refl _ _))) ?_
    intro hS
    have bq := Below.drew (Below.refl w21.heap.size w21)
    generalize w21.drew = w22 at *
    clear hS
    replace hX := hX.below bq
    replace hY := hY.below bq
    replace hO := hO.below bq
    replace hb := bnext hb bq
    clear bq
    refine rtake 0 rfl (by rfl) (by kernel_rfl) (by kernel_rfl) (by kernel_rfl) (fun _ _ _ h => h) hO (fun wx hwx => by go_simp; try with_reducible rfl) ?_
    try simp only [Act.put, List.setIfInBounds_toArray, List.set_cons_zero, List.set_cons_succ]
    refine rtake 1 rfl (by rfl) (by kernel_rfl) (by kernel_rfl) (by kernel_rfl) (fun _ _ _ h => h) hO (fun wx hwx => by go_simp; try with_reducible rfl) ?_
    try simp only [Act.put, List.setIfInBounds_toArray, List.set_cons_zero, List.set_cons_succ]
    refine rtake 2 rfl (by rfl) (by kernel_rfl) (by kernel_rfl) (by kernel_rfl) (fun _ _ _ h => h) hO (fun wx hwx => by have q9 : wx.cell? ⟨go, 1, none⟩ = some (.int .i64 tt) := hwx.cell 1 _ rfl; go_simp; try with_reducible rfl) ?_
    try simp only [Act.put, List.setIfInBounds_toArray, List.set_cons_zero, List.set_cons_succ]
    refine rtake 4 rfl (by rfl) (by kernel_rfl) (by kernel_rfl) (by kernel_rfl) (fun _ _ _ h => h) hO (fun wx hwx => by go_simp; try with_reducible rfl) ?_
    try simp only [Act.put, List.setIfInBounds_toArray, List.set_cons_zero, List.set_cons_succ]
    refine rtake 5 rfl (by rfl) (by kernel_rfl) (by kernel_rfl) (by kernel_rfl) (fun _ _ _ h => h) hO (fun wx hwx => by go_simp; try with_reducible rfl) ?_
    try simp only [Act.put, List.setIfInBounds_toArray, List.set_cons_zero, List.set_cons_succ]
    refine rtake 6 rfl (by rfl) (by kernel_rfl) (by kernel_rfl) (by kernel_rfl) (fun _ _ _ h => h) hO (fun wx hwx => by have q9 : wx.cell? ⟨go, 1, none⟩ = some (.int .i64 tt) := hwx.cell 1 _ rfl; go_simp; try with_reducible rfl) ?_
    try simp only [Act.put, List.setIfInBounds_toArray, List.set_cons_zero, List.set_cons_succ]
    refine rcall 3 rfl (by kernel_rfl) (by rfl) (fun K' hK => ?_)
    go_simp
    refine (HR gx s tt w22 hX hIN HT.out).mono ?_
    rintro e w23 ⟨rfl, bq⟩
    refine hK.out _ _ (hO.below bq) ?_
    clear hK K'
    try simp only [Act.put, List.setIfInBounds_toArray, List.set_cons_zero, List.set_cons_succ]
    replace hX := hX.below bq
    replace hY := hY.below bq
    replace hO := hO.below bq
    replace hb := bnext hb bq
    clear bq
    refine rcall 7 rfl (by kernel_rfl) (by rfl) (fun K' hK => ?_)
    go_simp
    refine (refReadO_any gr s tt w23 hY hIN).mono ?_
    rintro e w24 ⟨rfl, bq⟩
    refine hK.out _ _ (hO.below bq) ?_
    clear hK K'
    try simp only [Act.put, List.setIfInBounds_toArray, List.set_cons_zero, List.set_cons_succ]
    replace hX := hX.below bq
    replace hY := hY.below bq
    replace hO := hO.below bq
    replace hb := bnext hb bq
    clear bq
    refine rtake 8 rfl (by rfl) (by kernel_rfl) (by kernel_rfl) (by kernel_rfl) (fun _ _ _ h => h) hO (fun wx hwx => by go_simp; try with_reducible rfl) ?_
    try simp only [Act.put, List.setIfInBounds_toArray, List.set_cons_zero, List.set_cons_succ]
    refine wpAnyH_done (by kernel_rfl) ?_ _
    have hIN2 := hIN
    obtain ⟨xs, hQ, hxs⟩ := hY
    have hxs' : xs = oK.enc s := hxs
    subst hxs'
    clear hxs
    go_upto_region 21 with fail
    refine wp_region_held_drew (S := fun w' => Box w' gr (oK.enc s) 34) (by kernel_rfl) (hQ.below (Below.drew (Below.refl _ _))) ?_
    intro hS
    have bq := Below.drew (Below.refl w24.heap.size w24)
    generalize w24.drew = w25 at *
    clear hS
    replace hX := hX.below bq
    replace hO := hO.below bq
    replace hQ := hQ.below bq
    replace hb := bnext hb bq
    clear bq
    refine rtake 0 rfl (by rfl) (by kernel_rfl) (by kernel_rfl) (by kernel_rfl) (fun _ _ _ h => h) hQ (fun wx hwx => by go_simp; try with_reducible rfl) ?_
    try simp only [Act.put, List.setIfInBounds_toArray, List.set_cons_zero, List.set_cons_succ]
    refine rtake 2 rfl (by rfl) (by kernel_rfl) (by kernel_rfl) (by kernel_rfl) (fun _ _ _ h => h) hQ (fun wx hwx => by go_simp; try with_reducible rfl) ?_
    try simp only [Act.put, List.setIfInBounds_toArray, List.set_cons_zero, List.set_cons_succ]
    refine rtake 3 rfl (by rfl) (by kernel_rfl) (by kernel_rfl) (by kernel_rfl) (fun _ _ _ h => h) hQ (fun wx hwx => by go_simp; try with_reducible rfl) ?_
    try simp only [Act.put, List.setIfInBounds_toArray, List.set_cons_zero, List.set_cons_succ]
    refine rtake 4 rfl (by rfl) (by kernel_rfl) (by kernel_rfl) (by kernel_rfl) (fun _ _ _ h => h) hQ (fun wx hwx => by go_simp; try with_reducible rfl) ?_
    try simp only [Act.put, List.setIfInBounds_toArray, List.set_cons_zero, List.set_cons_succ]
    refine rtake 5 rfl (by rfl) (by kernel_rfl) (by kernel_rfl) (by kernel_rfl) (fun _ _ _ h => h) hQ (fun wx hwx => by have q9 : wx.cell? ⟨gr, 2, none⟩ = some (.int .i64 s.r) := hwx.cell 2 _ rfl; go_simp; try with_reducible rfl) ?_
    try simp only [Act.put, List.setIfInBounds_toArray, List.set_cons_zero, List.set_cons_succ]
    refine rcall 1 rfl (by kernel_rfl) (by rfl) (fun K' hK => ?_)
    go_simp
    refine (HRa gx _ w25 hX).mono ?_
    rintro e w26 ⟨rfl, bq⟩
    refine hK.out _ _ (hQ.below bq) ?_
    clear hK K'
    try simp only [Act.put, List.setIfInBounds_toArray, List.set_cons_zero, List.set_cons_succ]
    replace hX := hX.below bq
    replace hO := hO.below bq
    replace hQ := hQ.below bq
    replace hb := bnext hb bq
    clear bq
    refine rtake 6 rfl (by rfl) (by kernel_rfl) (by kernel_rfl) (by kernel_rfl) (fun _ _ _ h => h) hQ (fun wx hwx => by go_simp; try with_reducible rfl) ?_
    try simp only [Act.put, List.setIfInBounds_toArray, List.set_cons_zero, List.set_cons_succ]
    refine rtake 7 rfl (by rfl) (by kernel_rfl) (by kernel_rfl) (by kernel_rfl) (fun _ _ _ h => h) hQ (fun wx hwx => by go_simp; try with_reducible rfl) ?_
    try simp only [Act.put, List.setIfInBounds_toArray, List.set_cons_zero, List.set_cons_succ]
    refine rtake 8 rfl (by rfl) (by kernel_rfl) (by kernel_rfl) (by kernel_rfl) (fun _ _ _ h => h) hQ (fun wx hwx => by go_simp; try with_reducible rfl) ?_
    try simp only [Act.put, List.setIfInBounds_toArray, List.set_cons_zero, List.set_cons_succ]
    refine rtake 10 rfl (by rfl) (by kernel_rfl) (by kernel_rfl) (by kernel_rfl) (fun _ _ _ h => h) hQ (fun wx hwx => by go_simp; try with_reducible rfl) ?_
    try simp only [Act.put, List.setIfInBounds_toArray, List.set_cons_zero, List.set_cons_succ]
    refine rtake 11 rfl (by rfl) (by kernel_rfl) (by kernel_rfl) (by kernel_rfl) (fun _ _ _ h => h) hQ (fun wx hwx => by go_simp; try with_reducible rfl) ?_
    try simp only [Act.put, List.setIfInBounds_toArray, List.set_cons_zero, List.set_cons_succ]
    refine rtake 12 rfl (by rfl) (by kernel_rfl) (by kernel_rfl) (by kernel_rfl) (fun _ _ _ h => h) hQ (fun wx hwx => by go_simp; try with_reducible rfl) ?_
    try simp only [Act.put, List.setIfInBounds_toArray, List.set_cons_zero, List.set_cons_succ]
    refine rtake 13 rfl (by rfl) (by kernel_rfl) (by kernel_rfl) (by kernel_rfl) (fun _ _ _ h => h) hQ (fun wx hwx => by have q9 : wx.cell? ⟨gr, 3, none⟩ = some (.int .i64 s.f) := hwx.cell 3 _ rfl; go_simp; try with_reducible rfl) ?_
    try simp only [Act.put, List.setIfInBounds_toArray, List.set_cons_zero, List.set_cons_succ]
    refine rcall 9 rfl (by kernel_rfl) (by rfl) (fun K' hK => ?_)
    go_simp
    refine (HFr gx _ w26 hX).mono ?_
    rintro e w27 ⟨rfl, bq⟩
    refine hK.out _ _ (hQ.below bq) ?_
    clear hK K'
    try simp only [Act.put, List.setIfInBounds_toArray, List.set_cons_zero, List.set_cons_succ]
    replace hX := hX.below bq
    replace hO := hO.below bq
    replace hQ := hQ.below bq
    replace hb := bnext hb bq
    clear bq
    refine rtake 14 rfl (by rfl) (by kernel_rfl) (by kernel_rfl) (by kernel_rfl) (fun _ _ _ h => h) hQ (fun wx hwx => by go_simp; try with_reducible rfl) ?_
    try simp only [Act.put, List.setIfInBounds_toArray, List.set_cons_zero, List.set_cons_succ]
    refine rtake 15 rfl (by rfl) (by kernel_rfl) (by kernel_rfl) (by kernel_rfl) (fun _ _ _ h => h) hQ (fun wx hwx => by go_simp; try with_reducible rfl) ?_
    try simp only [Act.put, List.setIfInBounds_toArray, List.set_cons_zero, List.set_cons_succ]
    refine wpAnyH_done (by kernel_rfl) ?_ _
    go_wp2_with fail
    go_roundw
    case rel => exact ⟨j + 1, s, by omega, by omega, by go_num, hIN2, hX, ⟨_, hQ, rfl⟩, hb⟩
    case measure => simp [intOf]; omega
end Go.Proofs.Ytelgdfcpccamnaa
