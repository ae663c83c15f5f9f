/- Stamp, Stampb, StampRef, Stampw in one. -/
import Derived.Test.YtohgpnlihfcecaaB2
namespace Go.Proofs.Ytohgpnlihfcecaa
section
open Go.RowKit Go.Proofs
set_option maxRecDepth 50000
set_option linter.unusedVariables false

/-- Is the number a stamp? -/
def mayB (t : Int) : Bool := decide (0 ≤ t ∧ t ≤ 4000000000000000)

theorem mayB_true {t : Int} (h0 : 0 ≤ t) (h1 : t ≤ 4000000000000000) : mayB t = true := decide_eq_true ⟨h0, h1⟩

theorem mayB_false {t : Int} (h : t < 0 ∨ 4000000000000000 < t) : mayB t = false := decide_eq_false (by omega)

theorem mayB_iff {t : Int} : mayB t = true ↔ 0 ≤ t ∧ t ≤ 4000000000000000 := by simp [mayB]

/-- The number that is put. -/
def stampT (t : Int) : Int := if mayB t then t else 0

theorem stampT_in (t : Int) : 0 ≤ stampT t ∧ stampT t ≤ 4000000000000000 := by
  unfold stampT
  split
  · exact mayB_iff.1 (by assumption)
  · decide

theorem stampT_of {t : Int} (h0 : 0 ≤ t) (h1 : t ≤ 4000000000000000) : stampT t = t := by unfold stampT; rw [mayB_true h0 h1]; rfl

/-- A stamp's ten bytes. -/
def stampS (t : Int) : List UInt8 := putS (stampT t / 1000000000) 6 ++ putS (stampT t % 1000000000) 4

theorem stampS_length (t : Int) : (stampS t).length = 10 := by
  unfold stampS
  rw [List.length_append, putS_length _ 6 (by decide) (by decide), putS_length _ 4 (by decide) (by decide)]
  rfl

/-- The seconds and what is left of them, that stand at a place. -/
def secAt (l : List UInt8) (at' : Int) : Nat := numAt l at'.toNat 6

def nanAt (l : List UInt8) (at' : Int) : Nat := numAt l (at' + 6).toNat 4

/-- Does a stamp stand there? -/
def getB (l : List UInt8) (at' : Int) : Bool :=
  decide (0 ≤ at' ∧ at' + 10 ≤ l.length ∧ secAt l at' ≤ 4000000 ∧ nanAt l at' < 1000000000 ∧ secAt l at' * 1000000000 + nanAt l at' ≤ 4000000000000000)

/-- The stamp that stands there, or 0. -/
def getV (l : List UInt8) (at' : Int) : Int := if getB l at' then (secAt l at' * 1000000000 + nanAt l at' : Nat) else 0

theorem getB_true {l : List UInt8} {at' : Int} (h : 0 ≤ at' ∧ at' + 10 ≤ l.length ∧ secAt l at' ≤ 4000000 ∧ nanAt l at' < 1000000000 ∧ secAt l at' * 1000000000 + nanAt l at' ≤ 4000000000000000) : getB l at' = true := decide_eq_true h

theorem getB_false {l : List UInt8} {at' : Int} (h : ¬ (0 ≤ at' ∧ at' + 10 ≤ l.length ∧ secAt l at' ≤ 4000000 ∧ nanAt l at' < 1000000000 ∧ secAt l at' * 1000000000 + nanAt l at' ≤ 4000000000000000)) : getB l at' = false := decide_eq_false h

theorem getV_true {l : List UInt8} {at' : Int} (h : getB l at' = true) : getV l at' = (secAt l at' * 1000000000 + nanAt l at' : Nat) := by unfold getV; rw [h]; rfl

theorem getV_false {l : List UInt8} {at' : Int} (h : getB l at' = false) : getV l at' = 0 := by unfold getV; rw [h]; rfl

theorem nanAt_lt (l : List UInt8) (at' : Int) : nanAt l at' < 4294967296 := by
  unfold nanAt numAt
  refine Nat.lt_of_lt_of_le (num_small _) ?_
  refine Nat.le_trans (Nat.pow_le_pow_right (by decide) (show _ ≤ 4 from ?_)) (by decide)
  rw [List.length_take]
  omega

theorem secAt_stampS (t : Int) (a b : List UInt8) (A : Nat) (hA : a.length = A) : secAt (a ++ (stampS t ++ b)) A = (stampT t / 1000000000).toNat := by
  have h := stampT_in t
  have h6 : putS (stampT t / 1000000000) 6 = putN ((stampT t / 1000000000) % 18446744073709551616).toNat 6 := rfl
  unfold secAt stampS
  rw [h6, List.append_assoc, Int.toNat_natCast, numAt_putN _ _ _ 6 A (by decide) hA, Int.emod_eq_of_lt (by omega) (by omega), Nat.mod_eq_of_lt (by simp; omega)]

theorem nanAt_stampS (t : Int) (a b : List UInt8) (A : Nat) (hA : a.length = A) : nanAt (a ++ (stampS t ++ b)) A = (stampT t % 1000000000).toNat := by
  have h := stampT_in t
  have h4 : putS (stampT t % 1000000000) 4 = putN ((stampT t % 1000000000) % 18446744073709551616).toNat 4 := rfl
  unfold nanAt stampS
  rw [h4, List.append_assoc, ← List.append_assoc a, show ((A : Int) + 6).toNat = A + 6 by omega, numAt_putN _ _ _ 4 (A + 6) (by decide) (by rw [List.length_append, hA, putS_length _ 6 (by decide) (by decide)]; rfl), Int.emod_eq_of_lt (by omega) (by omega), Nat.mod_eq_of_lt (by simp; omega)]

theorem getB_stampS (t : Int) (a b : List UInt8) (A : Nat) (hA : a.length = A) : getB (a ++ (stampS t ++ b)) A = true := by
  have h := stampT_in t
  refine getB_true ⟨by omega, ?_, ?_, ?_, ?_⟩
  · rw [List.length_append, List.length_append, stampS_length]; omega
  · rw [secAt_stampS t a b A hA]; omega
  · rw [nanAt_stampS t a b A hA]; omega
  · rw [secAt_stampS t a b A hA, nanAt_stampS t a b A hA]; omega

theorem getV_stampS (t : Int) (a b : List UInt8) (A : Nat) (hA : a.length = A) : getV (a ++ (stampS t ++ b)) A = stampT t := by
  have h := stampT_in t
  rw [getV_true (getB_stampS t a b A hA), secAt_stampS t a b A hA, nanAt_stampS t a b A hA]
  omega

/-- A sum; beyond an int64 it is the greatest or least one. -/
def addI (a b : Int) : Int := min (max (a + b) (-9223372036854775808)) 9223372036854775807

theorem addI_comm (a b : Int) : addI a b = addI b a := by unfold addI; rw [Int.add_comm]

/-- How often an eighth of a second is in an interval. -/
def eighI (l : Int) : Int := if 4 ≤ l then 128 else if l = 3 then 64 else if l = 2 then 32 else if l = 1 then 16 else if l = 0 then 8 else if l = -1 then 4 else if l = -2 then 2 else 1

theorem eighI_in (l : Int) : 1 ≤ eighI l ∧ eighI l ≤ 128 := by unfold eighI; repeat' split <;> omega

theorem floor_tdiv (c : Int) : c.tdiv 65536 - (if c.tmod 65536 < 0 then 1 else 0) = c / 65536 := by
  have h1 := Int.mul_tdiv_add_tmod c 65536
  have h2 := tmod_bounds c 65536 (by decide)
  generalize c.tdiv 65536 = q at *
  generalize c.tmod 65536 = r at *
  split <;> omega

theorem tdiv_bd (c : Int) (h0 : -9223372036854775808 ≤ c) (h1 : c ≤ 9223372036854775807) : -140737488355328 ≤ c.tdiv 65536 ∧ c.tdiv 65536 ≤ 140737488355328 := by
  have h1 := Int.mul_tdiv_add_tmod c 65536
  have h2 := tmod_bounds c 65536 (by decide)
  generalize c.tdiv 65536 = q at *
  generalize c.tmod 65536 = r at *
  omega
end

section
open Go.RowKit Go.Proofs
set_option maxRecDepth 50000
set_option linter.unusedVariables false

set_option maxHeartbeats 400000 in
theorem may_any (t : Int) (w : World) :
    Calls Try.prog 75 #[.int .i64 t] w fun e w' => e = .returned (.bool (mayB t)) ∧ w = w' := by
  by_cases h0 : 0 ≤ t
  · by_cases h1 : t ≤ 4000000000000000
    · go_enter Try.func75, Try.ntmps75
      go_wp2
      go_ret
      exact ⟨ret_bool (mayB_true h0 h1).symm, rfl⟩
    · go_enter Try.func75, Try.ntmps75
      go_wp2
      go_ret
      exact ⟨ret_bool (mayB_false (.inr (by omega))).symm, rfl⟩
  · go_enter Try.func75, Try.ntmps75
    go_wp2
    go_ret
    exact ⟨ret_bool (mayB_false (.inl (by omega))).symm, rfl⟩

theorem may_yes (t : Int) (w : World) (h : mayB t = true) :
    Calls Try.prog 75 #[.int .i64 t] w fun e w' => e = .returned (.bool true) ∧ w = w' := by
  have := may_any t w
  rwa [h] at this

theorem may_no (t : Int) (w : World) (h : mayB t = false) :
    Calls Try.prog 75 #[.int .i64 t] w fun e w' => e = .returned (.bool false) ∧ w = w' := by
  have := may_any t w
  rwa [h] at this

theorem new_on {w w1 w2 : World} {l m : List UInt8} {v2 : Value} (h1 : Below w.heap.size w w1) (h2 : Own w2 w1.heap.size v2 l) (h3 : Below w1.heap.size w1 w2) (e : l = m) : NewBytes w m (.returned v2) w2 :=
  ⟨v2, rfl, e ▸ h2.mono h1.size, bnext h1 h3⟩

set_option maxHeartbeats 400000 in
theorem stampPut_any (v : Value) (l : List UInt8) (t : Int) (w : World) (hB : Bytes w v l) (hl : l.length ≤ 140737488351232) :
    Calls Try.prog 80 #[v, .int .i64 t] w (NewBytes w (l ++ stampS t)) := by
  have hin := stampT_in t
  obtain ⟨hin0, hin1⟩ := hin
  cases hm : mayB t
  · have hT : stampT t = 0 := by unfold stampT; rw [hm]; rfl
    have Hm := hid hm
    have HT := hid hT
    clear hm hT hin0 hin1
    go_enter Try.func80, Try.ntmps80
    go_wp2_with fail
    refine (may_no _ _ Hm.out).mono ?_
    rintro e w' ⟨rfl, rfl⟩
    go_wp2_with fail
    refine (put_any _ l _ _ _ hB (by omega)).mono ?_
    rintro e w1 ⟨v1, rfl, hown, hbel⟩
    go_wp2_with fail
    refine (put_any _ _ _ _ _ hown.bytes (by rw [List.length_append, putS_length _ _ (by decide) (by decide)]; simp; omega)).mono ?_
    rintro e w2 ⟨v2, rfl, hown2, hbel2⟩
    go_wp2_with fail
    go_ret
    refine new_on hbel hown2 hbel2 ?_
    unfold stampS
    rw [HT.out, List.append_assoc]
    rfl
  · have hT : stampT t = t := by unfold stampT; rw [hm]; rfl
    rw [hT] at hin0 hin1
    have Hm := hid hm
    have HT := hid hT
    clear hm hT
    go_enter Try.func80, Try.ntmps80
    go_wp2_with fail
    refine (may_yes _ _ Hm.out).mono ?_
    rintro e w' ⟨rfl, rfl⟩
    go_wp2_with fail
    refine (put_any _ l _ _ _ hB (by omega)).mono ?_
    rintro e w1 ⟨v1, rfl, hown, hbel⟩
    go_wp2_with fail
    refine (put_any _ _ _ _ _ hown.bytes (by rw [List.length_append, putS_length _ _ (by decide) (by decide)]; simp; omega)).mono ?_
    rintro e w2 ⟨v2, rfl, hown2, hbel2⟩
    go_wp2_with fail
    go_ret
    refine new_on hbel hown2 hbel2 ?_
    unfold stampS
    rw [HT.out, List.append_assoc]

set_option maxHeartbeats 1600000 in
theorem stampGet_any (v : Value) (l : List UInt8) (at' : Int) (w : World) (hB : Bytes w v l) (hl : l.length ≤ 140737488351232) (hat : at' ≤ 9223372036854775807) :
    Calls Try.prog 61 #[v, .int .i64 at'] w fun e w' => e = .returned (.tuple #[.int .i64 (getV l at'), .bool (getB l at')]) ∧ w = w' := by
  cases h6 : standB l.length at' 6
  · have hno : getB l at' = false := getB_false fun h => by
      have : standB l.length at' 6 = true := standB_true h.1 (by decide) (by omega)
      rw [h6] at this
      cases this
    rw [getV_false hno, hno]
    have H6 := hid h6
    clear h6 hno
    go_enter Try.func61, Try.ntmps61
    go_wp2_with fail
    refine (get_no _ _ _ _ _ hB (by omega) hat (.inr H6.out)).mono ?_
    rintro e w' ⟨rfl, rfl⟩
    go_wp2_with fail
    go_ret2
    exact ⟨rfl, rfl⟩
  obtain ⟨h60, _, h61⟩ := standB_iff.1 h6
  have hS : ((numAt l at'.toNat 6 : Nat) : Int) = (secAt l at' : Nat) := rfl
  obtain ⟨S, hSs⟩ : ∃ S : Int, S = (secAt l at' : Nat) := ⟨_, rfl⟩
  have hS0 : 0 ≤ S := by omega
  by_cases hbig : 4000000 < S
  · have hno : getB l at' = false := getB_false fun h => by omega
    rw [getV_false hno, hno]
    rw [← hSs] at hS
    have H6 := hid h6
    have HS := hid hS
    clear h6 hno hS hSs
    go_enter Try.func61, Try.ntmps61
    go_wp2_with fail
    refine (get_ok _ _ _ _ _ hB (by omega) hat (by decide) (by decide) H6.out).mono ?_
    rintro e w' ⟨rfl, rfl⟩
    rw [show (6 : Int).toNat = 6 from rfl, HS.out]
    go_wp2_with fail
    go_ret2
    exact ⟨rfl, rfl⟩
  have hle : S ≤ 4000000 := by omega
  cases h4 : standB l.length (at' + 6) 4
  · have hno : getB l at' = false := getB_false fun h => by
      have : standB l.length (at' + 6) 4 = true := standB_true (by omega) (by decide) (by omega)
      rw [h4] at this
      cases this
    rw [getV_false hno, hno]
    rw [← hSs] at hS
    have H6 := hid h6
    have H4 := hid h4
    have HS := hid hS
    clear h6 h4 hno hS hSs hbig
    go_enter Try.func61, Try.ntmps61
    go_wp2_with fail
    refine (get_ok _ _ _ _ _ hB (by omega) hat (by decide) (by decide) H6.out).mono ?_
    rintro e w' ⟨rfl, rfl⟩
    rw [show (6 : Int).toNat = 6 from rfl, HS.out]
    go_wp2_with fail
    refine (get_no _ _ _ _ _ hB (by omega) (by omega) (.inr H4.out)).mono ?_
    rintro e w' ⟨rfl, rfl⟩
    go_wp2_with fail
    go_ret2
    exact ⟨rfl, rfl⟩
  obtain ⟨h40, _, h41⟩ := standB_iff.1 h4
  have hN : ((numAt l (at' + 6).toNat 4 : Nat) : Int) = (nanAt l at' : Nat) := rfl
  have hNlt : ((nanAt l at' : Nat) : Int) < 4294967296 := by have := nanAt_lt l at'; omega
  obtain ⟨N, hNs⟩ : ∃ N : Int, N = (nanAt l at' : Nat) := ⟨_, rfl⟩
  have hN0 : 0 ≤ N := by omega
  by_cases hbn : 1000000000 ≤ N
  · have hno : getB l at' = false := getB_false fun h => by omega
    rw [getV_false hno, hno]
    rw [← hSs] at hS
    rw [← hNs] at hN hNlt
    have H6 := hid h6
    have H4 := hid h4
    have HS := hid hS
    have HN := hid hN
    clear h6 h4 hno hS hSs hbig hN hNs
    go_enter Try.func61, Try.ntmps61
    go_wp2_with fail
    refine (get_ok _ _ _ _ _ hB (by omega) hat (by decide) (by decide) H6.out).mono ?_
    rintro e w' ⟨rfl, rfl⟩
    rw [show (6 : Int).toNat = 6 from rfl, HS.out]
    go_wp2_with fail
    refine (get_ok _ _ _ _ _ hB (by omega) (by omega) (by decide) (by decide) H4.out).mono ?_
    rintro e w' ⟨rfl, rfl⟩
    rw [show (4 : Int).toNat = 4 from rfl, HN.out]
    go_wp2_with fail
    go_ret2
    exact ⟨rfl, rfl⟩
  have hnlt : N < 1000000000 := by omega
  cases hm : mayB (S * 1000000000 + N)
  · have hno : getB l at' = false := getB_false fun h => by
      have : mayB (S * 1000000000 + N) = true := mayB_true (by omega) (by omega)
      rw [hm] at this
      cases this
    rw [getV_false hno, hno]
    rw [← hSs] at hS
    rw [← hNs] at hN hNlt
    have H6 := hid h6
    have H4 := hid h4
    have HS := hid hS
    have HN := hid hN
    have Hm := hid hm
    clear h6 h4 hno hS hSs hbig hN hNs hbn hm
    go_enter Try.func61, Try.ntmps61
    go_wp2_with fail
    refine (get_ok _ _ _ _ _ hB (by omega) hat (by decide) (by decide) H6.out).mono ?_
    rintro e w' ⟨rfl, rfl⟩
    rw [show (6 : Int).toNat = 6 from rfl, HS.out]
    go_wp2_with fail
    refine (get_ok _ _ _ _ _ hB (by omega) (by omega) (by decide) (by decide) H4.out).mono ?_
    rintro e w' ⟨rfl, rfl⟩
    rw [show (4 : Int).toNat = 4 from rfl, HN.out]
    go_wp2_with fail
    refine (may_no _ _ Hm.out).mono ?_
    rintro e w' ⟨rfl, rfl⟩
    go_wp2_with fail
    go_ret2
    exact ⟨rfl, rfl⟩
  · have hm2 := mayB_iff.1 hm
    have hyes : getB l at' = true := getB_true ⟨h60, by omega, by omega, by omega, by omega⟩
    have hV : getV l at' = S * 1000000000 + N := by rw [getV_true hyes]; omega
    rw [hV, hyes]
    rw [← hSs] at hS
    rw [← hNs] at hN hNlt
    have H6 := hid h6
    have H4 := hid h4
    have HS := hid hS
    have HN := hid hN
    have Hm := hid hm
    clear h6 h4 hyes hV hm2 hS hSs hbig hN hNs hbn hm
    go_enter Try.func61, Try.ntmps61
    go_wp2_with fail
    refine (get_ok _ _ _ _ _ hB (by omega) hat (by decide) (by decide) H6.out).mono ?_
    rintro e w' ⟨rfl, rfl⟩
    rw [show (6 : Int).toNat = 6 from rfl, HS.out]
    go_wp2_with fail
    refine (get_ok _ _ _ _ _ hB (by omega) (by omega) (by decide) (by decide) H4.out).mono ?_
    rintro e w' ⟨rfl, rfl⟩
    rw [show (4 : Int).toNat = 4 from rfl, HN.out]
    go_wp2_with fail
    refine (may_yes _ _ Hm.out).mono ?_
    rintro e w' ⟨rfl, rfl⟩
    go_wp2_with fail
    go_ret2
    exact ⟨rfl, rfl⟩





end

section
open Go.RowKit Go.Proofs
set_option maxRecDepth 50000
set_option linter.unusedVariables false

set_option maxHeartbeats 400000 in
theorem refMay_any (t : Int) (w : World) :
    Calls Try.prog 48 #[.int .i64 t] w fun e w' => e = .returned (.bool (mayB t)) ∧ w = w' := by
  by_cases h0 : 0 ≤ t
  · by_cases h1 : t ≤ 4000000000000000
    · go_enter Try.func48, Try.ntmps48
      go_wp2
      go_ret
      exact ⟨ret_bool (mayB_true h0 h1).symm, rfl⟩
    · go_enter Try.func48, Try.ntmps48
      go_wp2
      go_ret
      exact ⟨ret_bool (mayB_false (.inr (by omega))).symm, rfl⟩
  · go_enter Try.func48, Try.ntmps48
    go_wp2
    go_ret
    exact ⟨ret_bool (mayB_false (.inl (by omega))).symm, rfl⟩

theorem refMay_yes (t : Int) (w : World) (h : mayB t = true) :
    Calls Try.prog 48 #[.int .i64 t] w fun e w' => e = .returned (.bool true) ∧ w = w' := by
  have := refMay_any t w
  rwa [h] at this

theorem refMay_no (t : Int) (w : World) (h : mayB t = false) :
    Calls Try.prog 48 #[.int .i64 t] w fun e w' => e = .returned (.bool false) ∧ w = w' := by
  have := refMay_any t w
  rwa [h] at this

set_option maxHeartbeats 800000 in
theorem refStampPut_any (t : Int) (w : World) :
    Calls Try.prog 54 #[.int .i64 t] w (NewBytes w (stampS t)) := by
  have hin := stampT_in t
  obtain ⟨hin0, hin1⟩ := hin
  cases hm : mayB t
  · have hT : stampT t = 0 := by unfold stampT; rw [hm]; rfl
    have Hm := hid hm
    have HT := hid hT
    clear hm hT hin0 hin1
    go_enter Try.func54, Try.ntmps54
    go_wp2_with fail
    refine (refMay_no _ _ Hm.out).mono ?_
    rintro e w' ⟨rfl, rfl⟩
    go_wp2_with fail
    refine (refPut_any _ _ _).mono ?_
    rintro e w1 ⟨v1, rfl, hown, hbel⟩
    go_wp2_with fail
    refine (refPut_any _ _ _).mono ?_
    rintro e w2 ⟨v2, rfl, hown2, hbel2⟩
    have hownA := hown.below hbel2
    have hB2 := hown2.bytes
    have hbase : w.heap.size ≤ w2.heap.size := Nat.le_trans hbel.size hbel2.size
    have hlen : (putS 0 6).length + (putS 0 4).length ≤ 140737488355328 := by decide
    have hb12 := bnext hbel hbel2
    have Hlen := hid hlen
    clear hown hown2 hbel hbel2 hlen
    go_wp2_with (at_builtin; refine wpList_append_bytes rfl _ _ rfl rfl w.heap.size _ _ _ _ rfl rfl hownA hB2 Hlen.out hbase ?_; intro v3 w3 hown3 hbel3)
    go_ret
    refine ⟨v3, rfl, ?_, hb12.trans hbel3⟩
    unfold stampS
    rw [HT.out]
    exact hown3
  · have hT : stampT t = t := by unfold stampT; rw [hm]; rfl
    rw [hT] at hin0 hin1
    have Hm := hid hm
    have HT := hid hT
    clear hm hT
    have Hlen : Hid ((putS (t / 1000000000) 6).length + (putS (t % 1000000000) 4).length ≤ 140737488355328) := hid (by rw [putS_length _ 6 (by decide) (by decide), putS_length _ 4 (by decide) (by decide)]; decide)
    go_enter Try.func54, Try.ntmps54
    go_wp2_with fail
    refine (refMay_yes _ _ Hm.out).mono ?_
    rintro e w' ⟨rfl, rfl⟩
    go_wp2_with fail
    refine (refPut_any _ _ _).mono ?_
    rintro e w1 ⟨v1, rfl, hown, hbel⟩
    go_wp2_with fail
    refine (refPut_any _ _ _).mono ?_
    rintro e w2 ⟨v2, rfl, hown2, hbel2⟩
    have hownA := hown.below hbel2
    have hB2 := hown2.bytes
    have hbase : w.heap.size ≤ w2.heap.size := Nat.le_trans hbel.size hbel2.size
    have hb12 := bnext hbel hbel2
    clear hown hown2 hbel hbel2
    go_wp2_with (at_builtin; refine wpList_append_bytes rfl _ _ rfl rfl w.heap.size _ _ _ _ rfl rfl hownA hB2 Hlen.out hbase ?_; intro v3 w3 hown3 hbel3)
    go_ret
    refine ⟨v3, rfl, ?_, hb12.trans hbel3⟩
    unfold stampS
    rw [HT.out]
    exact hown3

set_option maxHeartbeats 1600000 in
theorem refStampGet_any (v : Value) (l : List UInt8) (at' : Int) (w : World) (hB : Bytes w v l) (hl : l.length ≤ 140737488351232) (hat0 : -9223372036854775808 ≤ at') (hat : at' ≤ 9223372036854775807) :
    Calls Try.prog 71 #[v, .int .i64 at'] w fun e w' => e = .returned (.tuple #[.int .i64 (getV l at'), .bool (getB l at')]) ∧ w = w' := by
  cases h6 : standB l.length at' 6
  · have hno : getB l at' = false := getB_false fun h => by
      have : standB l.length at' 6 = true := standB_true h.1 (by decide) (by omega)
      rw [h6] at this
      cases this
    rw [getV_false hno, hno]
    have H6 := hid h6
    clear h6 hno
    go_enter Try.func71, Try.ntmps71
    go_wp2_with fail
    refine (refGet_no _ _ _ _ _ hB (by omega) hat (.inr H6.out)).mono ?_
    rintro e w' ⟨rfl, rfl⟩
    go_wp2_with fail
    go_ret2
    exact ⟨rfl, rfl⟩
  obtain ⟨h60, _, h61⟩ := standB_iff.1 h6
  have hS : ((numAt l at'.toNat 6 : Nat) : Int) = (secAt l at' : Nat) := rfl
  have hSlt : ((secAt l at' : Nat) : Int) < 72057594037927936 := by have := num_at_lt l at'.toNat 6 (by decide); unfold secAt; omega
  obtain ⟨S, hSs⟩ : ∃ S : Int, S = (secAt l at' : Nat) := ⟨_, rfl⟩
  have hS0 : 0 ≤ S := by omega
  obtain ⟨p, cap, rfl, hcap, hmax, hpat⟩ := id hB
  by_cases h10 : (l.length : Int) - 10 < at'
  · have hno : getB l at' = false := getB_false fun h => by omega
    rw [getV_false hno, hno]
    rw [← hSs] at hS hSlt
    have H6 := hid h6
    have HS := hid hS
    clear h6 hno hS hSs hpat
    go_enter Try.func71, Try.ntmps71
    go_wp2_with fail
    refine (refGet_ok _ _ _ _ _ hB (by omega) hat (by decide) (by decide) H6.out).mono ?_
    rintro e w' ⟨rfl, rfl⟩
    rw [show (6 : Int).toNat = 6 from rfl, HS.out]
    go_wp2_with fail
    go_ret2
    exact ⟨rfl, rfl⟩
  have h4 : standB l.length (at' + 6) 4 = true := standB_true (by omega) (by decide) (by omega)
  have hN : ((numAt l (at' + 6).toNat 4 : Nat) : Int) = (nanAt l at' : Nat) := rfl
  have hNlt : ((nanAt l at' : Nat) : Int) < 4294967296 := by have := nanAt_lt l at'; omega
  obtain ⟨N, hNs⟩ : ∃ N : Int, N = (nanAt l at' : Nat) := ⟨_, rfl⟩
  have hN0 : 0 ≤ N := by omega
  by_cases hbn : 1000000000 ≤ N
  · have hno : getB l at' = false := getB_false fun h => by omega
    rw [getV_false hno, hno]
    rw [← hSs] at hS hSlt
    rw [← hNs] at hN hNlt
    have H6 := hid h6
    have H4 := hid h4
    have HS := hid hS
    have HN := hid hN
    clear h6 h4 hno hS hSs hN hNs hpat
    go_enter Try.func71, Try.ntmps71
    go_wp2_with fail
    refine (refGet_ok _ _ _ _ _ hB (by omega) hat (by decide) (by decide) H6.out).mono ?_
    rintro e w' ⟨rfl, rfl⟩
    rw [show (6 : Int).toNat = 6 from rfl, HS.out]
    go_wp2_with fail
    refine (refGet_ok _ _ _ _ _ hB (by omega) (by omega) (by decide) (by decide) H4.out).mono ?_
    rintro e w' ⟨rfl, rfl⟩
    rw [show (4 : Int).toNat = 4 from rfl, HN.out]
    go_wp2_with fail
    go_ret2
    exact ⟨rfl, rfl⟩
  have hnlt : N < 1000000000 := by omega
  by_cases hbig : 4000000 < S
  · have hno : getB l at' = false := getB_false fun h => by omega
    rw [getV_false hno, hno]
    rw [← hSs] at hS hSlt
    rw [← hNs] at hN hNlt
    have H6 := hid h6
    have H4 := hid h4
    have HS := hid hS
    have HN := hid hN
    clear h6 h4 hno hS hSs hN hNs hpat hbn
    go_enter Try.func71, Try.ntmps71
    go_wp2_with fail
    refine (refGet_ok _ _ _ _ _ hB (by omega) hat (by decide) (by decide) H6.out).mono ?_
    rintro e w' ⟨rfl, rfl⟩
    rw [show (6 : Int).toNat = 6 from rfl, HS.out]
    go_wp2_with fail
    refine (refGet_ok _ _ _ _ _ hB (by omega) (by omega) (by decide) (by decide) H4.out).mono ?_
    rintro e w' ⟨rfl, rfl⟩
    rw [show (4 : Int).toNat = 4 from rfl, HN.out]
    go_wp2_with fail
    go_ret2
    exact ⟨rfl, rfl⟩
  have hle : S ≤ 4000000 := by omega
  cases hm : mayB (S * 1000000000 + N)
  · have hno : getB l at' = false := getB_false fun h => by
      have : mayB (S * 1000000000 + N) = true := mayB_true (by omega) (by omega)
      rw [hm] at this
      cases this
    rw [getV_false hno, hno]
    rw [← hSs] at hS hSlt
    rw [← hNs] at hN hNlt
    have H6 := hid h6
    have H4 := hid h4
    have HS := hid hS
    have HN := hid hN
    have Hm := hid hm
    clear h6 h4 hno hS hSs hN hNs hpat hbn hbig hm
    go_enter Try.func71, Try.ntmps71
    go_wp2_with fail
    refine (refGet_ok _ _ _ _ _ hB (by omega) hat (by decide) (by decide) H6.out).mono ?_
    rintro e w' ⟨rfl, rfl⟩
    rw [show (6 : Int).toNat = 6 from rfl, HS.out]
    go_wp2_with fail
    refine (refGet_ok _ _ _ _ _ hB (by omega) (by omega) (by decide) (by decide) H4.out).mono ?_
    rintro e w' ⟨rfl, rfl⟩
    rw [show (4 : Int).toNat = 4 from rfl, HN.out]
    go_wp2_with fail
    refine (refMay_no _ _ Hm.out).mono ?_
    rintro e w' ⟨rfl, rfl⟩
    go_wp2_with fail
    go_ret2
    exact ⟨rfl, rfl⟩
  · have hm2 := mayB_iff.1 hm
    have hyes : getB l at' = true := getB_true ⟨h60, by omega, by omega, by omega, by omega⟩
    have hV : getV l at' = S * 1000000000 + N := by rw [getV_true hyes]; omega
    rw [hV, hyes]
    rw [← hSs] at hS hSlt
    rw [← hNs] at hN hNlt
    have H6 := hid h6
    have H4 := hid h4
    have HS := hid hS
    have HN := hid hN
    have Hm := hid hm
    clear h6 h4 hyes hV hm2 hS hSs hN hNs hpat hbn hbig hm
    go_enter Try.func71, Try.ntmps71
    go_wp2_with fail
    refine (refGet_ok _ _ _ _ _ hB (by omega) hat (by decide) (by decide) H6.out).mono ?_
    rintro e w' ⟨rfl, rfl⟩
    rw [show (6 : Int).toNat = 6 from rfl, HS.out]
    go_wp2_with fail
    refine (refGet_ok _ _ _ _ _ hB (by omega) (by omega) (by decide) (by decide) H4.out).mono ?_
    rintro e w' ⟨rfl, rfl⟩
    rw [show (4 : Int).toNat = 4 from rfl, HN.out]
    go_wp2_with fail
    refine (refMay_yes _ _ Hm.out).mono ?_
    rintro e w' ⟨rfl, rfl⟩
    go_wp2_with fail
    go_ret2
    exact ⟨rfl, rfl⟩





end

section
open Go.RowKit Go.Proofs
set_option maxRecDepth 50000
set_option linter.unusedVariables false

set_option maxHeartbeats 1600000 in
theorem stampGet_wide (v : Value) (l : List UInt8) (at' : Int) (w : World) (hB : Bytes w v l) (hl : l.length ≤ 140737488355328) (hat : at' ≤ 9223372036854775807) :
    Calls Try.prog 61 #[v, .int .i64 at'] w fun e w' => e = .returned (.tuple #[.int .i64 (getV l at'), .bool (getB l at')]) ∧ w = w' := by
  cases h6 : standB l.length at' 6
  · have hno : getB l at' = false := getB_false fun h => by
      have : standB l.length at' 6 = true := standB_true h.1 (by decide) (by omega)
      rw [h6] at this
      cases this
    rw [getV_false hno, hno]
    have H6 := hid h6
    clear h6 hno
    go_enter Try.func61, Try.ntmps61
    go_wp2_with fail
    refine (get_no _ _ _ _ _ hB (by omega) hat (.inr H6.out)).mono ?_
    rintro e w' ⟨rfl, rfl⟩
    go_wp2_with fail
    go_ret2
    exact ⟨rfl, rfl⟩
  obtain ⟨h60, _, h61⟩ := standB_iff.1 h6
  have hS : ((numAt l at'.toNat 6 : Nat) : Int) = (secAt l at' : Nat) := rfl
  obtain ⟨S, hSs⟩ : ∃ S : Int, S = (secAt l at' : Nat) := ⟨_, rfl⟩
  have hS0 : 0 ≤ S := by omega
  by_cases hbig : 4000000 < S
  · have hno : getB l at' = false := getB_false fun h => by omega
    rw [getV_false hno, hno]
    rw [← hSs] at hS
    have H6 := hid h6
    have HS := hid hS
    clear h6 hno hS hSs
    go_enter Try.func61, Try.ntmps61
    go_wp2_with fail
    refine (get_ok _ _ _ _ _ hB (by omega) hat (by decide) (by decide) H6.out).mono ?_
    rintro e w' ⟨rfl, rfl⟩
    rw [show (6 : Int).toNat = 6 from rfl, HS.out]
    go_wp2_with fail
    go_ret2
    exact ⟨rfl, rfl⟩
  have hle : S ≤ 4000000 := by omega
  cases h4 : standB l.length (at' + 6) 4
  · have hno : getB l at' = false := getB_false fun h => by
      have : standB l.length (at' + 6) 4 = true := standB_true (by omega) (by decide) (by omega)
      rw [h4] at this
      cases this
    rw [getV_false hno, hno]
    rw [← hSs] at hS
    have H6 := hid h6
    have H4 := hid h4
    have HS := hid hS
    clear h6 h4 hno hS hSs hbig
    go_enter Try.func61, Try.ntmps61
    go_wp2_with fail
    refine (get_ok _ _ _ _ _ hB (by omega) hat (by decide) (by decide) H6.out).mono ?_
    rintro e w' ⟨rfl, rfl⟩
    rw [show (6 : Int).toNat = 6 from rfl, HS.out]
    go_wp2_with fail
    refine (get_no _ _ _ _ _ hB (by omega) (by omega) (.inr H4.out)).mono ?_
    rintro e w' ⟨rfl, rfl⟩
    go_wp2_with fail
    go_ret2
    exact ⟨rfl, rfl⟩
  obtain ⟨h40, _, h41⟩ := standB_iff.1 h4
  have hN : ((numAt l (at' + 6).toNat 4 : Nat) : Int) = (nanAt l at' : Nat) := rfl
  have hNlt : ((nanAt l at' : Nat) : Int) < 4294967296 := by have := nanAt_lt l at'; omega
  obtain ⟨N, hNs⟩ : ∃ N : Int, N = (nanAt l at' : Nat) := ⟨_, rfl⟩
  have hN0 : 0 ≤ N := by omega
  by_cases hbn : 1000000000 ≤ N
  · have hno : getB l at' = false := getB_false fun h => by omega
    rw [getV_false hno, hno]
    rw [← hSs] at hS
    rw [← hNs] at hN hNlt
    have H6 := hid h6
    have H4 := hid h4
    have HS := hid hS
    have HN := hid hN
    clear h6 h4 hno hS hSs hbig hN hNs
    go_enter Try.func61, Try.ntmps61
    go_wp2_with fail
    refine (get_ok _ _ _ _ _ hB (by omega) hat (by decide) (by decide) H6.out).mono ?_
    rintro e w' ⟨rfl, rfl⟩
    rw [show (6 : Int).toNat = 6 from rfl, HS.out]
    go_wp2_with fail
    refine (get_ok _ _ _ _ _ hB (by omega) (by omega) (by decide) (by decide) H4.out).mono ?_
    rintro e w' ⟨rfl, rfl⟩
    rw [show (4 : Int).toNat = 4 from rfl, HN.out]
    go_wp2_with fail
    go_ret2
    exact ⟨rfl, rfl⟩
  have hnlt : N < 1000000000 := by omega
  cases hm : mayB (S * 1000000000 + N)
  · have hno : getB l at' = false := getB_false fun h => by
      have : mayB (S * 1000000000 + N) = true := mayB_true (by omega) (by omega)
      rw [hm] at this
      cases this
    rw [getV_false hno, hno]
    rw [← hSs] at hS
    rw [← hNs] at hN hNlt
    have H6 := hid h6
    have H4 := hid h4
    have HS := hid hS
    have HN := hid hN
    have Hm := hid hm
    clear h6 h4 hno hS hSs hbig hN hNs hbn hm
    go_enter Try.func61, Try.ntmps61
    go_wp2_with fail
    refine (get_ok _ _ _ _ _ hB (by omega) hat (by decide) (by decide) H6.out).mono ?_
    rintro e w' ⟨rfl, rfl⟩
    rw [show (6 : Int).toNat = 6 from rfl, HS.out]
    go_wp2_with fail
    refine (get_ok _ _ _ _ _ hB (by omega) (by omega) (by decide) (by decide) H4.out).mono ?_
    rintro e w' ⟨rfl, rfl⟩
    rw [show (4 : Int).toNat = 4 from rfl, HN.out]
    go_wp2_with fail
    refine (may_no _ _ Hm.out).mono ?_
    rintro e w' ⟨rfl, rfl⟩
    go_wp2_with fail
    go_ret2
    exact ⟨rfl, rfl⟩
  · have hm2 := mayB_iff.1 hm
    have hyes : getB l at' = true := getB_true ⟨h60, by omega, by omega, by omega, by omega⟩
    have hV : getV l at' = S * 1000000000 + N := by rw [getV_true hyes]; omega
    rw [hV, hyes]
    rw [← hSs] at hS
    rw [← hNs] at hN hNlt
    have H6 := hid h6
    have H4 := hid h4
    have HS := hid hS
    have HN := hid hN
    have Hm := hid hm
    clear h6 h4 hyes hV hm2 hS hSs hbig hN hNs hbn hm
    go_enter Try.func61, Try.ntmps61
    go_wp2_with fail
    refine (get_ok _ _ _ _ _ hB (by omega) hat (by decide) (by decide) H6.out).mono ?_
    rintro e w' ⟨rfl, rfl⟩
    rw [show (6 : Int).toNat = 6 from rfl, HS.out]
    go_wp2_with fail
    refine (get_ok _ _ _ _ _ hB (by omega) (by omega) (by decide) (by decide) H4.out).mono ?_
    rintro e w' ⟨rfl, rfl⟩
    rw [show (4 : Int).toNat = 4 from rfl, HN.out]
    go_wp2_with fail
    refine (may_yes _ _ Hm.out).mono ?_
    rintro e w' ⟨rfl, rfl⟩
    go_wp2_with fail
    go_ret2
    exact ⟨rfl, rfl⟩
end
end Go.Proofs.Ytohgpnlihfcecaa
