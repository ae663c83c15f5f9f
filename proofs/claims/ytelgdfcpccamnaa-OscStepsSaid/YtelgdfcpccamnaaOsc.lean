/- An oscillator (chapter 24): plainly, and the contracts, whatever it looks like inside (gen_osclaws.py). -/
import Derived.Test.YtelgdfcpccamnaaObj
import Derived.Test.YtelgdfcpccamnaaPlace
import Derived.Test.YtelgdfcpccamnaaCut
namespace Go.Proofs.Ytelgdfcpccamnaa
open Go.RowKit Go.Proofs
set_option maxRecDepth 50000
set_option linter.unusedVariables false
set_option linter.unusedSimpArgs false

structure Oz where
  t : Int
  l : Int
  r : Int
  f : Int
def cutS (v : Int) : Int := cutI v 0 4000000000000000
def cutF (v : Int) : Int := cutI v (-512000) 512000
def newO (l r : Int) : Oz := ⟨0, cutS l, cutF r, 0⟩
def atO (s : Oz) (t : Int) : Int := min (max t s.t) 4000000000000000
def readO (s : Oz) (t : Int) : Int := cutS (s.l + (atO s t - s.t) + ((atO s t - s.t) * (s.r + s.f)) / 1000000000)
def moveO (s : Oz) (t : Int) : Oz := { s with t := atO s t, l := readO s t }
def setRO (s : Oz) (t r : Int) : Oz := { moveO s t with r := cutF r }
def setFO (s : Oz) (t f : Int) : Oz := { moveO s t with f := cutF f }
def stepO (s : Oz) (t n : Int) : Oz := { moveO s t with l := cutS (readO s t + cutI n (-4000000000000000) 4000000000000000) }
def InO (s : Oz) : Prop := (0 ≤ s.t ∧ s.t ≤ 4000000000000000) ∧ (0 ≤ s.l ∧ s.l ≤ 4000000000000000) ∧ (-512000 ≤ s.r ∧ s.r ≤ 512000) ∧ (-512000 ≤ s.f ∧ s.f ≤ 512000)
theorem cutS_range (v : Int) : 0 ≤ cutS v ∧ cutS v ≤ 4000000000000000 := cutI_range (by decide)
theorem cutF_range (v : Int) : -512000 ≤ cutF v ∧ cutF v ≤ 512000 := cutI_range (by decide)
theorem readO_range (s : Oz) (t : Int) : 0 ≤ readO s t ∧ readO s t ≤ 4000000000000000 := cutS_range _
theorem atO_range {s : Oz} (h : InO s) (t : Int) : s.t ≤ atO s t ∧ 0 ≤ atO s t ∧ atO s t ≤ 4000000000000000 := by
  obtain ⟨⟨h1, h2⟩, -⟩ := h
  unfold atO
  omega
theorem newO_in (l r : Int) : InO (newO l r) := ⟨by show (0 : Int) ≤ 0 ∧ (0 : Int) ≤ 4000000000000000; decide, cutS_range l, cutF_range r, by show (-512000 : Int) ≤ 0 ∧ (0 : Int) ≤ 512000; decide⟩
theorem moveO_in {s : Oz} (h : InO s) (t : Int) : InO (moveO s t) := ⟨(atO_range h t).2, readO_range s t, h.2.2.1, h.2.2.2⟩
theorem setRO_in {s : Oz} (h : InO s) (t r : Int) : InO (setRO s t r) := ⟨(atO_range h t).2, readO_range s t, cutF_range r, h.2.2.2⟩
theorem setFO_in {s : Oz} (h : InO s) (t f : Int) : InO (setFO s t f) := ⟨(atO_range h t).2, readO_range s t, h.2.2.1, cutF_range f⟩
theorem stepO_in {s : Oz} (h : InO s) (t n : Int) : InO (stepO s t n) := ⟨(atO_range h t).2, cutS_range _, h.2.2.1, h.2.2.2⟩
theorem atO_in {s : Oz} {t : Int} (h0 : s.t ≤ t) (h1 : t ≤ 4000000000000000) : atO s t = t := by unfold atO; omega
theorem cutS_in {v : Int} (h1 : 0 ≤ v) (h2 : v ≤ 4000000000000000) : cutS v = v := cutI_in h1 h2
theorem readO_at {s : Oz} {t : Int} (h0 : s.t ≤ t) (h1 : t ≤ 4000000000000000) : readO s t = cutS (s.l + (t - s.t) + ((t - s.t) * (s.r + s.f)) / 1000000000) := by
  unfold readO
  rw [atO_in h0 h1]
/-- Whole seconds by a rate. -/
theorem whole_rate (k r : Int) : (k * 1000000000 * r) / 1000000000 = k * r := by
  rw [Int.mul_right_comm]
  exact Int.mul_ediv_cancel _ (by decide)
theorem mul_bounds {k r a c : Int} (h0 : 0 ≤ k) (h1 : k ≤ a) (h2 : -c ≤ r) (h3 : r ≤ c) (hc : 0 ≤ c) : -(a * c) ≤ k * r ∧ k * r ≤ a * c := by
  have e1 : k * r ≤ k * c := Int.mul_le_mul_of_nonneg_left h3 h0
  have e2 : k * (-c) ≤ k * r := Int.mul_le_mul_of_nonneg_left h2 h0
  have e3 : k * c ≤ a * c := Int.mul_le_mul_of_nonneg_right h1 hc
  rw [Int.mul_neg] at e2
  omega
theorem mul_mid {k r c : Int} (h0 : 0 ≤ k) (h2 : -c ≤ r) (h3 : r ≤ c) : -(k * c) ≤ k * r ∧ k * r ≤ k * c := by
  have e1 : k * r ≤ k * c := Int.mul_le_mul_of_nonneg_left h3 h0
  have e2 : k * (-c) ≤ k * r := Int.mul_le_mul_of_nonneg_left h2 h0
  rw [Int.mul_neg] at e2
  omega
/-- A step moves it by just so much, then and later. -/
theorem stepO_eq {l rate k j n x y : Int} (hl : 500000000000000 ≤ l) (hl2 : l < 1000000000000000) (hk : 0 ≤ k) (hk2 : k < 1000) (hj : 0 ≤ j) (hj2 : j < 1000) (hn : -250000000000000 ≤ n) (hn2 : n < 250000000000000) (hx : x = k * 1000000000) (hy : y = x + j * 1000000000) :
    readO (stepO (newO l rate) x n) x = readO (newO l rate) x + n ∧ readO (stepO (newO l rate) x n) y = readO (newO l rate) y + n := by
  obtain ⟨r, hr⟩ : ∃ r, r = cutF rate := ⟨_, rfl⟩
  have hrr := cutF_range rate
  rw [← hr] at hrr
  have e1 := mul_bounds hk (Int.le_of_lt hk2) hrr.1 hrr.2 (by decide)
  have e2 := mul_bounds hj (Int.le_of_lt hj2) hrr.1 hrr.2 (by decide)
  have hlc : cutS l = l := cutS_in (by omega) (by omega)
  have hs : newO l rate = ⟨0, l, r, 0⟩ := by unfold newO; rw [hlc, hr]
  have hxx : readO ⟨0, l, r, 0⟩ x = l + x + k * r := by
    rw [readO_at (by show (0 : Int) ≤ x; omega) (by omega)]
    show cutS (l + (x - 0) + ((x - 0) * (r + 0)) / 1000000000) = _
    rw [Int.sub_zero, Int.add_zero, hx, whole_rate]
    exact cutS_in (by omega) (by omega)
  have hyy : readO ⟨0, l, r, 0⟩ y = l + y + (k + j) * r := by
    rw [readO_at (by show (0 : Int) ≤ y; omega) (by omega)]
    show cutS (l + (y - 0) + ((y - 0) * (r + 0)) / 1000000000) = _
    rw [Int.sub_zero, Int.add_zero, hy, hx, ← Int.add_mul, whole_rate, Int.add_mul k j r]
    exact cutS_in (by omega) (by omega)
  have hst : stepO ⟨0, l, r, 0⟩ x n = ⟨x, l + x + k * r + n, r, 0⟩ := by
    unfold stepO moveO
    rw [hxx, atO_in (by show (0 : Int) ≤ x; omega) (by omega), cutI_in (by omega) (by omega), cutS_in (by omega) (by omega)]
  rw [hs, hst, hxx, hyy]
  constructor
  · rw [readO_at (by show x ≤ x; omega) (by omega)]
    show cutS (l + x + k * r + n + (x - x) + ((x - x) * (r + 0)) / 1000000000) = _
    rw [Int.sub_self, Int.zero_mul]
    rw [cutS_in (by omega) (by omega)]
    omega
  · rw [readO_at (by show x ≤ y; omega) (by omega)]
    show cutS (l + x + k * r + n + (y - x) + ((y - x) * (r + 0)) / 1000000000) = _
    rw [show y - x = j * 1000000000 by omega, Int.add_zero, whole_rate, Int.add_mul k j r]
    rw [cutS_in (by omega) (by omega)]
    omega
/-- Steered against its rate it shows true time; it does not jump. -/
theorem steerO_eq {l r u v x y : Int} (hl : 0 ≤ l) (hl2 : l < 1000000000000000) (hr : -500000 ≤ r) (hr2 : r ≤ 500000) (hu : 0 ≤ u) (hu2 : u < 1000000) (hv : 0 ≤ v) (hv2 : v < 1000000) (hx : x = u * 1000000) (hy : y = v * 1000000) :
    readO (setFO (newO l r) x (-r)) x = readO (newO l r) x ∧ readO (setFO (newO l r) x (-r)) (x + y) = readO (newO l r) x + y ∧ (setFO (newO l r) x (-r)).r = r ∧ (setFO (newO l r) x (-r)).f = -r ∧ readO (newO l r) x + y ≤ 5000000000000000 := by
  have e1 := mul_mid hu hr hr2
  have hlc : cutS l = l := cutS_in (by omega) (by omega)
  have hs : newO l r = ⟨0, l, r, 0⟩ := by unfold newO; rw [hlc, show cutF r = r from cutI_in (by omega) (by omega)]
  have hq : (x * r) / 1000000000 = (u * r) / 1000 := by
    rw [hx, Int.mul_right_comm]
    exact Int.mul_ediv_mul_of_pos_left (u * r) 1000 (show (0 : Int) < 1000000 by decide)
  have hxx : readO ⟨0, l, r, 0⟩ x = l + x + (u * r) / 1000 := by
    rw [readO_at (by show (0 : Int) ≤ x; omega) (by omega)]
    show cutS (l + (x - 0) + ((x - 0) * (r + 0)) / 1000000000) = _
    rw [Int.sub_zero, Int.add_zero, hq]
    exact cutS_in (by omega) (by omega)
  have hst : setFO ⟨0, l, r, 0⟩ x (-r) = ⟨x, l + x + (u * r) / 1000, r, -r⟩ := by
    unfold setFO moveO
    rw [hxx, atO_in (by show (0 : Int) ≤ x; omega) (by omega), show cutF (-r) = -r from cutI_in (by omega) (by omega)]
  rw [hs, hst, hxx]
  refine ⟨?_, ?_, rfl, rfl, by omega⟩
  · rw [readO_at (by show x ≤ x; omega) (by omega)]
    show cutS (l + x + (u * r) / 1000 + (x - x) + ((x - x) * (r + -r)) / 1000000000) = _
    rw [Int.sub_self, Int.zero_mul, cutS_in (by omega) (by omega)]
    omega
  · rw [readO_at (by show x ≤ x + y; omega) (by omega)]
    show cutS (l + x + (u * r) / 1000 + (x + y - x) + ((x + y - x) * (r + -r)) / 1000000000) = _
    rw [Int.add_right_neg, Int.mul_zero, cutS_in (by omega) (by omega)]
    omega
/-- From one nanosecond to the next it goes on by none, one or two. -/
theorem smallO {s : Oz} {t : Int} (h : InO s) (h0 : s.t ≤ t) (h1 : t + 1 ≤ 4000000000000000) : readO s t ≤ readO s (t + 1) ∧ readO s (t + 1) ≤ readO s t + 2 := by
  obtain ⟨-, -, hr, hf⟩ := h
  rw [readO_at h0 (by omega), readO_at (by omega) h1]
  have e : (t + 1 - s.t) * (s.r + s.f) = (t - s.t) * (s.r + s.f) + (s.r + s.f) := by
    rw [show t + 1 - s.t = (t - s.t) + 1 by omega, Int.add_mul, Int.one_mul]
  rw [e]
  generalize (t - s.t) * (s.r + s.f) = P
  unfold cutS cutI
  omega
theorem setF0 (l r f : Int) : (setFO (newO l r) 0 f).t = 0 := by
  show atO (newO l r) 0 = 0
  exact atO_in (by show (0 : Int) ≤ 0; decide) (by decide)

abbrev OzAt (R : List Value → Oz → Prop) (w : World) (g : Nat) (s : Oz) : Prop := ObAt 40 R w g s
def CNewO (R : List Value → Oz → Prop) : Prop := ∀ (l r : Int) (w : World), -9223372036854775808 ≤ l ∧ l ≤ 9223372036854775807 → -9223372036854775808 ≤ r ∧ r ≤ 9223372036854775807 →
  Calls Try.prog 7 #[.int .i64 l, .int .i64 r] w fun e w' => ∃ g, e = .returned (.pointer (some ⟨g, 0, none⟩)) ∧ w.heap.size ≤ g ∧ OzAt R w' g (newO l r) ∧ Below w.heap.size w w'
def CReadO (R : List Value → Oz → Prop) : Prop := ∀ (g : Nat) (s : Oz) (t : Int) (w : World), OzAt R w g s → InO s → -9223372036854775808 ≤ t ∧ t ≤ 9223372036854775807 →
  Calls Try.prog 16 #[.pointer (some ⟨g, 0, none⟩), .int .i64 t] w fun e w' => e = .returned (.int .i64 (readO s t)) ∧ Below w.heap.size w w'
def CRateO (R : List Value → Oz → Prop) : Prop := ∀ (g : Nat) (s : Oz) (w : World), OzAt R w g s → Calls Try.prog 18 #[.pointer (some ⟨g, 0, none⟩)] w fun e w' => e = .returned (.int .i64 s.r) ∧ Below w.heap.size w w'
def CFreqO (R : List Value → Oz → Prop) : Prop := ∀ (g : Nat) (s : Oz) (w : World), OzAt R w g s → Calls Try.prog 19 #[.pointer (some ⟨g, 0, none⟩)] w fun e w' => e = .returned (.int .i64 s.f) ∧ Below w.heap.size w w'
def CSetRO (R : List Value → Oz → Prop) : Prop := ∀ (g : Nat) (s : Oz) (t n : Int) (w : World), OzAt R w g s → InO s → -9223372036854775808 ≤ t ∧ t ≤ 9223372036854775807 → -9223372036854775808 ≤ n ∧ n ≤ 9223372036854775807 →
  Calls Try.prog 10 #[.pointer (some ⟨g, 0, none⟩), .int .i64 t, .int .i64 n] w fun e w' => e = .returned (.tuple #[]) ∧ OzAt R w' g (setRO s t n) ∧ Only g w w'
def CSetFO (R : List Value → Oz → Prop) : Prop := ∀ (g : Nat) (s : Oz) (t n : Int) (w : World), OzAt R w g s → InO s → -9223372036854775808 ≤ t ∧ t ≤ 9223372036854775807 → -9223372036854775808 ≤ n ∧ n ≤ 9223372036854775807 →
  Calls Try.prog 12 #[.pointer (some ⟨g, 0, none⟩), .int .i64 t, .int .i64 n] w fun e w' => e = .returned (.tuple #[]) ∧ OzAt R w' g (setFO s t n) ∧ Only g w w'
def CStepO (R : List Value → Oz → Prop) : Prop := ∀ (g : Nat) (s : Oz) (t n : Int) (w : World), OzAt R w g s → InO s → -9223372036854775808 ≤ t ∧ t ≤ 9223372036854775807 → -9223372036854775808 ≤ n ∧ n ≤ 9223372036854775807 →
  Calls Try.prog 14 #[.pointer (some ⟨g, 0, none⟩), .int .i64 t, .int .i64 n] w fun e w' => e = .returned (.tuple #[]) ∧ OzAt R w' g (stepO s t n) ∧ Only g w w'
end Go.Proofs.Ytelgdfcpccamnaa
