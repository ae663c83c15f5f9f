/- Package stamp: plain facts, and the contracts of its calls. -/
import Derived.Test.YtgjffmhlehcoiaaOctb
namespace Go.Proofs.Ytgjffmhlehcoiaa
open Go.RowKit Go.Proofs
set_option maxRecDepth 50000
set_option linter.unusedVariables false

/-- Is the number a stamp? -/
def mayB (t : Int) : Bool := decide (0 ≤ t ∧ t ≤ 4000000000000000)

theorem mayB_true {t : Int} (h0 : 0 ≤ t) (h1 : t ≤ 4000000000000000) : mayB t = true := decide_eq_true ⟨h0, h1⟩

theorem mayB_false {t : Int} (h : t < 0 ∨ 4000000000000000 < t) : mayB t = false := decide_eq_false (by omega)

theorem mayB_iff {t : Int} : mayB t = true ↔ 0 ≤ t ∧ t ≤ 4000000000000000 := by simp [mayB]

/-- The number that is put. -/
def stampT (t : Int) : Int := if mayB t then t else 0

theorem stampT_in (t : Int) : 0 ≤ stampT t ∧ stampT t ≤ 4000000000000000 := by
  unfold stampT
  split
  · exact mayB_iff.1 (by assumption)
  · decide

theorem stampT_of {t : Int} (h0 : 0 ≤ t) (h1 : t ≤ 4000000000000000) : stampT t = t := by unfold stampT; rw [mayB_true h0 h1]; rfl

/-- A stamp's ten bytes. -/
def stampS (t : Int) : List UInt8 := putS (stampT t / 1000000000) 6 ++ putS (stampT t % 1000000000) 4

theorem stampS_length (t : Int) : (stampS t).length = 10 := by
  unfold stampS
  rw [List.length_append, putS_length _ 6 (by decide) (by decide), putS_length _ 4 (by decide) (by decide)]
  rfl

/-- The seconds and what is left of them, that stand at a place. -/
def secAt (l : List UInt8) (at' : Int) : Nat := numAt l at'.toNat 6

def nanAt (l : List UInt8) (at' : Int) : Nat := numAt l (at' + 6).toNat 4

/-- Does a stamp stand there? -/
def getB (l : List UInt8) (at' : Int) : Bool :=
  decide (0 ≤ at' ∧ at' + 10 ≤ l.length ∧ secAt l at' ≤ 4000000 ∧ nanAt l at' < 1000000000 ∧ secAt l at' * 1000000000 + nanAt l at' ≤ 4000000000000000)

/-- The stamp that stands there, or 0. -/
def getV (l : List UInt8) (at' : Int) : Int := if getB l at' then (secAt l at' * 1000000000 + nanAt l at' : Nat) else 0

theorem getB_true {l : List UInt8} {at' : Int} (h : 0 ≤ at' ∧ at' + 10 ≤ l.length ∧ secAt l at' ≤ 4000000 ∧ nanAt l at' < 1000000000 ∧ secAt l at' * 1000000000 + nanAt l at' ≤ 4000000000000000) : getB l at' = true := decide_eq_true h

theorem getB_false {l : List UInt8} {at' : Int} (h : ¬ (0 ≤ at' ∧ at' + 10 ≤ l.length ∧ secAt l at' ≤ 4000000 ∧ nanAt l at' < 1000000000 ∧ secAt l at' * 1000000000 + nanAt l at' ≤ 4000000000000000)) : getB l at' = false := decide_eq_false h

theorem getV_true {l : List UInt8} {at' : Int} (h : getB l at' = true) : getV l at' = (secAt l at' * 1000000000 + nanAt l at' : Nat) := by unfold getV; rw [h]; rfl

theorem getV_false {l : List UInt8} {at' : Int} (h : getB l at' = false) : getV l at' = 0 := by unfold getV; rw [h]; rfl

theorem nanAt_lt (l : List UInt8) (at' : Int) : nanAt l at' < 4294967296 := by
  unfold nanAt numAt
  refine Nat.lt_of_lt_of_le (num_small _) ?_
  refine Nat.le_trans (Nat.pow_le_pow_right (by decide) (show _ ≤ 4 from ?_)) (by decide)
  rw [List.length_take]
  omega

theorem secAt_stampS (t : Int) (a b : List UInt8) (A : Nat) (hA : a.length = A) : secAt (a ++ (stampS t ++ b)) A = (stampT t / 1000000000).toNat := by
  have h := stampT_in t
  have h6 : putS (stampT t / 1000000000) 6 = putN ((stampT t / 1000000000) % 18446744073709551616).toNat 6 := rfl
  unfold secAt stampS
  rw [h6, List.append_assoc, Int.toNat_natCast, numAt_putN _ _ _ 6 A (by decide) hA, Int.emod_eq_of_lt (by omega) (by omega), Nat.mod_eq_of_lt (by simp; omega)]

theorem nanAt_stampS (t : Int) (a b : List UInt8) (A : Nat) (hA : a.length = A) : nanAt (a ++ (stampS t ++ b)) A = (stampT t % 1000000000).toNat := by
  have h := stampT_in t
  have h4 : putS (stampT t % 1000000000) 4 = putN ((stampT t % 1000000000) % 18446744073709551616).toNat 4 := rfl
  unfold nanAt stampS
  rw [h4, List.append_assoc, ← List.append_assoc a, show ((A : Int) + 6).toNat = A + 6 by omega, numAt_putN _ _ _ 4 (A + 6) (by decide) (by rw [List.length_append, hA, putS_length _ 6 (by decide) (by decide)]; rfl), Int.emod_eq_of_lt (by omega) (by omega), Nat.mod_eq_of_lt (by simp; omega)]

theorem getB_stampS (t : Int) (a b : List UInt8) (A : Nat) (hA : a.length = A) : getB (a ++ (stampS t ++ b)) A = true := by
  have h := stampT_in t
  refine getB_true ⟨by omega, ?_, ?_, ?_, ?_⟩
  · rw [List.length_append, List.length_append, stampS_length]; omega
  · rw [secAt_stampS t a b A hA]; omega
  · rw [nanAt_stampS t a b A hA]; omega
  · rw [secAt_stampS t a b A hA, nanAt_stampS t a b A hA]; omega

theorem getV_stampS (t : Int) (a b : List UInt8) (A : Nat) (hA : a.length = A) : getV (a ++ (stampS t ++ b)) A = stampT t := by
  have h := stampT_in t
  rw [getV_true (getB_stampS t a b A hA), secAt_stampS t a b A hA, nanAt_stampS t a b A hA]
  omega

/-- A sum; beyond an int64 it is the greatest or least one. -/
def addI (a b : Int) : Int := min (max (a + b) (-9223372036854775808)) 9223372036854775807

theorem addI_comm (a b : Int) : addI a b = addI b a := by unfold addI; rw [Int.add_comm]

/-- How often an eighth of a second is in an interval. -/
def eighI (l : Int) : Int := if 4 ≤ l then 128 else if l = 3 then 64 else if l = 2 then 32 else if l = 1 then 16 else if l = 0 then 8 else if l = -1 then 4 else if l = -2 then 2 else 1

theorem eighI_in (l : Int) : 1 ≤ eighI l ∧ eighI l ≤ 128 := by unfold eighI; repeat' split <;> omega

theorem floor_tdiv (c : Int) : c.tdiv 65536 - (if c.tmod 65536 < 0 then 1 else 0) = c / 65536 := by
  have h1 := Int.mul_tdiv_add_tmod c 65536
  have h2 := tmod_bounds c 65536 (by decide)
  generalize c.tdiv 65536 = q at *
  generalize c.tmod 65536 = r at *
  split <;> omega

theorem tdiv_bd (c : Int) (h0 : -9223372036854775808 ≤ c) (h1 : c ≤ 9223372036854775807) : -140737488355328 ≤ c.tdiv 65536 ∧ c.tdiv 65536 ≤ 140737488355328 := by
  have h1 := Int.mul_tdiv_add_tmod c 65536
  have h2 := tmod_bounds c 65536 (by decide)
  generalize c.tdiv 65536 = q at *
  generalize c.tmod 65536 = r at *
  omega
end Go.Proofs.Ytgjffmhlehcoiaa
