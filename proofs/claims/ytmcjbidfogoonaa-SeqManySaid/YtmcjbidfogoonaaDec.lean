/- What each port should be, plainly (chapter 13) (gen_declaws.py). -/
import Derived.Test.YtmcjbidfogoonaaVecBest
namespace Go.Proofs.Ytmcjbidfogoonaa
open Go.RowKit Go.Proofs
set_option maxRecDepth 50000
set_option linter.unusedVariables false
set_option linter.unusedSimpArgs false

/-- The clock is better than what stands there, or nothing does. -/
def beatsV (d : Vc) : Option Vc → Bool
  | none => true
  | some p => decide (compV d p < 0)
def nearV : Option Vc → Option Vc → Bool
  | some b, some p => decide (compV b p = -1)
  | _, _ => false
def oneD (d : Vc) (lis : Bool) (best port : Option Vc) (here : Bool) : Int :=
  if port.isNone && lis then 7
  else if d.qc ≤ 127 then (if beatsV d port then 1 else 4)
  else if beatsV d best then 2
  else if here then 6
  else if nearV best port then 5 else 3
def oat (os : List (Option Vc)) (i : Int) : Option Vc := os.getD i.toNat none
theorem oat_get (os : List (Option Vc)) (i : Nat) (h : i < os.length) : oat os (i : Int) = os[i] := by
  unfold oat
  rw [Int.toNat_natCast, List.getD_eq_getElem?_getD, List.getElem?_eq_getElem h]
  rfl
theorem oat_over (os : List (Option Vc)) (i : Nat) (h : os.length ≤ i) : oat os (i : Int) = none := by
  unfold oat
  rw [Int.toNat_natCast, List.getD_eq_getElem?_getD, List.getElem?_eq_none h]
  rfl
/-- The place of the best one of the first n that are there. -/
def bestO (os : List (Option Vc)) : Nat → Int
  | 0 => -1
  | n + 1 => match oat os n with
    | none => bestO os n
    | some v => if bestO os n < 0 then n else if 0 < compV ((oat os (bestO os n)).getD noV) v then n else bestO os n
theorem bestO_none {os : List (Option Vc)} {n : Nat} (h : oat os n = none) : bestO os (n + 1) = bestO os n := by
  show (match oat os n with | none => bestO os n | some v => _) = _
  rw [h]
theorem bestO_first {os : List (Option Vc)} {n : Nat} {v : Vc} (h : oat os n = some v) (h2 : bestO os n < 0) : bestO os (n + 1) = n := by
  show (match oat os n with | none => bestO os n | some v => if bestO os n < 0 then (n : Int) else if 0 < compV ((oat os (bestO os n)).getD noV) v then n else bestO os n) = _
  rw [h]
  exact if_pos h2
theorem bestO_later {os : List (Option Vc)} {n : Nat} {v b : Vc} (h : oat os n = some v) (h2 : ¬ bestO os n < 0) (hb : oat os (bestO os n) = some b) (h3 : 0 < compV b v) : bestO os (n + 1) = n := by
  show (match oat os n with | none => bestO os n | some v => if bestO os n < 0 then (n : Int) else if 0 < compV ((oat os (bestO os n)).getD noV) v then n else bestO os n) = _
  rw [h]
  show (if bestO os n < 0 then (n : Int) else if 0 < compV ((oat os (bestO os n)).getD noV) v then (n : Int) else bestO os n) = n
  rw [if_neg h2, hb, if_pos (by exact h3)]
theorem bestO_stays {os : List (Option Vc)} {n : Nat} {v b : Vc} (h : oat os n = some v) (h2 : ¬ bestO os n < 0) (hb : oat os (bestO os n) = some b) (h3 : ¬ 0 < compV b v) : bestO os (n + 1) = bestO os n := by
  show (match oat os n with | none => bestO os n | some v => if bestO os n < 0 then (n : Int) else if 0 < compV ((oat os (bestO os n)).getD noV) v then n else bestO os n) = _
  rw [h]
  show (if bestO os n < 0 then (n : Int) else if 0 < compV ((oat os (bestO os n)).getD noV) v then (n : Int) else bestO os n) = bestO os n
  rw [if_neg h2, hb, if_neg (by exact h3)]
theorem bestO_range (os : List (Option Vc)) : ∀ n, (bestO os n = -1 ∧ ∀ i : Nat, i < n → oat os i = none) ∨ (0 ≤ bestO os n ∧ bestO os n < n ∧ ∃ b, oat os (bestO os n) = some b)
  | 0 => .inl ⟨rfl, fun i h => absurd h (by omega)⟩
  | n + 1 => by
    have ih := bestO_range os n
    cases hv : oat os n with
    | none =>
      rw [bestO_none hv]
      rcases ih with ⟨h1, h2⟩ | ⟨h1, h2, h3⟩
      · refine .inl ⟨h1, fun i hi => ?_⟩
        by_cases e : i = n
        · rw [e]; exact hv
        · exact h2 i (by omega)
      · exact .inr ⟨h1, by omega, h3⟩
    | some v =>
      rcases ih with ⟨h1, h2⟩ | ⟨h1, h2, b, h3⟩
      · rw [bestO_first hv (by omega)]
        exact .inr ⟨by omega, by omega, v, hv⟩
      · by_cases hc : 0 < compV b v
        · rw [bestO_later hv (by omega) h3 hc]
          exact .inr ⟨by omega, by omega, v, hv⟩
        · rw [bestO_stays hv (by omega) h3 hc]
          exact .inr ⟨h1, by omega, b, h3⟩
def topO (os : List (Option Vc)) : Option Vc := if bestO os os.length < 0 then none else oat os (bestO os os.length)
def allD (d : Vc) (bs : List Bool) (os : List (Option Vc)) : List Int := (List.range os.length).map fun i => oneD d (bs.getD i false) (topO os) (oat os (i : Int)) (decide ((i : Int) = bestO os os.length))
theorem allD_length (d : Vc) (bs : List Bool) (os : List (Option Vc)) : (allD d bs os).length = os.length := by simp [allD]
theorem allD_get (d : Vc) (bs : List Bool) (os : List (Option Vc)) (i : Nat) (h : i < (allD d bs os).length) :
    (allD d bs os)[i] = oneD d (bs.getD i false) (topO os) (oat os (i : Int)) (decide ((i : Int) = bestO os os.length)) := by simp [allD]
theorem oneD_six {d : Vc} {lis : Bool} {best port : Option Vc} {here : Bool} (h : oneD d lis best port here = 6) : here = true ∧ 127 < d.qc ∧ beatsV d best = false := by
  unfold oneD at h
  split at h
  · cases h
  · split at h
    · split at h <;> cases h
    · rename_i h2
      split at h
      · cases h
      · rename_i h3
        split at h
        · rename_i h4
          exact ⟨h4, by omega, by simpa using h3⟩
        · split at h <;> cases h
theorem oneD_no {d : Vc} {lis : Bool} {best port : Option Vc} {here : Bool} (h0 : 127 < d.qc) (h2 : beatsV d best = false) : oneD d lis best port here ≠ 1 ∧ oneD d lis best port here ≠ 2 ∧ oneD d lis best port here ≠ 4 := by
  have h1 : ¬ d.qc ≤ 127 := by omega
  unfold oneD
  rw [if_neg h1, h2, if_neg Bool.false_ne_true]
  split
  · decide
  · split
    · decide
    · split <;> decide
theorem oneD_class {d : Vc} {lis : Bool} {best port : Option Vc} {here : Bool} (h1 : d.qc ≤ 127) : oneD d lis best port here = if port.isNone && lis then 7 else if beatsV d port then 1 else 4 := by
  unfold oneD
  rw [if_pos h1]
theorem oneD_alone {d : Vc} {lis : Bool} {here : Bool} : oneD d lis none none here = if lis then 7 else if d.qc ≤ 127 then 1 else 2 := by
  unfold oneD beatsV
  cases lis <;> simp
/-- Of none there is no best one. -/
theorem bestO_nil (n : Nat) : ∀ m, bestO (List.replicate n none) m = -1
  | 0 => rfl
  | m + 1 => by
    rw [bestO_none, bestO_nil n m]
    unfold oat
    rw [Int.toNat_natCast, List.getD_eq_getElem?_getD, List.getElem?_replicate]
    split <;> rfl
theorem topO_nil (n : Nat) : topO (List.replicate n none) = none := by
  unfold topO
  rw [bestO_nil, if_pos (by decide)]
theorem oat_nil (n : Nat) (i : Int) : oat (List.replicate n none) i = none := by
  unfold oat
  rw [List.getD_eq_getElem?_getD, List.getElem?_replicate]
  split <;> rfl
/-- What follows: one S1 at most, at the best one's place, of a class above 127; and then none of M1, M2, P1. -/
theorem allD_six {d : Vc} {bs : List Bool} {os : List (Option Vc)} {i : Nat} (hi : i < (allD d bs os).length) (h : (allD d bs os)[i] = 6) : (i : Int) = bestO os os.length ∧ 127 < d.qc ∧ beatsV d (topO os) = false := by
  rw [allD_get] at h
  obtain ⟨h1, h2, h3⟩ := oneD_six h
  exact ⟨by simpa using h1, h2, h3⟩
theorem allD_no {d : Vc} {bs : List Bool} {os : List (Option Vc)} (h1 : 127 < d.qc) (h2 : beatsV d (topO os) = false) {j : Nat} (hj : j < (allD d bs os).length) : (allD d bs os)[j] ≠ 1 ∧ (allD d bs os)[j] ≠ 2 ∧ (allD d bs os)[j] ≠ 4 := by
  rw [allD_get]
  exact oneD_no h1 h2

/-- A decision's text. -/
def textD (d : Int) : ByteArray := if d = 1 then ⟨#[77, 49]⟩ else if d = 2 then ⟨#[77, 50]⟩ else if d = 3 then ⟨#[77, 51]⟩ else if d = 4 then ⟨#[80, 49]⟩ else if d = 5 then ⟨#[80, 50]⟩ else if d = 6 then ⟨#[83, 49]⟩ else if d = 7 then ⟨#[76, 48]⟩ else ⟨#[]⟩
end Go.Proofs.Ytmcjbidfogoonaa
