/- Package quality, the calls without bytes: what may be, which one is the better; the document's own. -/
import Derived.Test.YtclpblhjfaodbaaCmp
import Derived.Test.YtclpblhjfaodbaaRow
namespace Go.Proofs.Ytclpblhjfaodbaa
open Go.RowKit Go.Proofs
set_option maxRecDepth 50000
set_option linter.unusedVariables false
set_option linter.unusedSimpArgs false

/-- A quality as a value. -/
abbrev qualV (c a v : Int) : Value := .agg #[.int .i64 c, .int .i64 a, .int .i64 v]

/-- The first one that is not 0. -/
def orI : List Int → Int
  | [] => 0
  | z :: zs => if z = 0 then orI zs else z

theorem orI_drop (zs : List Int) : ∀ (k : Nat) (h : k < zs.length), orI (zs.drop k) = if zs[k] = 0 then orI (zs.drop (k + 1)) else zs[k] := by
  intro k h
  rw [List.drop_eq_getElem_cons h]
  rfl

/-- -1, 0, 1 of two qualities. -/
def cmpQ (c a v c' a' v' : Int) : Int := if c = c' then (if a = a' then cmpI v v' else cmpI a a') else cmpI c c'

theorem cmpI_zero {a b : Int} : cmpI a b = 0 ↔ a = b := by
  unfold cmpI
  split
  · omega
  · split <;> omega

theorem orI_three (c a v c' a' v' : Int) : orI [cmpI c c', cmpI a a', cmpI v v'] = cmpQ c a v c' a' v' := by
  unfold cmpQ
  simp only [orI, cmpI_zero]
  by_cases h1 : c = c'
  · rw [if_pos h1, if_pos h1]
    by_cases h2 : a = a'
    · rw [if_pos h2, if_pos h2]
      by_cases h3 : v = v'
      · rw [if_pos h3, cmpI_zero.2 h3]
      · rw [if_neg h3]
    · rw [if_neg h2, if_neg h2]
  · rw [if_neg h1, if_neg h1]

def in1 (x : Int) : Bool := decide (0 ≤ x ∧ x < 256)
def in2 (x : Int) : Bool := decide (0 ≤ x ∧ x < 65536)
def mayQ (c a v : Int) : Bool := in1 c && in1 a && in2 v

theorem in1_iff {x : Int} : in1 x = true ↔ 0 ≤ x ∧ x < 256 := by simp [in1]
theorem in2_iff {x : Int} : in2 x = true ↔ 0 ≤ x ∧ x < 65536 := by simp [in2]
theorem mayQ_iff {c a v : Int} : mayQ c a v = true ↔ in1 c = true ∧ in1 a = true ∧ in2 v = true := by simp [mayQ, and_assoc]
end Go.Proofs.Ytclpblhjfaodbaa
