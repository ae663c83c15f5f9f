/- Package header, the calls without bytes: the types, their byte of control, what may be. -/
import Derived.Test.YtgjffmhlehcoiaaIdent
import Derived.Deep.MidRow
namespace Go.Proofs.Ytgjffmhlehcoiaa
open Go.RowKit Go.Proofs
set_option maxRecDepth 50000
set_option linter.unusedVariables false
set_option linter.unusedSimpArgs false

/-- Whether there is such a type. -/
def knownB (t : Int) : Bool := decide (0 ≤ t ∧ t ≤ 3 ∨ 8 ≤ t ∧ t ≤ 13)

/-- The number that goes by the type. -/
def ctl (t : Int) : Int := if t = 0 then 0 else if t = 1 then 1 else if t = 8 then 2 else if t = 9 then 3 else if t = 13 then 4 else if knownB t then 5 else 0

theorem known_or {t : Int} (h : knownB t = true) : t = 0 ∨ t = 1 ∨ t = 2 ∨ t = 3 ∨ t = 8 ∨ t = 9 ∨ t = 10 ∨ t = 11 ∨ t = 12 ∨ t = 13 := by
  unfold knownB at h
  rw [decide_eq_true_eq] at h
  omega

theorem known_no {t : Int} (h : knownB t = false) : ctl t = 0 ∧ (t == 0) = false ∧ (t == 1) = false ∧ (t == 2) = false ∧ (t == 3) = false ∧ (t == 8) = false ∧ (t == 9) = false ∧ (t == 10) = false ∧ (t == 11) = false ∧ (t == 12) = false ∧ (t == 13) = false := by
  have hc : ctl t = 0 := by
    unfold ctl
    rw [h]
    unfold knownB at h
    rw [decide_eq_false_iff_not] at h
    repeat' split
    all_goals first | rfl | omega | contradiction
  unfold knownB at h
  rw [decide_eq_false_iff_not] at h
  refine ⟨hc, ?_, ?_, ?_, ?_, ?_, ?_, ?_, ?_, ?_, ?_⟩ <;> (rw [beq_eq_false_iff_ne]; omega)

/-- Whether a number lies between two. -/
def inB (x a b : Int) : Bool := decide (a ≤ x ∧ x ≤ b)

set_option maxHeartbeats 800000 in
theorem in05_any (x a b : Int) (w : World) :
    Calls Try.prog 15 #[.int .i64 x, .int .i64 a, .int .i64 b] w fun e w' => e = .returned (.bool (inB x a b)) ∧ w = w' := by
  by_cases h0 : a ≤ x
  · have e : inB x a b = decide (x ≤ b) := by unfold inB; rw [Bool.eq_iff_iff, decide_eq_true_eq, decide_eq_true_eq]; omega
    rw [e]
    clear e
    go_enter Try.func15, Try.ntmps15
    go_wp2
    go_ret
    exact ⟨rfl, rfl⟩
  · rw [show inB x a b = false by unfold inB; rw [decide_eq_false_iff_not]; omega]
    go_enter Try.func15, Try.ntmps15
    go_wp2
    go_ret
    exact ⟨rfl, rfl⟩
end Go.Proofs.Ytgjffmhlehcoiaa
