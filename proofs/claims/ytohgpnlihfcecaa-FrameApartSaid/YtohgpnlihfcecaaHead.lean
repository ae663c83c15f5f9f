/- Package header, the calls without bytes: the types, their byte of control, what may be. -/
import Derived.Test.YtohgpnlihfcecaaB4
import Derived.Deep.MidRow
namespace Go.Proofs.Ytohgpnlihfcecaa
open Go.RowKit Go.Proofs
set_option maxRecDepth 50000
set_option linter.unusedVariables false
set_option linter.unusedSimpArgs false

/-- Whether there is such a type. -/
def knownB (t : Int) : Bool := decide (0 ≤ t ∧ t ≤ 3 ∨ 8 ≤ t ∧ t ≤ 13)

/-- The number that goes by the type. -/
def ctl (t : Int) : Int := if t = 0 then 0 else if t = 1 then 1 else if t = 8 then 2 else if t = 9 then 3 else if t = 13 then 4 else if knownB t then 5 else 0

theorem known_or {t : Int} (h : knownB t = true) : t = 0 ∨ t = 1 ∨ t = 2 ∨ t = 3 ∨ t = 8 ∨ t = 9 ∨ t = 10 ∨ t = 11 ∨ t = 12 ∨ t = 13 := by
  unfold knownB at h
  rw [decide_eq_true_eq] at h
  omega

theorem known_no {t : Int} (h : knownB t = false) : ctl t = 0 ∧ (t == 0) = false ∧ (t == 1) = false ∧ (t == 2) = false ∧ (t == 3) = false ∧ (t == 8) = false ∧ (t == 9) = false ∧ (t == 10) = false ∧ (t == 11) = false ∧ (t == 12) = false ∧ (t == 13) = false := by
  have hc : ctl t = 0 := by
    unfold ctl
    rw [h]
    unfold knownB at h
    rw [decide_eq_false_iff_not] at h
    repeat' split
    all_goals first | rfl | omega | contradiction
  unfold knownB at h
  rw [decide_eq_false_iff_not] at h
  refine ⟨hc, ?_, ?_, ?_, ?_, ?_, ?_, ?_, ?_, ?_, ?_⟩ <;> (rw [beq_eq_false_iff_ne]; omega)

set_option maxHeartbeats 1600000 in
theorem control_any (t : Int) (w : World) :
    Calls Try.prog 42 #[.int .i64 t] w fun e w' => e = .returned (.tuple #[.int .i64 (ctl t), .bool (knownB t)]) ∧ w = w' := by
  cases h : knownB t
  · obtain ⟨hc, h0, h1, h2, h3, h8, h9, h10, h11, h12, h13⟩ := known_no h
    rw [hc]
    clear h hc
    go_enter Try.func42, Try.ntmps42
    go_wp2
    go_ret2
    exact ⟨rfl, rfl⟩
  · rcases known_or h with rfl | rfl | rfl | rfl | rfl | rfl | rfl | rfl | rfl | rfl
    all_goals
      clear h
      go_enter Try.func42, Try.ntmps42
      go_wp2
      go_ret2
      exact ⟨rfl, rfl⟩

theorem known_any (t : Int) (w : World) :
    Calls Try.prog 85 #[.int .i64 t] w fun e w' => e = .returned (.bool (knownB t)) ∧ w = w' := by
  go_enter Try.func85, Try.ntmps85
  go_wp2_with fail
  refine (control_any t _).mono ?_
  rintro e w' ⟨rfl, rfl⟩
  go_wp2_with fail
  go_ret
  exact ⟨rfl, rfl⟩

set_option maxHeartbeats 800000 in
theorem refKnown_any (t : Int) (w : World) :
    Calls Try.prog 68 #[.int .i64 t] w fun e w' => e = .returned (.bool (knownB t)) ∧ w = w' := by
  by_cases h0 : 0 ≤ t
  · by_cases h3 : t ≤ 3
    · rw [show knownB t = true by unfold knownB; rw [decide_eq_true_eq]; omega]
      go_enter Try.func68, Try.ntmps68
      go_wp2
      go_ret
      exact ⟨rfl, rfl⟩
    · by_cases h8 : 8 ≤ t
      · have e : knownB t = decide (t ≤ 13) := by unfold knownB; rw [Bool.eq_iff_iff, decide_eq_true_eq, decide_eq_true_eq]; omega
        rw [e]
        clear e
        go_enter Try.func68, Try.ntmps68
        go_wp2
        go_ret
        exact ⟨rfl, rfl⟩
      · rw [show knownB t = false by unfold knownB; rw [decide_eq_false_iff_not]; omega]
        go_enter Try.func68, Try.ntmps68
        go_wp2
        go_ret
        exact ⟨rfl, rfl⟩
  · rw [show knownB t = false by unfold knownB; rw [decide_eq_false_iff_not]; omega]
    go_enter Try.func68, Try.ntmps68
    go_wp2
    go_ret
    exact ⟨rfl, rfl⟩

/-- Whether a number lies between two. -/
def inB (x a b : Int) : Bool := decide (a ≤ x ∧ x ≤ b)

set_option maxHeartbeats 800000 in
theorem headFits1_any (x : Int) (w : World) :
    Calls Try.prog 86 #[.int .i64 x, .int .i64 1] w fun e w' => e = .returned (.bool (inB x 0 255)) ∧ w = w' := by
  by_cases h0 : 0 ≤ x
  · have e : inB x 0 255 = decide (x < 256) := by unfold inB; rw [Bool.eq_iff_iff, decide_eq_true_eq, decide_eq_true_eq]; omega
    rw [e]
    clear e
    go_enter Try.func86, Try.ntmps86
    go_wp2
    go_ret
    exact ⟨rfl, rfl⟩
  · rw [show inB x 0 255 = false by unfold inB; rw [decide_eq_false_iff_not]; omega]
    go_enter Try.func86, Try.ntmps86
    go_wp2
    go_ret
    exact ⟨rfl, rfl⟩

set_option maxHeartbeats 800000 in
theorem headFits2_any (x : Int) (w : World) :
    Calls Try.prog 86 #[.int .i64 x, .int .i64 2] w fun e w' => e = .returned (.bool (inB x 0 65535)) ∧ w = w' := by
  by_cases h0 : 0 ≤ x
  · have e : inB x 0 65535 = decide (x < 65536) := by unfold inB; rw [Bool.eq_iff_iff, decide_eq_true_eq, decide_eq_true_eq]; omega
    rw [e]
    clear e
    go_enter Try.func86, Try.ntmps86
    go_wp2
    go_ret
    exact ⟨rfl, rfl⟩
  · rw [show inB x 0 65535 = false by unfold inB; rw [decide_eq_false_iff_not]; omega]
    go_enter Try.func86, Try.ntmps86
    go_wp2
    go_ret
    exact ⟨rfl, rfl⟩

set_option maxHeartbeats 800000 in
theorem mayLen_any (x : Int) (w : World) :
    Calls Try.prog 41 #[.int .i64 x] w fun e w' => e = .returned (.bool (inB x 34 400)) ∧ w = w' := by
  by_cases h0 : 34 ≤ x
  · have e : inB x 34 400 = decide (x ≤ 400) := by unfold inB; rw [Bool.eq_iff_iff, decide_eq_true_eq, decide_eq_true_eq]; omega
    rw [e]
    clear e
    go_enter Try.func41, Try.ntmps41
    go_wp2
    go_ret
    exact ⟨rfl, rfl⟩
  · rw [show inB x 34 400 = false by unfold inB; rw [decide_eq_false_iff_not]; omega]
    go_enter Try.func41, Try.ntmps41
    go_wp2
    go_ret
    exact ⟨rfl, rfl⟩

set_option maxHeartbeats 800000 in
theorem in05_any (x a b : Int) (w : World) :
    Calls Try.prog 51 #[.int .i64 x, .int .i64 a, .int .i64 b] w fun e w' => e = .returned (.bool (inB x a b)) ∧ w = w' := by
  by_cases h0 : a ≤ x
  · have e : inB x a b = decide (x ≤ b) := by unfold inB; rw [Bool.eq_iff_iff, decide_eq_true_eq, decide_eq_true_eq]; omega
    rw [e]
    clear e
    go_enter Try.func51, Try.ntmps51
    go_wp2
    go_ret
    exact ⟨rfl, rfl⟩
  · rw [show inB x a b = false by unfold inB; rw [decide_eq_false_iff_not]; omega]
    go_enter Try.func51, Try.ntmps51
    go_wp2
    go_ret
    exact ⟨rfl, rfl⟩
end Go.Proofs.Ytohgpnlihfcecaa
