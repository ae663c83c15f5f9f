/- The program's own answers of chapter 8: Check, Known (gen_tlvown.py). -/
import Derived.Test.YtohgpnlihfcecaaB6
namespace Go.Proofs.Ytohgpnlihfcecaa
open Go.RowKit Go.Proofs
set_option maxRecDepth 50000
set_option linter.unusedVariables false
set_option linter.unusedSimpArgs false

/-- Whether a number stands whole in two bytes. -/
def fitB (v : Int) : Bool := decide (0 ≤ v) && decide (v ≤ 65535)

theorem tdiv8 (n : Nat) : (n : Int).tdiv 8 = ((n / 8 : Nat) : Int) := by
  rw [Int.tdiv_eq_ediv_of_nonneg (by omega)]; omega

set_option maxHeartbeats 400000 in
theorem tfits_any (v : Int) (w : World) : Calls Try.prog 96 #[.int .i64 v] w fun e w' => e = .returned (.bool (fitB v)) ∧ w = w' := by
  by_cases h : 0 ≤ v
  · have e : fitB v = decide (v ≤ 65535) := by unfold fitB; rw [decide_eq_true h, Bool.true_and]
    rw [e]
    go_enter Try.func96, Try.ntmps96
    go_wp2_with fail
    go_ret
    exact ⟨rfl, rfl⟩
  · have e : fitB v = false := by unfold fitB; rw [decide_eq_false h, Bool.false_and]
    rw [e]
    go_enter Try.func96, Try.ntmps96
    go_wp2_with fail
    go_ret
    exact ⟨rfl, rfl⟩

set_option maxHeartbeats 800000 in
theorem checkT_any (c : Int) (s : List UInt8) (w : World) (hs : s.length ≤ 9223372036854775807) :
    Calls Try.prog 83 #[tlvV (c, s)] w fun e w' => e = .returned (.bool (checkT (c, s))) ∧ Below w.heap.size w w' := by
  have HC : Hid (checkT (c, s) = (fitB c && (decide (s.length % 2 = 0) && decide (s.length ≤ 400)))) := hid (by unfold checkT fitB; rw [Bool.and_assoc])
  generalize checkT (c, s) = F at *
  have he := even_tmod s.length
  have hF := tfits_any c
  cases hc : fitB c with
  | true =>
    rw [hc] at HC hF
    by_cases h2 : s.length % 2 = 0
    · rw [h2] at he
      have h2I : ((s.length : Int) % 2 == 0) = true := by rw [beq_iff_eq]; omega
      go_enter Try.func83, Try.ntmps83
      go_wp2_with fail
      refine (hF _).mono ?_
      rintro e w' ⟨rfl, rfl⟩
      clear hF
      go_wp2_with fail
      go_ret
      exact ⟨ret_bool (by rw [HC.out, decide_eq_true h2, Bool.true_and, Bool.true_and, Bool.eq_iff_iff]; simp; try omega), bnew _ _⟩
    · have h2' : s.length % 2 = 1 := by omega
      rw [h2'] at he
      have h2I : ((s.length : Int) % 2 == 0) = false := by rw [beq_eq_false_iff_ne]; omega
      go_enter Try.func83, Try.ntmps83
      go_wp2_with fail
      refine (hF _).mono ?_
      rintro e w' ⟨rfl, rfl⟩
      clear hF
      go_wp2_with fail
      go_ret
      exact ⟨by rw [HC.out, decide_eq_false h2, Bool.false_and, Bool.and_false]; rfl, bnew _ _⟩
  | false =>
    rw [hc] at HC hF
    go_enter Try.func83, Try.ntmps83
    go_wp2_with fail
    refine (hF _).mono ?_
    rintro e w' ⟨rfl, rfl⟩
    clear hF
    go_wp2_with fail
    go_ret
    exact ⟨by rw [HC.out, Bool.false_and]; rfl, bnew _ _⟩


end Go.Proofs.Ytohgpnlihfcecaa
