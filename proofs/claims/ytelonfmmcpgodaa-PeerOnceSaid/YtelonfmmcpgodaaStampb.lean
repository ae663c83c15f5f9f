/- Package stamp: the contracts of its calls. -/
import Derived.Test.YtelonfmmcpgodaaStamp
namespace Go.Proofs.Ytelonfmmcpgodaa
open Go.RowKit Go.Proofs
set_option maxRecDepth 50000
set_option linter.unusedVariables false

set_option maxHeartbeats 400000 in
theorem may_any (t : Int) (w : World) :
    Calls Try.prog 19 #[.int .i64 t] w fun e w' => e = .returned (.bool (mayB t)) ∧ w = w' := by
  by_cases h0 : 0 ≤ t
  · by_cases h1 : t ≤ 4000000000000000
    · go_enter Try.func19, Try.ntmps19
      go_wp2
      go_ret
      exact ⟨ret_bool (mayB_true h0 h1).symm, rfl⟩
    · go_enter Try.func19, Try.ntmps19
      go_wp2
      go_ret
      exact ⟨ret_bool (mayB_false (.inr (by omega))).symm, rfl⟩
  · go_enter Try.func19, Try.ntmps19
    go_wp2
    go_ret
    exact ⟨ret_bool (mayB_false (.inl (by omega))).symm, rfl⟩

theorem may_yes (t : Int) (w : World) (h : mayB t = true) :
    Calls Try.prog 19 #[.int .i64 t] w fun e w' => e = .returned (.bool true) ∧ w = w' := by
  have := may_any t w
  rwa [h] at this

theorem may_no (t : Int) (w : World) (h : mayB t = false) :
    Calls Try.prog 19 #[.int .i64 t] w fun e w' => e = .returned (.bool false) ∧ w = w' := by
  have := may_any t w
  rwa [h] at this

set_option maxHeartbeats 400000 in
theorem floor_any (c : Int) (w : World) (h0 : -9223372036854775808 ≤ c) (h1 : c ≤ 9223372036854775807) :
    Calls Try.prog 20 #[.int .i64 c] w fun e w' => e = .returned (.int .i64 (c / 65536)) ∧ w = w' := by
  have hf := floor_tdiv c
  have hb := tdiv_bd c h0 h1
  obtain ⟨hb0, hb1⟩ := hb
  by_cases h : c.tmod 65536 < 0
  · rw [if_pos h] at hf
    have Hf := hid hf
    clear hf
    go_enter Try.func20, Try.ntmps20
    go_wp2
    go_ret
    exact ⟨ret_int Hf.out, rfl⟩
  · rw [if_neg h] at hf
    have Hf := hid hf
    clear hf
    go_enter Try.func20, Try.ntmps20
    go_wp2
    go_ret
    exact ⟨ret_int (by have := Hf.out; omega), rfl⟩

set_option maxHeartbeats 400000 in
theorem add_any (a b : Int) (w : World) (ha0 : -9223372036854775808 ≤ a) (ha1 : a ≤ 9223372036854775807) (hb0 : -9223372036854775808 ≤ b) (hb1 : b ≤ 9223372036854775807) :
    Calls Try.prog 21 #[.int .i64 a, .int .i64 b] w fun e w' => e = .returned (.int .i64 (addI a b)) ∧ w = w' := by
  by_cases h1 : 9223372036854775807 < a + b
  · go_enter Try.func21, Try.ntmps21
    go_wp2
    go_ret
    exact ⟨ret_int (by unfold addI; omega), rfl⟩
  by_cases h2 : a + b < -9223372036854775808
  · go_enter Try.func21, Try.ntmps21
    go_wp2
    go_ret
    exact ⟨ret_int (by unfold addI; omega), rfl⟩
  rcases Int.lt_trichotomy b 0 with h | rfl | h
  all_goals
    go_enter Try.func21, Try.ntmps21
    go_wp2
    go_ret
    exact ⟨ret_int (by unfold addI; omega), rfl⟩



end Go.Proofs.Ytelonfmmcpgodaa
