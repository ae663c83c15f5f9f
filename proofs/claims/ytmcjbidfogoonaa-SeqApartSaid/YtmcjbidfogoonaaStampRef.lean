/- Contracts of the document's own answer for package stamp. -/
import Derived.Test.YtmcjbidfogoonaaStamp
import Derived.Test.YtmcjbidfogoonaaOctRef
namespace Go.Proofs.Ytmcjbidfogoonaa
open Go.RowKit Go.Proofs
set_option maxRecDepth 50000
set_option linter.unusedVariables false

set_option maxHeartbeats 400000 in
theorem refFloor_any (c : Int) (w : World) (h0 : -9223372036854775808 ≤ c) (h1 : c ≤ 9223372036854775807) :
    Calls Try.prog 30 #[.int .i64 c] w fun e w' => e = .returned (.int .i64 (c / 65536)) ∧ w = w' := by
  have hf := floor_tdiv c
  have hb := tdiv_bd c h0 h1
  obtain ⟨hb0, hb1⟩ := hb
  by_cases h : c.tmod 65536 < 0
  · rw [if_pos h] at hf
    have Hf := hid hf
    clear hf
    go_enter Try.func30, Try.ntmps30
    go_wp2
    go_ret
    exact ⟨ret_int Hf.out, rfl⟩
  · rw [if_neg h] at hf
    have Hf := hid hf
    clear hf
    go_enter Try.func30, Try.ntmps30
    go_wp2
    go_ret
    exact ⟨ret_int (by have := Hf.out; omega), rfl⟩

set_option maxHeartbeats 400000 in
theorem refAdd_any (a b : Int) (w : World) (ha0 : -9223372036854775808 ≤ a) (ha1 : a ≤ 9223372036854775807) (hb0 : -9223372036854775808 ≤ b) (hb1 : b ≤ 9223372036854775807) :
    Calls Try.prog 27 #[.int .i64 a, .int .i64 b] w fun e w' => e = .returned (.int .i64 (addI a b)) ∧ w = w' := by
  by_cases h1 : 9223372036854775807 < a + b
  · go_enter Try.func27, Try.ntmps27
    go_wp2
    go_ret
    exact ⟨ret_int (by unfold addI; omega), rfl⟩
  by_cases h2 : a + b < -9223372036854775808
  · go_enter Try.func27, Try.ntmps27
    go_wp2
    go_ret
    exact ⟨ret_int (by unfold addI; omega), rfl⟩
  rcases Int.lt_trichotomy a 0 with h | rfl | h
  all_goals
    go_enter Try.func27, Try.ntmps27
    go_wp2
    go_ret
    exact ⟨ret_int (by unfold addI; omega), rfl⟩



end Go.Proofs.Ytmcjbidfogoonaa
