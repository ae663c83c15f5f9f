/- Contracts of the document's own answer for package stamp. -/
import Derived.Test.YtnlmncpiccehjaaStamp
import Derived.Test.YtnlmncpiccehjaaOctRef
namespace Go.Proofs.Ytnlmncpiccehjaa
open Go.RowKit Go.Proofs
set_option maxRecDepth 50000
set_option linter.unusedVariables false

set_option maxHeartbeats 400000 in
theorem refMay_any (t : Int) (w : World) :
    Calls Try.prog 22 #[.int .i64 t] w fun e w' => e = .returned (.bool (mayB t)) ∧ w = w' := by
  by_cases h0 : 0 ≤ t
  · by_cases h1 : t ≤ 4000000000000000
    · go_enter Try.func22, Try.ntmps22
      go_wp2
      go_ret
      exact ⟨ret_bool (mayB_true h0 h1).symm, rfl⟩
    · go_enter Try.func22, Try.ntmps22
      go_wp2
      go_ret
      exact ⟨ret_bool (mayB_false (.inr (by omega))).symm, rfl⟩
  · go_enter Try.func22, Try.ntmps22
    go_wp2
    go_ret
    exact ⟨ret_bool (mayB_false (.inl (by omega))).symm, rfl⟩

theorem refMay_yes (t : Int) (w : World) (h : mayB t = true) :
    Calls Try.prog 22 #[.int .i64 t] w fun e w' => e = .returned (.bool true) ∧ w = w' := by
  have := refMay_any t w
  rwa [h] at this

theorem refMay_no (t : Int) (w : World) (h : mayB t = false) :
    Calls Try.prog 22 #[.int .i64 t] w fun e w' => e = .returned (.bool false) ∧ w = w' := by
  have := refMay_any t w
  rwa [h] at this

set_option maxHeartbeats 400000 in
theorem refFloor_any (c : Int) (w : World) (h0 : -9223372036854775808 ≤ c) (h1 : c ≤ 9223372036854775807) :
    Calls Try.prog 26 #[.int .i64 c] w fun e w' => e = .returned (.int .i64 (c / 65536)) ∧ w = w' := by
  have hf := floor_tdiv c
  have hb := tdiv_bd c h0 h1
  obtain ⟨hb0, hb1⟩ := hb
  by_cases h : c.tmod 65536 < 0
  · rw [if_pos h] at hf
    have Hf := hid hf
    clear hf
    go_enter Try.func26, Try.ntmps26
    go_wp2
    go_ret
    exact ⟨ret_int Hf.out, rfl⟩
  · rw [if_neg h] at hf
    have Hf := hid hf
    clear hf
    go_enter Try.func26, Try.ntmps26
    go_wp2
    go_ret
    exact ⟨ret_int (by have := Hf.out; omega), rfl⟩




end Go.Proofs.Ytnlmncpiccehjaa
