/- The walks of the laws of package octets. -/
import Derived.Test.YtcljicemkjpbeaaOctc
namespace Go.Proofs.Ytcljicemkjpbeaa
open Go.RowKit Go.Proofs
set_option linter.unusedVariables false

theorem pow_shift (k : Nat) (h1 : 1 ≤ k) (h7 : k ≤ 7) : (256 : Nat) ^ k = 2 * 2 ^ (8 * k - 1) := by
  have hm : k = 1 ∨ k = 2 ∨ k = 3 ∨ k = 4 ∨ k = 5 ∨ k = 6 ∨ k = 7 := by omega
  rcases hm with rfl | rfl | rfl | rfl | rfl | rfl | rfl <;> decide

set_option maxHeartbeats 800000 in
theorem octetsSigns_walk (a0 : Int) (w0 : (Lit.int .i64 a0).wf = true) (a1 : Int) (w1 : (Lit.int .i64 a1).wf = true) (w : World) :
    Calls Try.prog 8 #[.int .i64 a0, .int .i64 a1] w fun e w' => e = .returned (.bool true) ∧ Below w.heap.size w w' := by
  go_enter Try.func8, Try.ntmps8
  go_wp2_with fail
  refine (place_any _ _ _ (by decide) (by decide)).mono ?_
  rintro e w' ⟨rfl, rfl⟩
  have hk : a1 % 7 = 0 ∨ a1 % 7 = 1 ∨ a1 % 7 = 2 ∨ a1 % 7 = 3 ∨ a1 % 7 = 4 ∨ a1 % 7 = 5 ∨ a1 % 7 = 6 := by omega
  rcases hk with h | h | h | h | h | h | h
  all_goals
    rw [h]
    clear h
    go_wp2_with fail
    refine (place_in _ _ _ (by decide) (by decide)).mono ?_
    rintro e w' ⟨y, rfl, hy0, hy1, _, rfl⟩
    go_wp2_with fail
    refine (put_any _ [] _ _ _ (Bytes.nil _) (by decide)).mono ?_
    rintro e w1 ⟨v, rfl, hown, hbel⟩
    go_wp2_with fail
    refine (signed_ok _ _ _ _ _ hown.bytes (small_putS _ _ (by decide) (by decide)) (by decide) (by decide) (by decide) (stand_putS _ _ (by decide) (by decide))).mono ?_
    rintro e w2 ⟨rfl, rfl⟩
    rw [signedAt_putS _ _ (by decide) (by decide) (by simp; omega) (by simp; omega)]
    go_wp2_with fail
    refine (put_any _ [] _ _ _ (Bytes.nil _) (by decide)).mono ?_
    rintro e w2 ⟨v2, rfl, hown2, hbel2⟩
    go_wp2_with fail
    refine (signed_ok _ _ _ _ _ hown2.bytes (small_putS _ _ (by decide) (by decide)) (by decide) (by decide) (by decide) (stand_putS _ _ (by decide) (by decide))).mono ?_
    rintro e w3 ⟨rfl, rfl⟩
    rw [signedAt_top _ _ (by decide) (by decide) (by simp)]
    go_wp2_with fail
    refine (awake_any _).mono ?_
    rintro e w4 ⟨rfl, hb4⟩
    go_wp2_with fail
    go_ret
    exact ⟨rfl, hbel.trans ((hbel2.mono hbel.size).trans (hb4.mono (Nat.le_trans hbel.size hbel2.size)))⟩
end Go.Proofs.Ytcljicemkjpbeaa
