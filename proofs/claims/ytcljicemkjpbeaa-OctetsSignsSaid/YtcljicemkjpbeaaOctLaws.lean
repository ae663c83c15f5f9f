/- The walks of the laws of package octets. -/
import Derived.Test.YtcljicemkjpbeaaOctc
namespace Go.Proofs.Ytcljicemkjpbeaa
open Go.RowKit Go.Proofs
set_option linter.unusedVariables false

theorem pow_shift (k : Nat) (h1 : 1 ≤ k) (h7 : k ≤ 7) : (256 : Nat) ^ k = 2 * 2 ^ (8 * k - 1) := by
  have hm : k = 1 ∨ k = 2 ∨ k = 3 ∨ k = 4 ∨ k = 5 ∨ k = 6 ∨ k = 7 := by omega
  rcases hm with rfl | rfl | rfl | rfl | rfl | rfl | rfl <;> decide

set_option maxHeartbeats 800000 in
theorem octetsSigns_walk (a0 : Int) (w0 : (Lit.int .i64 a0).wf = true) (a1 : Int) (w1 : (Lit.int .i64 a1).wf = true) (w : World) :
    Calls Try.prog 8 #[.int .i64 a0, .int .i64 a1] w fun e w' => e = .returned (.bool true) ∧ Below w.heap.size w w' := by
  go_enter Try.func8, Try.ntmps8
  go_wp2_with fail
  refine (place_any _ _ _ (by decide) (by decide)).mono ?_
  rintro e w' ⟨rfl, rfl⟩
  have hk : a1 % 7 = 0 ∨ a1 % 7 = 1 ∨ a1 % 7 = 2 ∨ a1 % 7 = 3 ∨ a1 % 7 = 4 ∨ a1 % 7 = 5 ∨ a1 % 7 = 6 := by omega
  rcases hk with h | h | h | h | h | h | h
  all_goals
    rw [h]
    clear h
    go_wp2_with fail
    refine (place_in _ _ _ (by decide) (by decide)).mono ?_
    rintro e w' ⟨y, rfl, hy0, hy1, _, rfl⟩
    go_wp2_with fail
    refine (put_any _ [] _ _ _ (Bytes.nil _) (by decide)).mono ?_
    rintro e w1 ⟨v, rfl, hown, hbel⟩
    go_wp2_with fail
    refine (signed_ok _ _ _ _ _ hown.bytes (small_putS _ _ (by decide) (by decide)) (by decide) (by decide) (by decide) (stand_putS _ _ (by decide) (by decide))).mono ?_
    rintro e w2 ⟨rfl, rfl⟩
    rw [signedAt_putS _ _ (by decide) (by decide) (by simp; omega) (by simp; omega)]
    go_wp2_with fail
    refine (put_any _ [] _ _ _ (Bytes.nil _) (by decide)).mono ?_
    rintro e w2 ⟨v2, rfl, hown2, hbel2⟩
    go_wp2_with fail
    refine (signed_ok _ _ _ _ _ hown2.bytes (small_putS _ _ (by decide) (by decide)) (by decide) (by decide) (by decide) (stand_putS _ _ (by decide) (by decide))).mono ?_
    rintro e w3 ⟨rfl, rfl⟩
    rw [signedAt_top _ _ (by decide) (by decide) (by simp)]
    go_wp2_with fail
    refine (awake_any _).mono ?_
    rintro e w4 ⟨rfl, hb4⟩
    go_wp2_with fail
    go_ret
    exact ⟨rfl, hbel.trans ((hbel2.mono hbel.size).trans (hb4.mono (Nat.le_trans hbel.size hbel2.size)))⟩

set_option maxHeartbeats 800000 in
theorem octetsZeros_walk (a0 : Int) (w0 : (Lit.int .i64 a0).wf = true) (a1 : Int) (w1 : (Lit.int .i64 a1).wf = true) (a2 : Int) (w2 : (Lit.int .u8 a2).wf = true) (w : World) :
    Calls Try.prog 7 #[.int .i64 a0, .int .i64 a1, .int .u8 a2] w fun e w' => e = .returned (.bool true) ∧ Below w.heap.size w w' := by
  go_enter Try.func7, Try.ntmps7
  go_wp2_with fail
  refine (place_in _ _ _ (by decide) (by decide)).mono ?_
  rintro e w' ⟨y, rfl, hy0, hy1, _, rfl⟩
  obtain ⟨y, rfl⟩ := Int.eq_ofNat_of_zero_le hy0
  obtain ⟨c, rfl⟩ := u8_of_wf w2
  have hmk := fun w' => make_bytes (1 + y) (by omega) (1 + ↑y) (1 + ↑y) (by omega) (by omega) w'
  go_wp2_with fail
  refine (place_in _ _ _ (by omega) (by omega)).mono ?_
  rintro e w' ⟨i, rfl, hi0, hi1, _, rfl⟩
  obtain ⟨i, rfl⟩ := Int.eq_ofNat_of_zero_le hi0
  have hown := Own.lit w (List.replicate (1 + y) 0) (by simp [maxLen]; omega)
  rw [List.length_replicate] at hown
  have hcell := hown.cell i (by simp; omega)
  have hfree := hown.free i
  clear hown w0 w1 w2
  have hl : ((List.replicate (1 + y) 0).set i c).length = 1 + y := by simp
  have hown := Own.lit w ((List.replicate (1 + y) 0).set i c) (by rw [hl]; simp [maxLen]; omega)
  rw [hl] at hown
  have hB := hown.bytes
  have z1 := zeroB_set_in (1 + y) i c (by omega)
  have z2 := zeroB_set_out (1 + y) i 0 i c (by omega) (by omega)
  have z3 := zeroB_set_out (1 + y) i (i + 1) (1 + y - i - 1) c (by omega) (by omega)
  have Hl := hid hl
  have HB := hid hB
  have Z1 := hid z1
  have Z2 := hid z2
  have Z3 := hid z3
  clear hl hB hown z1 z2 z3
  go_wp2_with fail
  rw [cellsOf_upd]
  generalize List.set (List.replicate (1 + y) 0) i c = r at *
  refine (zero_yes _ _ _ _ _ HB.out (by rw [Hl.out]; omega) (by decide) (by rw [Hl.out]; exact standB_true (by decide) (by omega) (by omega))).mono ?_
  rintro e w' ⟨rfl, rfl⟩
  rw [show (1 + (y : Int)).toNat = 1 + y by omega, Int.toNat_zero, Z1.out]
  have hq := u8_eq_zero c
  obtain ⟨cb, hcb⟩ : ∃ b : Bool, (c == 0) = b := ⟨_, rfl⟩
  rw [hcb] at hq ⊢
  clear hcb Z1 hcell hfree hmk
  cases cb
  all_goals
    go_wp2_with fail
    refine (zero_yes _ _ _ _ _ HB.out (by rw [Hl.out]; omega) (by decide) (by rw [Hl.out]; exact standB_true (by decide) (by omega) (by omega))).mono ?_
    rintro e w' ⟨rfl, rfl⟩
    rw [Int.toNat_natCast, Int.toNat_zero, Z2.out]
    go_wp2_with fail
    refine (zero_yes _ _ _ _ _ HB.out (by rw [Hl.out]; omega) (by omega) (by rw [Hl.out]; exact standB_true (by omega) (by omega) (by omega))).mono ?_
    rintro e w' ⟨rfl, rfl⟩
    rw [show ((i : Int) + 1).toNat = i + 1 by omega, show ((1 + (y : Int)) - i - 1).toNat = 1 + y - i - 1 by omega, Z3.out]
    go_wp2_with fail
    refine (zero_no _ _ _ _ _ HB.out (by rw [Hl.out]; omega) (by omega) (by rw [Hl.out]; exact standB_false (by omega))).mono ?_
    rintro e w' ⟨rfl, rfl⟩
    go_wp2_with fail
    refine (zero_yes _ _ _ _ _ HB.out (by rw [Hl.out]; omega) (by omega) (by rw [Hl.out]; exact standB_true (by omega) (by omega) (by omega))).mono ?_
    rintro e w' ⟨rfl, rfl⟩
    rw [Int.toNat_zero, zeroB_none]
    go_wp2_with fail
    refine (awake_any _).mono ?_
    rintro e w4 ⟨rfl, hb4⟩
    go_wp2_with fail
    go_ret
    exact ⟨rfl, ((Below.refl _ _).alloc (Nat.le_refl _) _).trans (hb4.mono (by simp))⟩
end Go.Proofs.Ytcljicemkjpbeaa
