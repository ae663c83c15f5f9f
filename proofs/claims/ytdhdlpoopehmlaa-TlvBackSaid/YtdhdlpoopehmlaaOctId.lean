/- The document's Id of chapter 1, where chapter 4's texts are not. -/
import Derived.Test.YtdhdlpoopehmlaaOctRef
namespace Go.Proofs.Ytdhdlpoopehmlaa
open Go.RowKit Go.Proofs
set_option linter.unusedVariables false
set_option linter.unusedSimpArgs false

theorem num_take_wrap8 (l : List UInt8) (A k : Nat) (h : A + k < l.length) : num ((l.drop A).take (k + 1)) = (256 * num ((l.drop A).take k) + l[A + k].toNat) % 18446744073709551616 := by
  have h1 : (l.drop A).take (k + 1) = (l.drop A).take k ++ [l[A + k]] := by
    rw [take_snoc _ k (by rw [List.length_drop]; omega), List.getElem_drop]
  rw [h1, num_snoc, Nat.mul_comm]

set_option maxHeartbeats 800000 in
theorem refId8_ok (v : Value) (l : List UInt8) (at' : Int) (w : World) (hB : Bytes w v l) (hl : l.length ≤ 140737488355328) (hat : at' ≤ 9223372036854775807) (hn : standB l.length at' 8 = true) :
    Calls Try.prog 51 #[v, .int .i64 at'] w fun e w' => e = .returned (.tuple #[.int .u64 (numAt l at'.toNat 8), .bool true]) ∧ w = w' := by
  obtain ⟨p, cap, rfl, hcap, hmax, hpat⟩ := hB
  have hs := standB_iff.1 hn
  obtain ⟨ha0, hn0, hfit⟩ := hs
  obtain ⟨A, rfl⟩ := Int.eq_ofNat_of_zero_le ha0
  rw [Int.toNat_natCast]
  obtain ⟨b, off, rfl, hlt, hc⟩ := hpat.pos (by omega)
  have Hc := hid hc
  have Hn := hid hn
  unfold maxLen at hmax
  clear hc hn hpat
  go_enter Try.func51, Try.ntmps51
  go_wp2_with fail
  refine (fits_any _ _ _ _ _ _ (by omega) hat (by decide)).mono ?_
  rintro e w' ⟨rfl, rfl⟩
  rw [Hn.out]
  go_wp2_with fail
  go_loop [6, 7] (fun v i => ∃ (k : Nat) (X : Int), k ≤ 8 ∧ i = .int .i64 k ∧ v = .int .u64 X ∧ 0 ≤ X ∧ X < 18446744073709551616 ∧ Hid (X = (num ((l.drop A).take k) : Nat))) (fun _ i => 8 - (intOf i).toNat)
  case atStart => exact ⟨0, 0, Nat.zero_le _, rfl, rfl, by decide, by decide, hid (by simp [num])⟩
  case round =>
    obtain ⟨k, X, hk, rfl, rfl, hX0, hXlt, hX⟩ := hrel
    by_cases hlt : k < 8
    · have hcell := Hc.out (A + k) (by omega)
      have hb : l[A + k].toNat < 256 := l[A + k].toNat_lt
      go_wp2_with fail
      go_round
      case rel =>
        have h1 := num_take_wrap8 l A k (by omega)
        have h2 := hX.out
        refine ⟨k + 1, ((256 * X + (l[A + k].toNat : Nat)) % 18446744073709551616 : Int), by omega, by go_num, ?_, by omega, by omega, hid (by omega)⟩
        congr 1
        try rw [IntKind.wrap_u64]
        try rw [IntKind.wrap_u64]
        omega
      case measure => simp [intOf]; omega
    · obtain rfl : k = 8 := by omega
      go_wp2_with fail
      go_ret2
      exact ⟨ret_int_bool hX.out rfl, rfl⟩
end Go.Proofs.Ytdhdlpoopehmlaa
