/- The document's own answers of chapter 4 (carillonref04), and chapter 1's Id: contracts. -/
import Derived.Test.YtomfpmoglamflaaIdentb
import Derived.Test.YtomfpmoglamflaaOctRef
namespace Go.Proofs.Ytomfpmoglamflaa
open Go.RowKit Go.Proofs
set_option linter.unusedVariables false
set_option linter.unusedSimpArgs false

theorem num_take_wrap (l : List UInt8) (A k : Nat) (h : A + k < l.length) : num ((l.drop A).take (k + 1)) = (256 * num ((l.drop A).take k) + l[A + k].toNat) % 18446744073709551616 := by
  have h1 : (l.drop A).take (k + 1) = (l.drop A).take k ++ [l[A + k]] := by
    rw [take_snoc _ k (by rw [List.length_drop]; omega), List.getElem_drop]
  rw [h1, num_snoc, Nat.mul_comm]

set_option maxHeartbeats 800000 in
theorem refId_ok (v : Value) (l : List UInt8) (at' : Int) (w : World) (hB : Bytes w v l) (hl : l.length ≤ 140737488355328) (hat : at' ≤ 9223372036854775807) (hn : standB l.length at' 8 = true) :
    Calls Try.prog 43 #[v, .int .i64 at'] w fun e w' => e = .returned (.tuple #[.int .u64 (numAt l at'.toNat 8), .bool true]) ∧ w = w' := by
  obtain ⟨p, cap, rfl, hcap, hmax, hpat⟩ := hB
  have hs := standB_iff.1 hn
  obtain ⟨ha0, hn0, hfit⟩ := hs
  obtain ⟨A, rfl⟩ := Int.eq_ofNat_of_zero_le ha0
  rw [Int.toNat_natCast]
  obtain ⟨b, off, rfl, hlt, hc⟩ := hpat.pos (by omega)
  have Hc := hid hc
  have Hn := hid hn
  unfold maxLen at hmax
  clear hc hn hpat
  go_enter Try.func43, Try.ntmps43
  go_wp2_with fail
  refine (fits_any _ _ _ _ _ _ (by omega) hat (by decide)).mono ?_
  rintro e w' ⟨rfl, rfl⟩
  rw [Hn.out]
  go_wp2_with fail
  go_loop [6, 7] (fun v i => ∃ (k : Nat) (X : Int), k ≤ 8 ∧ i = .int .i64 k ∧ v = .int .u64 X ∧ 0 ≤ X ∧ X < 18446744073709551616 ∧ Hid (X = (num ((l.drop A).take k) : Nat))) (fun _ i => 8 - (intOf i).toNat)
  case atStart => exact ⟨0, 0, Nat.zero_le _, rfl, rfl, by decide, by decide, hid (by simp [num])⟩
  case round =>
    obtain ⟨k, X, hk, rfl, rfl, hX0, hXlt, hX⟩ := hrel
    by_cases hlt : k < 8
    · have hcell := Hc.out (A + k) (by omega)
      have hb : l[A + k].toNat < 256 := l[A + k].toNat_lt
      go_wp2_with fail
      go_round
      case rel =>
        have h1 := num_take_wrap l A k (by omega)
        have h2 := hX.out
        refine ⟨k + 1, ((256 * X + (l[A + k].toNat : Nat)) % 18446744073709551616 : Int), by omega, by go_num, ?_, by omega, by omega, hid (by omega)⟩
        congr 1
        try rw [IntKind.wrap_u64]
        try rw [IntKind.wrap_u64]
        omega
      case measure => simp [intOf]; omega
    · obtain rfl : k = 8 := by omega
      go_wp2_with fail
      go_ret2
      exact ⟨ret_int_bool hX.out rfl, rfl⟩

set_option maxHeartbeats 400000 in
theorem refId_no (v : Value) (l : List UInt8) (at' : Int) (w : World) (hB : Bytes w v l) (hl : l.length ≤ 140737488355328) (hat : at' ≤ 9223372036854775807) (hn : standB l.length at' 8 = false) :
    Calls Try.prog 43 #[v, .int .i64 at'] w fun e w' => e = .returned (.tuple #[.int .u64 0, .bool false]) ∧ w = w' := by
  obtain ⟨p, cap, rfl, hcap, hmax, hpat⟩ := hB
  have Hn := hid hn
  clear hn
  go_enter Try.func43, Try.ntmps43
  go_wp2_with fail
  refine (fits_any _ _ _ _ _ _ (by omega) hat (by decide)).mono ?_
  rintro e w' ⟨rfl, rfl⟩
  rw [Hn.out]
  go_wp2_with fail
  go_ret2
  exact ⟨rfl, rfl⟩

set_option maxHeartbeats 800000 in
theorem refIdentGet_any (v : Value) (l : List UInt8) (at' : Int) (w : World) (hB : Bytes w v l) (hl : l.length ≤ 140737488355328) (hat : at' ≤ 9223372036854775807) :
    Calls Try.prog 35 #[v, .int .i64 at'] w fun e w' => e = .returned (.tuple #[portV (gotC l at') (gotP l at'), .bool (gotB l at')]) ∧ Below w.heap.size w w' := by
  have HB := hid fun (w' : World) (h : Below w.heap.size w w') => hB.below h
  cases h8 : standB l.length at' 8
  · have h10 : standB l.length at' 10 = false := by
      refine standB_false fun h => ?_
      rw [standB_true h.1 (by decide) (by omega)] at h8
      cases h8
    rw [gotC_no h10, gotP_no h10, show gotB l at' = false from h10]
    have H8 := hid h8
    clear h8 h10 hB
    go_enter Try.func35, Try.ntmps35
    go_wp2_with fail
    refine (refId_no _ l _ _ (HB.out _ (bnew _ _)) hl hat H8.out).mono ?_
    rintro e w' ⟨rfl, rfl⟩
    go_wp2_with fail
    exact bodyPost_ret (v := .tuple #[portV _ _, .bool _]) (by simp [results, Try.results35, go_sem]) rfl ⟨rfl, bnew _ _⟩
  have hs8 := standB_iff.1 h8
  obtain ⟨p, cap, rfl, hcap, hmax, hpat⟩ := hB
  cases h10 : standB l.length at' 10
  · rw [gotC_no h10, gotP_no h10, show gotB l at' = false from h10]
    have H8 := hid h8
    have hgt : (l.length : Int) - 10 < at' := by
      rcases Int.lt_or_le ((l.length : Int) - 10) at' with h | h
      · exact h
      · rw [standB_true hs8.1 (by decide) (by omega)] at h10
        cases h10
    clear h8 h10 hpat
    go_enter Try.func35, Try.ntmps35
    go_wp2_with fail
    refine (refId_ok _ l _ _ (HB.out _ (bnew _ _)) hl hat H8.out).mono ?_
    rintro e w' ⟨rfl, rfl⟩
    go_wp2_with fail
    exact bodyPost_ret (v := .tuple #[portV _ _, .bool _]) (by simp [results, Try.results35, go_sem]) rfl ⟨rfl, bnew _ _⟩
  · rw [gotC_yes h10, gotP_yes h10, show gotB l at' = true from h10]
    have hs10 := standB_iff.1 h10
    have h2 : standB l.length (at' + 8) 2 = true := standB_true (by omega) (by decide) (by omega)
    have H8 := hid h8
    have H2 := hid h2
    have e8 : (at' + 8).toNat = at'.toNat + 8 := by omega
    have E8 := hid e8
    clear h8 h10 h2 hpat e8
    go_enter Try.func35, Try.ntmps35
    go_wp2_with fail
    refine (refId_ok _ l _ _ (HB.out _ (bnew _ _)) hl hat H8.out).mono ?_
    rintro e w' ⟨rfl, rfl⟩
    go_wp2_with fail
    refine (refGet_ok _ l _ _ _ (HB.out _ (bnew _ _)) hl (by omega) (by decide) (by decide) H2.out).mono ?_
    rintro e w' ⟨rfl, rfl⟩
    rw [E8.out, show (2 : Int).toNat = 2 by decide]
    go_wp2_with fail
    exact bodyPost_ret (v := .tuple #[portV _ _, .bool _]) (by simp [results, Try.results35, go_sem]) rfl ⟨rfl, bnew _ _⟩
end Go.Proofs.Ytomfpmoglamflaa
