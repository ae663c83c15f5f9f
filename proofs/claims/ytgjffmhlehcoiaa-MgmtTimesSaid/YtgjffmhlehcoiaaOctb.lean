/- Contracts of package octets: the exported calls. -/
import Derived.Test.YtgjffmhlehcoiaaOct
namespace Go.Proofs.Ytgjffmhlehcoiaa
open Go.RowKit Go.Proofs
set_option maxRecDepth 50000
set_option linter.unusedVariables false

open Go.RowKit Go.Proofs

theorem number_any (v : Value) (l : List UInt8) (w : World) (hB : Bytes w v l) (hpos : 0 < l.length) (hlen : l.length ≤ 9223372036854775807) :
    Calls Try.prog 41 #[v] w fun e w' => e = .returned (.int .u64 (num l)) ∧ w = w' := by
  obtain ⟨p, cap, rfl, _, _, hat⟩ := hB
  obtain ⟨b, off, rfl, _, hc⟩ := hat.pos hpos
  exact number_some b off cap l w hlen hc

set_option maxHeartbeats 400000 in
theorem get_ok (v : Value) (l : List UInt8) (at' n : Int) (w : World) (hB : Bytes w v l) (hl : l.length ≤ 140737488355328) (hat : at' ≤ 9223372036854775807) (hn1 : 1 ≤ n) (hn7 : n ≤ 7) (hn : standB l.length at' n = true) :
    Calls Try.prog 25 #[v, .int .i64 at', .int .i64 n] w fun e w' => e = .returned (.tuple #[.int .i64 (numAt l at'.toNat n.toNat), .bool true]) ∧ w = w' := by
  obtain ⟨p, cap, rfl, hcap, hmax, hpat⟩ := hB
  have hs := standB_iff.1 hn
  obtain ⟨ha0, hn0, hfit⟩ := hs
  obtain ⟨A, rfl⟩ := Int.eq_ofNat_of_zero_le ha0
  obtain ⟨m, rfl⟩ := Int.eq_ofNat_of_zero_le hn0
  rw [Int.toNat_natCast, Int.toNat_natCast]
  obtain ⟨b, off, rfl, hlt, hc⟩ := hpat.pos (by omega)
  have hcut : ∀ c, c = cap - A → Bytes w (.slice (some ⟨b, off + A, none⟩) m c) ((l.drop A).take m) := fun c hcc => Bytes.cut A m c hlt hc (by omega) hcap hmax hcc
  have hlen : ((l.drop A).take m).length = m := by rw [List.length_take, List.length_drop]; omega
  have hsm := num_at_lt l A m (by omega)
  have Hcut := hid hcut
  have Hlen := hid hlen
  unfold maxLen at hmax
  clear hc hcut hlen hpat
  go_enter Try.func25, Try.ntmps25
  go_wp2_with (go_at_call 40; refine (stand_any _ _ _ _ _ _ (by omega) hat).mono ?_; rintro e w' ⟨rfl, rfl⟩)
  refine (number_any _ _ _ (Hcut.out _ rfl) (by rw [Hlen.out]; omega) (by rw [Hlen.out]; omega)).mono ?_
  rintro e w' ⟨rfl, rfl⟩
  go_wp2_with fail
  go_ret2
  exact ⟨ret_int_bool (IntWalk.wrap64_in _ ⟨by omega, by unfold numAt at hsm; omega⟩) rfl, rfl⟩

set_option maxHeartbeats 400000 in
theorem get_no (v : Value) (l : List UInt8) (at' n : Int) (w : World) (hB : Bytes w v l) (hl : l.length ≤ 140737488355328) (hat : at' ≤ 9223372036854775807) (hn : ¬ (1 ≤ n ∧ n ≤ 7) ∨ standB l.length at' n = false) :
    Calls Try.prog 25 #[v, .int .i64 at', .int .i64 n] w fun e w' => e = .returned (.tuple #[.int .i64 0, .bool false]) ∧ w = w' := by
  obtain ⟨p, cap, rfl, hcap, hmax, hpat⟩ := hB
  by_cases h1 : n < 1
  · go_enter Try.func25, Try.ntmps25
    go_wp2
    go_ret2
    exact ⟨rfl, rfl⟩
  by_cases h2 : 7 < n
  · go_enter Try.func25, Try.ntmps25
    go_wp2
    go_ret2
    exact ⟨rfl, rfl⟩
  have hs : standB l.length at' n = false := hn.resolve_left (by omega)
  clear hn
  go_enter Try.func25, Try.ntmps25
  go_wp2_with (go_at_call 40; refine (stand_any _ _ _ _ _ _ (by omega) hat).mono ?_; rintro e w' ⟨rfl, rfl⟩)
  go_ret2
  exact ⟨rfl, rfl⟩

set_option maxHeartbeats 400000 in
theorem putId_any (v : Value) (l : List UInt8) (x : Int) (w : World) (hB : Bytes w v l) (hl : l.length ≤ 140737488355328) (hx : 0 ≤ x) :
    Calls Try.prog 46 #[v, .int .u64 x] w (NewBytes w (l ++ putN x.toNat 8)) := by
  go_enter Try.func46, Try.ntmps46
  go_wp2_with (go_at_call 51; refine (behind_any _ l _ _ _ hB hl hx (by omega) (by omega)).mono ?_; rintro e w' ⟨v', rfl, hown, hbel⟩)
  go_ret
  exact ⟨v', rfl, hown, hbel⟩

set_option maxHeartbeats 400000 in
theorem put_any (v : Value) (l : List UInt8) (x n : Int) (w : World) (hB : Bytes w v l) (hl : l.length ≤ 140737488355328) :
    Calls Try.prog 44 #[v, .int .i64 x, .int .i64 n] w (NewBytes w (l ++ putS x n)) := by
  go_enter Try.func44, Try.ntmps44
  go_wp2_with fail
  all_goals
    refine (behind_any _ l _ _ _ hB hl (u64_wrap_nonneg _) (by omega) (by omega)).mono ?_
    rintro e w' ⟨v', rfl, hown, hbel⟩
    go_wp2_with fail
    go_ret
    refine ⟨v', rfl, ?_, hbel⟩
    rw [u64_wrap_toNat] at hown
    unfold putS
  · rw [show min (max n 0) 8 = 8 by omega]
    exact hown
  · rw [show min (max n 0) 8 = 0 by omega]
    exact hown
  · rw [show min (max n 0) 8 = n by omega]
    exact hown

set_option maxHeartbeats 400000 in
theorem signed_ok (v : Value) (l : List UInt8) (at' n : Int) (w : World) (hB : Bytes w v l) (hl : l.length ≤ 140737488355328) (hat : at' ≤ 9223372036854775807) (hn1 : 1 ≤ n) (hn8 : n ≤ 8) (hn : standB l.length at' n = true) :
    Calls Try.prog 26 #[v, .int .i64 at', .int .i64 n] w fun e w' => e = .returned (.tuple #[.int .i64 (signedAt l at'.toNat n.toNat), .bool true]) ∧ w = w' := by
  obtain ⟨p, cap, rfl, hcap, hmax, hpat⟩ := hB
  have hs := standB_iff.1 hn
  obtain ⟨ha0, hn0, hfit⟩ := hs
  obtain ⟨A, rfl⟩ := Int.eq_ofNat_of_zero_le ha0
  obtain ⟨m, rfl⟩ := Int.eq_ofNat_of_zero_le hn0
  rw [Int.toNat_natCast, Int.toNat_natCast]
  obtain ⟨b, off, rfl, hlt, hc⟩ := hpat.pos (by omega)
  have hcut : ∀ c, c = cap - A → Bytes w (.slice (some ⟨b, off + A, none⟩) m c) ((l.drop A).take m) := fun c hcc => Bytes.cut A m c hlt hc (by omega) hcap hmax hcc
  have hlen : ((l.drop A).take m).length = m := by rw [List.length_take, List.length_drop]; omega
  have Hcut := hid hcut
  have Hlen := hid hlen
  unfold maxLen at hmax
  clear hc hcut hlen hpat
  go_enter Try.func26, Try.ntmps26
  go_wp2_with (go_at_call 40; refine (stand_any _ _ _ _ _ _ (by omega) hat).mono ?_; rintro e w' ⟨rfl, rfl⟩)
  refine (number_any _ _ _ (Hcut.out _ rfl) (by rw [Hlen.out]; omega) (by rw [Hlen.out]; omega)).mono ?_
  rintro e w' ⟨rfl, rfl⟩
  obtain ⟨x, hx⟩ : ∃ x, x = num ((l.drop A).take m) := ⟨_, rfl⟩
  rw [← hx]
  have Hx := hid hx
  clear hx
  go_wp2_with fail
  go_ret2
  refine ⟨ret_int_bool ?_ rfl, rfl⟩
  have hx : x < 256 ^ m := by
    have h := num_small ((l.drop A).take m)
    rwa [Hlen.out, ← Hx.out] at h
  rw [sign_shift x m (by omega) (by omega) hx]
  unfold signedAt numAt
  rw [← Hx.out]

set_option maxHeartbeats 400000 in
theorem signed_no (v : Value) (l : List UInt8) (at' n : Int) (w : World) (hB : Bytes w v l) (hl : l.length ≤ 140737488355328) (hat : at' ≤ 9223372036854775807) (hn : ¬ (1 ≤ n ∧ n ≤ 8) ∨ standB l.length at' n = false) :
    Calls Try.prog 26 #[v, .int .i64 at', .int .i64 n] w fun e w' => e = .returned (.tuple #[.int .i64 0, .bool false]) ∧ w = w' := by
  obtain ⟨p, cap, rfl, hcap, hmax, hpat⟩ := hB
  by_cases h1 : n < 1
  · go_enter Try.func26, Try.ntmps26
    go_wp2
    go_ret2
    exact ⟨rfl, rfl⟩
  by_cases h2 : 8 < n
  · go_enter Try.func26, Try.ntmps26
    go_wp2
    go_ret2
    exact ⟨rfl, rfl⟩
  have hs : standB l.length at' n = false := hn.resolve_left (by omega)
  clear hn
  go_enter Try.func26, Try.ntmps26
  go_wp2_with (go_at_call 40; refine (stand_any _ _ _ _ _ _ (by omega) hat).mono ?_; rintro e w' ⟨rfl, rfl⟩)
  go_ret2
  exact ⟨rfl, rfl⟩

theorem stand_putS (x k : Int) (h0 : 0 ≤ k) (h8 : k ≤ 8) : standB (([] ++ putS x k).length : Nat) 0 k = true := by
  rw [List.nil_append, putS_length x k h0 h8]
  exact standB_true (by decide) h0 (by omega)

theorem stand_behind (c : UInt8) (x k : Int) (h0 : 0 ≤ k) (h8 : k ≤ 8) : standB (([c] ++ putS x k).length : Nat) 1 k = true := by
  rw [List.length_append, putS_length x k h0 h8]
  exact standB_true (by decide) h0 (by simp; omega)
end Go.Proofs.Ytgjffmhlehcoiaa
