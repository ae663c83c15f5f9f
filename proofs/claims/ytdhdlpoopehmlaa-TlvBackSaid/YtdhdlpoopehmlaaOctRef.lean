/- Contracts of the document's own answer for package octets. -/
import Derived.Test.YtdhdlpoopehmlaaOct
namespace Go.Proofs.Ytdhdlpoopehmlaa
open Go.RowKit Go.Proofs
set_option linter.unusedVariables false

open Go.RowKit Go.Proofs
set_option linter.unusedVariables false

set_option maxHeartbeats 800000 in
theorem refPut_any (x n : Int) (w : World) :
    Calls Try.prog 42 #[.int .i64 x, .int .i64 n] w (NewBytes w (putS x n)) := by
  obtain ⟨m, hm⟩ : ∃ m : Nat, (m : Int) = min (max n 0) 8 := ⟨(min (max n 0) 8).toNat, by omega⟩
  have hm8 : m ≤ 8 := by omega
  have hS : putS x n = putN (x % 18446744073709551616).toNat m := by unfold putS; rw [← hm, Int.toNat_natCast]
  rw [hS]
  have hmk := fun w' => make_bytes m (by omega) (m : Int) (m : Int) rfl rfl w'
  clear hS
  go_enter Try.func42, Try.ntmps42
  go_upto_region 1 with (fail)
  go_cut [1] (fun s w' => s = .int .i64 m ∧ w = w')
  case first =>
    go_wp2_with fail
    all_goals go_meet
    · exact ⟨by rw [show (m : Int) = 8 by omega], rfl⟩
    · exact ⟨by rw [show (m : Int) = 0 by omega], rfl⟩
    · exact ⟨by rw [show (m : Int) = n by omega], rfl⟩
  case rest =>
    obtain ⟨rfl, rfl⟩ := hcut
    clear hm
    go_wp2_with fail
    obtain ⟨V, hV⟩ : ∃ V, V = (x % 18446744073709551616).toNat := ⟨_, rfl⟩
    have hx : IntKind.u64.wrap x = (V : Int) := by rw [hV, ← u64_wrap_toNat, Int.toNat_of_nonneg (u64_wrap_nonneg _)]
    rw [← hV, hx]
    have Hlt : Hid (V < 18446744073709551616) := hid (by rw [hV]; have := Int.emod_lt_of_pos x (show (0 : Int) < 18446744073709551616 by decide); have := Int.emod_nonneg x (show (18446744073709551616 : Int) ≠ 0 by decide); omega)
    have HV := hid hV
    clear hV hx
    go_loopw [6, 7] (fun u i wr => ∃ (j q U : Nat) (I : Int), q + j = m ∧ i = .int .i64 I ∧ I = (q : Int) - 1 ∧ u = .int .u64 U ∧ U = V / 256 ^ j ∧ Own wr w.heap.size (.slice (some ⟨w.heap.size, 0, none⟩) m m) (List.replicate q 0 ++ putN V j) ∧ Below w.heap.size w wr) (fun _ i _ => (intOf i + 1).toNat)
    case atStart =>
      have hown := Own.lit w (List.replicate m 0) (by simp [maxLen]; omega)
      rw [List.length_replicate] at hown
      exact ⟨0, m, V, _, rfl, rfl, rfl, rfl, by simp, by simpa [putN] using hown, bnew _ _⟩
    case round =>
      obtain ⟨j, q, U, I, hqj, rfl, hI, rfl, hU, hown, hbel⟩ := hrel
      by_cases h : q = 0
      · obtain rfl : I = -1 := by omega
        obtain rfl : j = m := by omega
        subst h
        have Hown := hid hown
        clear hown hmk hU hqj hI
        go_wp2_with fail
        go_ret
        rw [← HV.out]
        exact ⟨_, rfl, by simpa using Hown.out, hbel⟩
      · obtain ⟨q', rfl⟩ : ∃ q', q = q' + 1 := ⟨q - 1, by omega⟩
        obtain rfl : I = (q' : Int) := by omega
        have hq : q' < m := by omega
        have hcell := hown.cell q' (by rw [List.length_append, List.length_replicate]; omega)
        have hfree := hown.free q'
        have hset := hown.set q' (UInt8.ofNat (V / 256 ^ j))
        rw [set_last] at hset
        have hb : Value.int .u8 ((U : Int) % 256) = bv (UInt8.ofNat (V / 256 ^ j)) := by
          unfold bv
          rw [UInt8.toNat_ofNat', hU]
          simp [Int.natCast_ediv, Int.natCast_pow]
        have hw : IntKind.u64.wrap ((U : Int) / 256) = (U : Int) / 256 := by
          have h1 := Hlt.out
          have h2 : U ≤ V := by rw [hU]; exact Nat.div_le_self _ _
          rw [IntKind.wrap_u64]
          omega
        have hU' : U / 256 = V / 256 ^ (j + 1) := by rw [hU, Nat.pow_succ, Nat.div_div_eq_div_mul]
        have Hset := hid hset
        have HU := hid hU'
        have Hb := hid hb
        have Hqj := hid hqj
        clear hset hU' hU hb hown hqj hI hmk
        go_wp2_with fail
        go_roundw
        case rel =>
          have e := Hset.out
          rw [← Hb.out] at e
          refine ⟨j + 1, q', U / 256, _, by have := Hqj.out; omega, rfl, rfl, by go_num, HU.out, ?_, hbel.setCell (Nat.le_refl _) _⟩
          exact e
        case measure => simp [intOf]

set_option maxHeartbeats 400000 in
theorem refPutId_any (x : Int) (w : World) (hx : 0 ≤ x) (hx2 : x < 18446744073709551616) :
    Calls Try.prog 48 #[.int .u64 x] w (NewBytes w (putN x.toNat 8)) := by
  have Hx := hid hx2
  clear hx2
  go_enter Try.func48, Try.ntmps48
  go_wp2_with fail
  refine (refPut_any _ _ _).mono ?_
  rintro e w1 ⟨v, rfl, hown, hbel⟩
  go_wp2_with fail
  go_ret
  refine ⟨v, rfl, ?_, hbel⟩
  have e : putN x.toNat 8 = putS (wrap64 x) 8 := by
    have hx2 := Hx.out
    unfold putS
    rw [show (min (max (8 : Int) 0) 8).toNat = 8 by decide]
    congr 1
    unfold wrap64
    omega
  rw [e]
  exact hown
set_option maxHeartbeats 400000 in
theorem fits_any (p : Option Addr) (len cap : Nat) (at' n : Int) (w : World) (hlen : len ≤ 9223372036854775807) (hat : at' ≤ 9223372036854775807) (hn : 0 ≤ n) :
    Calls Try.prog 55 #[.slice p len cap, .int .i64 at', .int .i64 n] w fun e w' => e = .returned (.bool (standB len at' n)) ∧ w = w' := by
  by_cases h1 : 0 ≤ at'
  · by_cases h2 : at' ≤ len
    · go_enter Try.func55, Try.ntmps55
      go_wp2
      go_ret
      refine ⟨ret_bool ?_, rfl⟩
      rw [Bool.eq_iff_iff, standB_iff, decide_eq_true_iff]
      omega
    · go_enter Try.func55, Try.ntmps55
      go_wp2
      go_ret
      exact ⟨ret_bool (standB_false (by omega)).symm, rfl⟩
  · go_enter Try.func55, Try.ntmps55
    go_wp2
    go_ret
    exact ⟨ret_bool (standB_false (by omega)).symm, rfl⟩

theorem num_take_succ (l : List UInt8) (A k : Nat) (h : A + k < l.length) (hk : k < 7) : num ((l.drop A).take (k + 1)) = 256 * num ((l.drop A).take k) + l[A + k].toNat := by
  have h1 : (l.drop A).take (k + 1) = (l.drop A).take k ++ [l[A + k]] := by
    rw [take_snoc _ k (by rw [List.length_drop]; omega), List.getElem_drop]
  have h2 : num ((l.drop A).take k) < 281474976710656 := by
    refine Nat.lt_of_lt_of_le (num_small _) ?_
    refine Nat.le_trans (Nat.pow_le_pow_right (by decide) (show _ ≤ 6 from ?_)) (by decide)
    rw [List.length_take]
    omega
  have h3 : l[A + k].toNat < 256 := l[A + k].toNat_lt
  rw [h1, num_snoc, Nat.mod_eq_of_lt (by omega), Nat.mul_comm]

set_option maxHeartbeats 800000 in
theorem refGet_ok (v : Value) (l : List UInt8) (at' n : Int) (w : World) (hB : Bytes w v l) (hl : l.length ≤ 140737488355328) (hat : at' ≤ 9223372036854775807) (hn1 : 1 ≤ n) (hn7 : n ≤ 7) (hn : standB l.length at' n = true) :
    Calls Try.prog 46 #[v, .int .i64 at', .int .i64 n] w fun e w' => e = .returned (.tuple #[.int .i64 (numAt l at'.toNat n.toNat), .bool true]) ∧ w = w' := by
  obtain ⟨p, cap, rfl, hcap, hmax, hpat⟩ := hB
  have hs := standB_iff.1 hn
  obtain ⟨ha0, hn0, hfit⟩ := hs
  obtain ⟨A, rfl⟩ := Int.eq_ofNat_of_zero_le ha0
  obtain ⟨m, rfl⟩ := Int.eq_ofNat_of_zero_le hn0
  rw [Int.toNat_natCast, Int.toNat_natCast]
  obtain ⟨b, off, rfl, hlt, hc⟩ := hpat.pos (by omega)
  have Hc := hid hc
  have Hn := hid hn
  unfold maxLen at hmax
  clear hc hn hpat
  go_enter Try.func46, Try.ntmps46
  go_wp2_with fail
  refine (fits_any _ _ _ _ _ _ (by omega) hat hn0).mono ?_
  rintro e w' ⟨rfl, rfl⟩
  rw [Hn.out]
  go_wp2_with fail
  go_loop [8, 9] (fun v i => ∃ (k : Nat) (X : Int), k ≤ m ∧ i = .int .i64 k ∧ v = .int .i64 X ∧ 0 ≤ X ∧ Hid (X = (num ((l.drop A).take k) : Nat))) (fun _ i => m - (intOf i).toNat)
  case atStart => exact ⟨0, 0, Nat.zero_le _, rfl, rfl, by decide, hid (by simp [num])⟩
  case round =>
    obtain ⟨k, X, hk, rfl, rfl, hX0, hX⟩ := hrel
    have hXlt : X < 72057594037927936 := by
      rw [hX.out]
      have := num_at_lt l A k (by omega)
      unfold numAt at this
      omega
    by_cases hlt : k < m
    · have hXlt2 : X < 281474976710656 := by
        rw [hX.out]
        have : num ((l.drop A).take k) < 281474976710656 := by
          refine Nat.lt_of_lt_of_le (num_small _) ?_
          refine Nat.le_trans (Nat.pow_le_pow_right (by decide) (show _ ≤ 6 from ?_)) (by decide)
          rw [List.length_take]
          omega
        omega
      have hcell := Hc.out (A + k) (by omega)
      have hb : l[A + k].toNat < 256 := l[A + k].toNat_lt
      go_wp2_with fail
      go_round
      case rel => exact ⟨k + 1, _, by omega, by go_num, rfl, by omega, hid (by rw [num_take_succ l A k (by omega) (by omega)]; have := hX.out; omega)⟩
      case measure => simp [intOf]; omega
    · obtain rfl : k = m := by omega
      go_wp2_with fail
      go_ret2
      exact ⟨ret_int_bool hX.out rfl, rfl⟩

set_option maxHeartbeats 400000 in
theorem refGet_no (v : Value) (l : List UInt8) (at' n : Int) (w : World) (hB : Bytes w v l) (hl : l.length ≤ 140737488355328) (hat : at' ≤ 9223372036854775807) (hn : ¬ (1 ≤ n ∧ n ≤ 7) ∨ standB l.length at' n = false) :
    Calls Try.prog 46 #[v, .int .i64 at', .int .i64 n] w fun e w' => e = .returned (.tuple #[.int .i64 0, .bool false]) ∧ w = w' := by
  obtain ⟨p, cap, rfl, hcap, hmax, hpat⟩ := hB
  by_cases h1 : n < 1
  · go_enter Try.func46, Try.ntmps46
    go_wp2
    go_ret2
    exact ⟨rfl, rfl⟩
  by_cases h2 : 7 < n
  · go_enter Try.func46, Try.ntmps46
    go_wp2
    go_ret2
    exact ⟨rfl, rfl⟩
  have hs : standB l.length at' n = false := hn.resolve_left (by omega)
  have Hs := hid hs
  clear hn hs
  go_enter Try.func46, Try.ntmps46
  go_wp2_with fail
  refine (fits_any _ _ _ _ _ _ (by omega) hat (by omega)).mono ?_
  rintro e w' ⟨rfl, rfl⟩
  rw [Hs.out]
  go_wp2_with fail
  go_ret2
  exact ⟨rfl, rfl⟩
end Go.Proofs.Ytdhdlpoopehmlaa
