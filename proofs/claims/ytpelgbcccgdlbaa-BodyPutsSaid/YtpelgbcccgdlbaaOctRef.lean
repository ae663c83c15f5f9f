/- Contracts of the document's own answer for package octets. -/
import Derived.Test.YtpelgbcccgdlbaaOct
namespace Go.Proofs.Ytpelgbcccgdlbaa
open Go.RowKit Go.Proofs
set_option linter.unusedVariables false

open Go.RowKit Go.Proofs
set_option linter.unusedVariables false

set_option maxHeartbeats 800000 in
theorem refPut_any (x n : Int) (w : World) :
    Calls Try.prog 30 #[.int .i64 x, .int .i64 n] w (NewBytes w (putS x n)) := by
  obtain ⟨m, hm⟩ : ∃ m : Nat, (m : Int) = min (max n 0) 8 := ⟨(min (max n 0) 8).toNat, by omega⟩
  have hm8 : m ≤ 8 := by omega
  have hS : putS x n = putN (x % 18446744073709551616).toNat m := by unfold putS; rw [← hm, Int.toNat_natCast]
  rw [hS]
  have hmk := fun w' => make_bytes m (by omega) (m : Int) (m : Int) rfl rfl w'
  clear hS
  go_enter Try.func30, Try.ntmps30
  go_upto_region 1 with (fail)
  go_cut [1] (fun s w' => s = .int .i64 m ∧ w = w')
  case first =>
    go_wp2_with fail
    all_goals go_meet
    · exact ⟨by rw [show (m : Int) = 8 by omega], rfl⟩
    · exact ⟨by rw [show (m : Int) = 0 by omega], rfl⟩
    · exact ⟨by rw [show (m : Int) = n by omega], rfl⟩
  case rest =>
    obtain ⟨rfl, rfl⟩ := hcut
    clear hm
    go_wp2_with fail
    obtain ⟨V, hV⟩ : ∃ V, V = (x % 18446744073709551616).toNat := ⟨_, rfl⟩
    have hx : IntKind.u64.wrap x = (V : Int) := by rw [hV, ← u64_wrap_toNat, Int.toNat_of_nonneg (u64_wrap_nonneg _)]
    rw [← hV, hx]
    have Hlt : Hid (V < 18446744073709551616) := hid (by rw [hV]; have := Int.emod_lt_of_pos x (show (0 : Int) < 18446744073709551616 by decide); have := Int.emod_nonneg x (show (18446744073709551616 : Int) ≠ 0 by decide); omega)
    have HV := hid hV
    clear hV hx
    go_loopw [6, 7] (fun u i wr => ∃ (j q U : Nat) (I : Int), q + j = m ∧ i = .int .i64 I ∧ I = (q : Int) - 1 ∧ u = .int .u64 U ∧ U = V / 256 ^ j ∧ Own wr w.heap.size (.slice (some ⟨w.heap.size, 0, none⟩) m m) (List.replicate q 0 ++ putN V j) ∧ Below w.heap.size w wr) (fun _ i _ => (intOf i + 1).toNat)
    case atStart =>
      have hown := Own.lit w (List.replicate m 0) (by simp [maxLen]; omega)
      rw [List.length_replicate] at hown
      exact ⟨0, m, V, _, rfl, rfl, rfl, rfl, by simp, by simpa [putN] using hown, bnew _ _⟩
    case round =>
      obtain ⟨j, q, U, I, hqj, rfl, hI, rfl, hU, hown, hbel⟩ := hrel
      by_cases h : q = 0
      · obtain rfl : I = -1 := by omega
        obtain rfl : j = m := by omega
        subst h
        have Hown := hid hown
        clear hown hmk hU hqj hI
        go_wp2_with fail
        go_ret
        rw [← HV.out]
        exact ⟨_, rfl, by simpa using Hown.out, hbel⟩
      · obtain ⟨q', rfl⟩ : ∃ q', q = q' + 1 := ⟨q - 1, by omega⟩
        obtain rfl : I = (q' : Int) := by omega
        have hq : q' < m := by omega
        have hcell := hown.cell q' (by rw [List.length_append, List.length_replicate]; omega)
        have hfree := hown.free q'
        have hset := hown.set q' (UInt8.ofNat (V / 256 ^ j))
        rw [set_last] at hset
        have hb : Value.int .u8 ((U : Int) % 256) = bv (UInt8.ofNat (V / 256 ^ j)) := by
          unfold bv
          rw [UInt8.toNat_ofNat', hU]
          simp [Int.natCast_ediv, Int.natCast_pow]
        have hw : IntKind.u64.wrap ((U : Int) / 256) = (U : Int) / 256 := by
          have h1 := Hlt.out
          have h2 : U ≤ V := by rw [hU]; exact Nat.div_le_self _ _
          rw [IntKind.wrap_u64]
          omega
        have hU' : U / 256 = V / 256 ^ (j + 1) := by rw [hU, Nat.pow_succ, Nat.div_div_eq_div_mul]
        have Hset := hid hset
        have HU := hid hU'
        have Hb := hid hb
        have Hqj := hid hqj
        clear hset hU' hU hb hown hqj hI hmk
        go_wp2_with fail
        go_roundw
        case rel =>
          have e := Hset.out
          rw [← Hb.out] at e
          refine ⟨j + 1, q', U / 256, _, by have := Hqj.out; omega, rfl, rfl, by go_num, HU.out, ?_, hbel.setCell (Nat.le_refl _) _⟩
          exact e
        case measure => simp [intOf]

set_option maxHeartbeats 400000 in
theorem refPutId_any (x : Int) (w : World) (hx : 0 ≤ x) (hx2 : x < 18446744073709551616) :
    Calls Try.prog 32 #[.int .u64 x] w (NewBytes w (putN x.toNat 8)) := by
  have Hx := hid hx2
  clear hx2
  go_enter Try.func32, Try.ntmps32
  go_wp2_with fail
  refine (refPut_any _ _ _).mono ?_
  rintro e w1 ⟨v, rfl, hown, hbel⟩
  go_wp2_with fail
  go_ret
  refine ⟨v, rfl, ?_, hbel⟩
  have e : putN x.toNat 8 = putS (wrap64 x) 8 := by
    have hx2 := Hx.out
    unfold putS
    rw [show (min (max (8 : Int) 0) 8).toNat = 8 by decide]
    congr 1
    unfold wrap64
    omega
  rw [e]
  exact hown

end Go.Proofs.Ytpelgbcccgdlbaa
