/- Contracts of package octets: facts on what is put and got; the document's examples. -/
import Derived.Test.YtcljicemkjpbeaaOctb
import Derived.Test.YtcljicemkjpbeaaPlace
import Derived.Deep.QuietTactic
import Derived.BigQuiet
namespace Go.Proofs.Ytcljicemkjpbeaa
open Go.RowKit Go.Proofs

theorem mod_pow_succ (x n : Nat) : x / 256 ^ n % 256 * 256 ^ n + x % 256 ^ n = x % 256 ^ (n + 1) := by
  have h1 : x % 256 ^ (n + 1) = x % (256 ^ n * 256) := by rw [Nat.pow_succ]
  rw [h1, Nat.mod_mul, Nat.mul_comm, Nat.add_comm]

theorem fold_putN (x n : Nat) : ∀ v : Nat, v < 18446744073709551616 → (putN x n).foldl (fun v c => (v * 256 + c.toNat) % 18446744073709551616) v = (v * 256 ^ n + x % 256 ^ n) % 18446744073709551616 := by
  induction n with
  | zero => intro v h; simp [putN, Nat.mod_one, Nat.mod_eq_of_lt h]
  | succ n ih =>
    intro v _
    rw [putN, List.foldl_cons, ih _ (Nat.mod_lt _ (by decide))]
    have hd : (UInt8.ofNat (x / 256 ^ n)).toNat = x / 256 ^ n % 256 := by rw [UInt8.toNat_ofNat']
    rw [hd, ← mod_pow_succ x n, Nat.add_mod, Nat.mul_mod, Nat.mod_mod, ← Nat.mul_mod, ← Nat.add_mod]
    congr 1
    rw [Nat.pow_succ, Nat.add_mul, Nat.mul_assoc, Nat.mul_comm 256 (256 ^ n), Nat.add_assoc]

theorem num_putN (x n : Nat) (h : n ≤ 8) : num (putN x n) = x % 256 ^ n := by
  unfold num
  rw [fold_putN x n 0 (by decide), Nat.zero_mul, Nat.zero_add]
  apply Nat.mod_eq_of_lt
  refine Nat.lt_of_lt_of_le (Nat.mod_lt _ (Nat.pow_pos (by decide))) ?_
  exact Nat.le_trans (Nat.pow_le_pow_right (by decide) h) (by decide)

theorem numAt_putN (a b : List UInt8) (x n A : Nat) (h : n ≤ 8) (hA : a.length = A) : numAt (a ++ (putN x n ++ b)) A n = x % 256 ^ n := by
  unfold numAt
  subst hA
  rw [List.drop_left, List.take_left' (putN_length x n), num_putN x n h]

theorem pow_dvd (n : Nat) (h : n ≤ 8) : (256 : Nat) ^ n ∣ 18446744073709551616 := by
  have : (18446744073709551616 : Nat) = 256 ^ n * 256 ^ (8 - n) := by rw [← Nat.pow_add, show n + (8 - n) = 8 by omega]
  rw [this]
  exact Nat.dvd_mul_right _ _

theorem num_putS (x k : Int) (h0 : 0 ≤ k) (h8 : k ≤ 8) : ((num (putS x k) : Nat) : Int) = x % 256 ^ k.toNat := by
  unfold putS
  rw [show (min (max k 0) 8).toNat = k.toNat by omega, num_putN _ _ (by omega)]
  have hp := pow_dvd k.toNat (by omega)
  have h : ((x % 18446744073709551616).toNat : Int) = x % 18446744073709551616 := Int.toNat_of_nonneg (Int.emod_nonneg _ (by decide))
  rw [Int.natCast_emod, h, Int.natCast_pow]
  have hp' : ((256 : Nat) : Int) ^ k.toNat ∣ 18446744073709551616 := by
    have := Int.ofNat_dvd.2 hp
    simpa [Int.natCast_pow] using this
  exact Int.emod_emod_of_dvd x hp'

theorem putS_length (x k : Int) (h0 : 0 ≤ k) (h8 : k ≤ 8) : (putS x k).length = k.toNat := by
  unfold putS
  rw [putN_length]
  omega

theorem stand_putS (x k : Int) (h0 : 0 ≤ k) (h8 : k ≤ 8) : standB (([] ++ putS x k).length : Nat) 0 k = true := by
  rw [List.nil_append, putS_length x k h0 h8]
  exact standB_true (by decide) h0 (by omega)

theorem small_putS (x k : Int) (h0 : 0 ≤ k) (h8 : k ≤ 8) : ([] ++ putS x k).length ≤ 140737488355328 := by
  rw [List.nil_append, putS_length x k h0 h8]
  omega

theorem numAt_whole (l : List UInt8) (n : Nat) (h : l.length = n) : numAt l 0 n = num l := by
  subst h
  simp [numAt]

theorem signedAt_putS (x k : Int) (h1 : 1 ≤ k) (h8 : k ≤ 8) (lo : -(256 ^ k.toNat : Int) ≤ 2 * x) (hi : 2 * x < 256 ^ k.toNat) : signedAt ([] ++ putS x k) (Int.toNat 0) k.toNat = x := by
  have hn := num_putS x k (by omega) h8
  have hw : numAt ([] ++ putS x k) (Int.toNat 0) k.toNat = num (putS x k) := numAt_whole _ _ (putS_length x k (by omega) h8)
  have hpos : (0 : Int) < 256 ^ k.toNat := Int.pow_pos (by decide)
  unfold signedAt
  rw [hw]
  generalize hq : (256 : Int) ^ k.toNat = q at *
  have hq' : ((256 ^ k.toNat : Nat) : Int) = q := by rw [← hq]; simp [Int.natCast_pow]
  by_cases hneg : x < 0
  · have e : x % q = x + q := by rw [← Int.add_emod_right, Int.emod_eq_of_lt (by omega) (by omega)]
    rw [e] at hn
    rw [if_neg (by omega)]
    omega
  · have e : x % q = x := Int.emod_eq_of_lt (by omega) (by omega)
    rw [e] at hn
    rw [if_pos (by omega)]
    omega

theorem signedAt_top (x k : Int) (h1 : 1 ≤ k) (h8 : k ≤ 8) (h : 2 * x = 256 ^ k.toNat) : signedAt ([] ++ putS x k) (Int.toNat 0) k.toNat = -x := by
  have hn := num_putS x k (by omega) h8
  have hw : numAt ([] ++ putS x k) (Int.toNat 0) k.toNat = num (putS x k) := numAt_whole _ _ (putS_length x k (by omega) h8)
  have hpos : (0 : Int) < 256 ^ k.toNat := Int.pow_pos (by decide)
  unfold signedAt
  rw [hw]
  generalize hq : (256 : Int) ^ k.toNat = q at *
  have hq' : ((256 ^ k.toNat : Nat) : Int) = q := by rw [← hq]; simp [Int.natCast_pow]
  have e : x % q = x := Int.emod_eq_of_lt (by omega) (by omega)
  rw [e] at hn
  rw [if_neg (by omega)]
  omega

set_option maxHeartbeats 400000 in
theorem awake_any (w : World) :
    Calls Try.prog 13 #[] w fun e w' => e = .returned (.bool true) ∧ Below w.heap.size w w' := by
  go_enter Try.func13, Try.ntmps13
  go_wp2_with fail
  refine (signed_ok _ [255, 254] _ _ _ ?_ (by decide) (by decide) (by decide) (by decide) (by decide)).mono ?_
  · exact (Own.lit w [255, 254] (by decide)).bytes
  rintro e w' ⟨rfl, rfl⟩
  rw [show signedAt [255, 254] (0 : Int).toNat (2 : Int).toNat = -2 by decide]
  go_wp2_with fail
  refine (put_any _ [] _ _ _ (Bytes.nil _) (by decide)).mono ?_
  rw [show [] ++ putS 258 2 = [1, 2] by decide]
  rintro e w1 ⟨v, rfl, hown, hbel⟩
  have hstr := hown.bytes.str
  go_wp2_with fail
  go_ret
  exact ⟨rfl, ((Below.refl _ _).alloc (Nat.le_refl _) _).trans (hbel.mono (by simp))⟩
end Go.Proofs.Ytcljicemkjpbeaa
