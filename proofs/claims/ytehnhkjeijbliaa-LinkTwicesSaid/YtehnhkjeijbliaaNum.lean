/- Plain facts: numbers as bytes, the highest first. -/
import Derived.Test.YtehnhkjeijbliaaBase
namespace Go.Proofs.Ytehnhkjeijbliaa
open Go.RowKit Go.Proofs
set_option maxRecDepth 50000
set_option linter.unusedVariables false

/-- x's n lowest bytes, the highest first. -/
def putN (x : Nat) : Nat → List UInt8
  | 0 => []
  | n + 1 => UInt8.ofNat (x / 256 ^ n) :: putN x n

theorem putN_length (x n : Nat) : (putN x n).length = n := by induction n <;> simp [putN, *]

/-- What all of l says, the highest byte first, as a uint64. -/
def num (l : List UInt8) : Nat := l.foldl (fun v c => (v * 256 + c.toNat) % 18446744073709551616) 0

theorem num_lt (l : List UInt8) : num l < 18446744073709551616 := by
  unfold num
  rcases List.eq_nil_or_concat l with rfl | ⟨l', c, rfl⟩
  · decide
  · rw [List.concat_eq_append, List.foldl_append]; exact Nat.mod_lt _ (by decide)

theorem num_snoc (l : List UInt8) (c : UInt8) : num (l ++ [c]) = (num l * 256 + c.toNat) % 18446744073709551616 := by
  simp [num, List.foldl_append]

theorem num_small (l : List UInt8) : num l < 256 ^ l.length := by
  unfold num
  suffices h : ∀ (l : List UInt8) (v n : Nat), v < 256 ^ n → l.foldl (fun v c => (v * 256 + c.toNat) % 18446744073709551616) v < 256 ^ (n + l.length) by simpa using h l 0 0 (by decide)
  intro l
  induction l with
  | nil => intro v n h; simpa using h
  | cons c l ih =>
    intro v n h
    have hc : c.toNat < 256 := c.toNat_lt
    have h1 : (v * 256 + c.toNat) % 18446744073709551616 < 256 ^ (n + 1) := by
      refine Nat.lt_of_le_of_lt (Nat.mod_le _ _) ?_
      rw [Nat.pow_succ]
      omega
    have := ih _ (n + 1) h1
    rw [List.foldl_cons, List.length_cons]
    rwa [show n + (l.length + 1) = n + 1 + l.length by omega]

theorem num_step (v : Nat) (c : UInt8) :
    bits BinOp.or IntKind.u64 (IntKind.u64.wrap ((v : Int) * 256)) (IntKind.u64.wrap (c.toNat : Int)) = (((v * 256 + c.toNat) % 18446744073709551616 : Nat) : Int) := by
  have hc : c.toNat < 256 := c.toNat_lt
  have e1 : IntKind.u64.wrap ((v : Int) * 256) = ((v * 256 % 18446744073709551616 : Nat) : Int) := by rw [IntKind.wrap_u64]; omega
  have e2 : IntKind.u64.wrap (c.toNat : Int) = (c.toNat : Int) := by rw [IntKind.wrap_u64]; omega
  rw [e1, e2, bits_or_u64_nat _ _ (Nat.mod_lt _ (by decide)) (by omega), nat_join 8 _ _ (by omega) (by omega)]
  omega

theorem sign_shift (x m : Nat) (h1 : 1 ≤ m) (h8 : m ≤ 8) (hx : x < 256 ^ m) :
    wrap64 (IntKind.u64.wrap ((x : Int) * 2 ^ (64 - 8 * m))) / 2 ^ (64 - 8 * m) = if 2 * x < 256 ^ m then (x : Int) else (x : Int) - 256 ^ m := by
  have hm : m = 1 ∨ m = 2 ∨ m = 3 ∨ m = 4 ∨ m = 5 ∨ m = 6 ∨ m = 7 ∨ m = 8 := by omega
  rcases hm with rfl | rfl | rfl | rfl | rfl | rfl | rfl | rfl
  all_goals
    rw [IntKind.wrap_u64]
    unfold wrap64
    simp only [Nat.reduceMul, Nat.reduceSub, Nat.reducePow, Int.reducePow] at hx ⊢
    split <;> omega

/-- The number that the n bytes from at on say. -/
def numAt (l : List UInt8) (at' n : Nat) : Nat := num ((l.drop at').take n)

theorem num_at_lt (l : List UInt8) (A m : Nat) (h : m ≤ 7) : numAt l A m < 72057594037927936 := by
  unfold numAt
  refine Nat.lt_of_lt_of_le (num_small _) ?_
  refine Nat.le_trans (Nat.pow_le_pow_right (by decide) (show _ ≤ 7 from ?_)) (by decide)
  rw [List.length_take]
  omega

theorem u64_wrap_nonneg (x : Int) : 0 ≤ IntKind.u64.wrap x := by rw [IntKind.wrap_u64]; omega

theorem u64_wrap_toNat (x : Int) : (IntKind.u64.wrap x).toNat = (x % 18446744073709551616).toNat := by rw [IntKind.wrap_u64]

/-- v's n lowest bytes, n cut to from 0 to 8. -/
def putS (x n : Int) : List UInt8 := putN (x % 18446744073709551616).toNat (min (max n 0) 8).toNat

/-- The number that the n bytes from at on say, with its sign. -/
def signedAt (l : List UInt8) (at' n : Nat) : Int := if 2 * numAt l at' n < 256 ^ n then numAt l at' n else (numAt l at' n : Int) - 256 ^ n

open Go.RowKit Go.Proofs

theorem mod_pow_succ (x n : Nat) : x / 256 ^ n % 256 * 256 ^ n + x % 256 ^ n = x % 256 ^ (n + 1) := by
  have h1 : x % 256 ^ (n + 1) = x % (256 ^ n * 256) := by rw [Nat.pow_succ]
  rw [h1, Nat.mod_mul, Nat.mul_comm, Nat.add_comm]

theorem fold_putN (x n : Nat) : ∀ v : Nat, v < 18446744073709551616 → (putN x n).foldl (fun v c => (v * 256 + c.toNat) % 18446744073709551616) v = (v * 256 ^ n + x % 256 ^ n) % 18446744073709551616 := by
  induction n with
  | zero => intro v h; simp [putN, Nat.mod_one, Nat.mod_eq_of_lt h]
  | succ n ih =>
    intro v _
    rw [putN, List.foldl_cons, ih _ (Nat.mod_lt _ (by decide))]
    have hd : (UInt8.ofNat (x / 256 ^ n)).toNat = x / 256 ^ n % 256 := by rw [UInt8.toNat_ofNat']
    rw [hd, ← mod_pow_succ x n, Nat.add_mod, Nat.mul_mod, Nat.mod_mod, ← Nat.mul_mod, ← Nat.add_mod]
    congr 1
    rw [Nat.pow_succ, Nat.add_mul, Nat.mul_assoc, Nat.mul_comm 256 (256 ^ n), Nat.add_assoc]

theorem num_putN (x n : Nat) (h : n ≤ 8) : num (putN x n) = x % 256 ^ n := by
  unfold num
  rw [fold_putN x n 0 (by decide), Nat.zero_mul, Nat.zero_add]
  apply Nat.mod_eq_of_lt
  refine Nat.lt_of_lt_of_le (Nat.mod_lt _ (Nat.pow_pos (by decide))) ?_
  exact Nat.le_trans (Nat.pow_le_pow_right (by decide) h) (by decide)

theorem numAt_putN (a b : List UInt8) (x n A : Nat) (h : n ≤ 8) (hA : a.length = A) : numAt (a ++ (putN x n ++ b)) A n = x % 256 ^ n := by
  unfold numAt
  subst hA
  rw [List.drop_left, List.take_left' (putN_length x n), num_putN x n h]

theorem pow_dvd (n : Nat) (h : n ≤ 8) : (256 : Nat) ^ n ∣ 18446744073709551616 := by
  have : (18446744073709551616 : Nat) = 256 ^ n * 256 ^ (8 - n) := by rw [← Nat.pow_add, show n + (8 - n) = 8 by omega]
  rw [this]
  exact Nat.dvd_mul_right _ _

theorem num_putS (x k : Int) (h0 : 0 ≤ k) (h8 : k ≤ 8) : ((num (putS x k) : Nat) : Int) = x % 256 ^ k.toNat := by
  unfold putS
  rw [show (min (max k 0) 8).toNat = k.toNat by omega, num_putN _ _ (by omega)]
  have hp := pow_dvd k.toNat (by omega)
  have h : ((x % 18446744073709551616).toNat : Int) = x % 18446744073709551616 := Int.toNat_of_nonneg (Int.emod_nonneg _ (by decide))
  rw [Int.natCast_emod, h, Int.natCast_pow]
  have hp' : ((256 : Nat) : Int) ^ k.toNat ∣ 18446744073709551616 := by
    have := Int.ofNat_dvd.2 hp
    simpa [Int.natCast_pow] using this
  exact Int.emod_emod_of_dvd x hp'

theorem putS_length (x k : Int) (h0 : 0 ≤ k) (h8 : k ≤ 8) : (putS x k).length = k.toNat := by
  unfold putS
  rw [putN_length]
  omega

theorem small_putS (x k : Int) (h0 : 0 ≤ k) (h8 : k ≤ 8) : ([] ++ putS x k).length ≤ 140737488355328 := by
  rw [List.nil_append, putS_length x k h0 h8]
  omega

theorem numAt_whole (l : List UInt8) (n : Nat) (h : l.length = n) : numAt l 0 n = num l := by
  subst h
  simp [numAt]

theorem signedAt_putS (x k : Int) (h1 : 1 ≤ k) (h8 : k ≤ 8) (lo : -(256 ^ k.toNat : Int) ≤ 2 * x) (hi : 2 * x < 256 ^ k.toNat) : signedAt ([] ++ putS x k) (Int.toNat 0) k.toNat = x := by
  have hn := num_putS x k (by omega) h8
  have hw : numAt ([] ++ putS x k) (Int.toNat 0) k.toNat = num (putS x k) := numAt_whole _ _ (putS_length x k (by omega) h8)
  have hpos : (0 : Int) < 256 ^ k.toNat := Int.pow_pos (by decide)
  unfold signedAt
  rw [hw]
  generalize hq : (256 : Int) ^ k.toNat = q at *
  have hq' : ((256 ^ k.toNat : Nat) : Int) = q := by rw [← hq]; simp [Int.natCast_pow]
  by_cases hneg : x < 0
  · have e : x % q = x + q := by rw [← Int.add_emod_right, Int.emod_eq_of_lt (by omega) (by omega)]
    rw [e] at hn
    rw [if_neg (by omega)]
    omega
  · have e : x % q = x := Int.emod_eq_of_lt (by omega) (by omega)
    rw [e] at hn
    rw [if_pos (by omega)]
    omega

theorem signedAt_top (x k : Int) (h1 : 1 ≤ k) (h8 : k ≤ 8) (h : 2 * x = 256 ^ k.toNat) : signedAt ([] ++ putS x k) (Int.toNat 0) k.toNat = -x := by
  have hn := num_putS x k (by omega) h8
  have hw : numAt ([] ++ putS x k) (Int.toNat 0) k.toNat = num (putS x k) := numAt_whole _ _ (putS_length x k (by omega) h8)
  have hpos : (0 : Int) < 256 ^ k.toNat := Int.pow_pos (by decide)
  unfold signedAt
  rw [hw]
  generalize hq : (256 : Int) ^ k.toNat = q at *
  have hq' : ((256 ^ k.toNat : Nat) : Int) = q := by rw [← hq]; simp [Int.natCast_pow]
  have e : x % q = x := Int.emod_eq_of_lt (by omega) (by omega)
  rw [e] at hn
  rw [if_neg (by omega)]
  omega

theorem and_mask (n : Int) (j : Nat) (hj : j ≤ 62) : bits .and .i64 n (2 ^ j - 1) = n % 2 ^ j := by
  have hlt : (2 : Nat) ^ j < 2 ^ 63 := Nat.pow_lt_pow_right (by decide) (by omega)
  have hpos : 0 < (2 : Nat) ^ j := Nat.pow_pos (by decide)
  have e1 : ((2 : Int) ^ j - 1) = ((2 ^ j - 1 : Nat) : Int) := by
    rw [Int.natCast_sub (by omega)]
    simp [Int.natCast_pow]
  have hm : (BitVec.ofInt 64 ((2 : Int) ^ j - 1)).toNat = 2 ^ j - 1 := by
    rw [e1, BitVec.toNat_ofInt]
    rw [Int.emod_eq_of_lt (by omega) (by omega)]
    omega
  have key : (BitVec.ofInt 64 n &&& BitVec.ofInt 64 (2 ^ j - 1)).toNat = (n % ((2 ^ 64 : Nat) : Int)).toNat % 2 ^ j := by
    rw [BitVec.toNat_and, BitVec.toNat_ofInt, hm, Nat.and_two_pow_sub_one_eq_mod]
  show IntKind.i64.wrap ((BitVec.ofInt 64 n &&& BitVec.ofInt 64 (2 ^ j - 1)).toNat : Nat) = n % 2 ^ j
  have hd : ((2 ^ j : Nat) : Int) ∣ ((2 ^ 64 : Nat) : Int) := Int.ofNat_dvd.2 (Nat.pow_dvd_pow 2 (by omega))
  have hml : (n % ((2 ^ 64 : Nat) : Int)).toNat % 2 ^ j < 2 ^ j := Nat.mod_lt _ hpos
  have h2 : (((n % ((2 ^ 64 : Nat) : Int)).toNat % 2 ^ j : Nat) : Int) = n % 2 ^ j := by
    rw [Int.natCast_emod, Int.toNat_of_nonneg (Int.emod_nonneg _ (by decide)), Int.emod_emod_of_dvd n hd]
    simp [Int.natCast_pow]
  rw [key, IntKind.wrap_i64, h2]
  have h3 : n % 2 ^ j < 2 ^ 63 := by rw [← h2]; omega
  have h4 : 0 ≤ n % 2 ^ j := by rw [← h2]; omega
  omega

/-- What stands behind one byte. -/
theorem numAt_behind (c : UInt8) (x k : Int) (h0 : 0 ≤ k) (h8 : k ≤ 8) : ((numAt ([c] ++ putS x k) (Int.toNat 1) k.toNat : Nat) : Int) = x % 256 ^ k.toNat := by
  rw [← num_putS x k h0 h8]
  unfold numAt
  rw [show (Int.toNat 1) = 1 from rfl, List.singleton_append, List.drop_succ_cons, List.drop_zero, List.take_of_length_le (by rw [putS_length x k h0 h8]; exact Nat.le_refl _)]

theorem small_behind (c : UInt8) (x k : Int) (h0 : 0 ≤ k) (h8 : k ≤ 8) : ([c] ++ putS x k).length ≤ 140737488355328 := by
  rw [List.length_append, putS_length x k h0 h8]
  simp
  omega

/-- With a sign: the same number, or so much less; in its limits. -/
theorem signedAt_cases (l : List UInt8) (a n : Nat) (u m : Int) (hu : ((numAt l a n : Nat) : Int) = u) (hm : (256 : Int) ^ n = 2 * m) (hlt : u < 2 * m) :
    (signedAt l a n = u ∨ signedAt l a n = u - 2 * m) ∧ -m ≤ signedAt l a n ∧ signedAt l a n < m := by
  have h256 : ((256 ^ n : Nat) : Int) = 2 * m := by rw [← hm]; simp [Int.natCast_pow]
  unfold signedAt
  rw [hm]
  split <;> omega

theorem num_le8 (l : List UInt8) : ((num l : Nat) : Int) < 18446744073709551616 := by have := num_lt l; omega

theorem less_putN (a b : Nat) : ∀ n, Op.bytesLess (putN a n) (putN b n) = decide (a % 256 ^ n < b % 256 ^ n)
  | 0 => by simp [putN, Op.bytesLess, Nat.mod_one]
  | n + 1 => by
    have ha := mod_pow_succ a n
    have hb := mod_pow_succ b n
    have hal : a % 256 ^ n < 256 ^ n := Nat.mod_lt _ (Nat.pow_pos (by decide))
    have hbl : b % 256 ^ n < 256 ^ n := Nat.mod_lt _ (Nat.pow_pos (by decide))
    have hca : (UInt8.ofNat (a / 256 ^ n)).toNat = a / 256 ^ n % 256 := by rw [UInt8.toNat_ofNat']
    have hcb : (UInt8.ofNat (b / 256 ^ n)).toNat = b / 256 ^ n % 256 := by rw [UInt8.toNat_ofNat']
    rw [putN, putN, Op.bytesLess, less_putN a b n, ← ha, ← hb, Bool.eq_iff_iff]
    simp only [Bool.or_eq_true, Bool.and_eq_true, decide_eq_true_eq, beq_iff_eq, UInt8.lt_iff_toNat_lt, ← UInt8.toNat_inj, hca, hcb]
    generalize 256 ^ n = q at *
    generalize a / q % 256 = c at *
    generalize b / q % 256 = d at *
    constructor
    · rintro (h | ⟨rfl, h⟩)
      · have : (c + 1) * q ≤ d * q := Nat.mul_le_mul_right _ h
        rw [Nat.add_mul] at this
        omega
      · omega
    · intro h
      by_cases e : c < d
      · exact .inl e
      · by_cases e2 : c = d
        · subst e2; exact .inr ⟨rfl, by omega⟩
        · have : (d + 1) * q ≤ c * q := Nat.mul_le_mul_right _ (by omega)
          rw [Nat.add_mul] at this
          omega

theorem same_putN (a b : Nat) : ∀ n, (putN a n == putN b n) = decide (a % 256 ^ n = b % 256 ^ n)
  | 0 => by simp [putN, Nat.mod_one]
  | n + 1 => by
    have ha := mod_pow_succ a n
    have hb := mod_pow_succ b n
    have hal : a % 256 ^ n < 256 ^ n := Nat.mod_lt _ (Nat.pow_pos (by decide))
    have hbl : b % 256 ^ n < 256 ^ n := Nat.mod_lt _ (Nat.pow_pos (by decide))
    have hca : (UInt8.ofNat (a / 256 ^ n)).toNat = a / 256 ^ n % 256 := by rw [UInt8.toNat_ofNat']
    have hcb : (UInt8.ofNat (b / 256 ^ n)).toNat = b / 256 ^ n % 256 := by rw [UInt8.toNat_ofNat']
    have e0 : (putN a (n + 1) == putN b (n + 1)) = ((UInt8.ofNat (a / 256 ^ n) == UInt8.ofNat (b / 256 ^ n)) && (putN a n == putN b n)) := rfl
    rw [e0, same_putN a b n, ← ha, ← hb, Bool.eq_iff_iff]
    simp only [Bool.and_eq_true, decide_eq_true_eq, beq_iff_eq, ← UInt8.toNat_inj, hca, hcb]
    generalize 256 ^ n = q at *
    generalize a / q % 256 = c at *
    generalize b / q % 256 = d at *
    constructor
    · rintro ⟨rfl, h⟩
      omega
    · intro h
      have e2 : c = d := by
        rcases Nat.lt_trichotomy c d with e | e | e
        · have : (c + 1) * q ≤ d * q := Nat.mul_le_mul_right _ e
          rw [Nat.add_mul] at this
          omega
        · exact e
        · have : (d + 1) * q ≤ c * q := Nat.mul_le_mul_right _ e
          rw [Nat.add_mul] at this
          omega
      subst e2
      exact ⟨rfl, by omega⟩

/-- A number that has room is its own rest. -/
theorem mod_room (x k : Int) (h0 : 0 ≤ x) (k8 : k ≤ 8) (h1 : x < 256 ^ k.toNat) : ((x % 18446744073709551616).toNat % 256 ^ (min (max k 0) 8).toNat) = x.toNat := by
  by_cases hk : 0 ≤ k
  · have hle : (256 : Nat) ^ k.toNat ≤ 18446744073709551616 := Nat.le_of_dvd (by decide) (pow_dvd k.toNat (by omega))
    have h1' : x.toNat < 256 ^ k.toNat := by
      have : ((x.toNat : Nat) : Int) < ((256 ^ k.toNat : Nat) : Int) := by
        rw [Int.toNat_of_nonneg h0]
        simpa [Int.natCast_pow] using h1
      omega
    rw [show (min (max k 0) 8) = k by omega, Int.emod_eq_of_lt h0 (by omega), Nat.mod_eq_of_lt h1']
  · rw [show k.toNat = 0 by omega] at h1
    have : x = 0 := by simp at h1; omega
    subst this
    simp

theorem less_putS (x y k : Int) (hx : 0 ≤ x) (hy : 0 ≤ y) (h8 : k ≤ 8) (hx1 : x < 256 ^ k.toNat) (hy1 : y < 256 ^ k.toNat) : Op.bytesLess (putS x k) (putS y k) = decide (x < y) := by
  unfold putS
  rw [less_putN, mod_room x k hx h8 hx1, mod_room y k hy h8 hy1, Bool.eq_iff_iff, decide_eq_true_eq, decide_eq_true_eq]
  omega

theorem same_putS (x y k : Int) (hx : 0 ≤ x) (hy : 0 ≤ y) (h8 : k ≤ 8) (hx1 : x < 256 ^ k.toNat) (hy1 : y < 256 ^ k.toNat) : (putS x k == putS y k) = (x == y) := by
  unfold putS
  rw [same_putN, mod_room x k hx h8 hx1, mod_room y k hy h8 hy1, Bool.eq_iff_iff, decide_eq_true_eq, beq_iff_eq]
  omega

/-- The bytes of numbers, one behind the other. -/
def flatS (k : Nat) (zs : List Int) : List UInt8 := zs.flatMap fun z => putS z k

theorem flatS_snoc (k : Nat) (zs : List Int) (z : Int) : flatS k (zs ++ [z]) = flatS k zs ++ putS z k := by simp [flatS]

theorem flatS_length (k : Nat) (h8 : k ≤ 8) (zs : List Int) : (flatS k zs).length = k * zs.length := by
  induction zs with
  | nil => simp [flatS]
  | cons z zs ih =>
    have e : flatS k (z :: zs) = putS z k ++ flatS k zs := rfl
    rw [e, List.length_append, ih, putS_length z k (by omega) (by omega), List.length_cons, Nat.mul_add]
    omega

theorem numAt_flatS (k : Nat) (h8 : k ≤ 8) : ∀ (zs : List Int) (i : Nat) (h : i < zs.length), ((numAt (flatS k zs) (k * i) k : Nat) : Int) = zs[i] % 256 ^ k
  | z :: zs, 0, _ => by
    have h1 := num_putS z k (by omega) (by omega)
    have e : flatS k (z :: zs) = putS z k ++ flatS k zs := rfl
    rw [Int.toNat_natCast] at h1
    rw [e, List.getElem_cons_zero, ← h1]
    unfold numAt
    rw [Nat.mul_zero, List.drop_zero, List.take_left' (by rw [putS_length z k (by omega) (by omega)]; omega)]
  | z :: zs, i + 1, h => by
    have e : flatS k (z :: zs) = putS z k ++ flatS k zs := rfl
    rw [List.getElem_cons_succ, ← numAt_flatS k h8 zs i (by simpa using h), e]
    unfold numAt
    have hl : (putS z k).length = k := by rw [putS_length z k (by omega) (by omega)]; omega
    rw [show k * (i + 1) = (putS z k).length + k * i by rw [hl, Nat.mul_add]; omega, List.drop_length_add_append]

theorem hand_mask (k : Nat) (h7 : k < 7) (z : Int) : bits BinOp.and IntKind.i64 z (wrap64 (wrap64 (2 ^ (8 * (1 + k))) - 1)) = z % 256 ^ (1 + k) := by
  have h := and_mask z (8 * (1 + k)) (by omega)
  have hm : k = 0 ∨ k = 1 ∨ k = 2 ∨ k = 3 ∨ k = 4 ∨ k = 5 ∨ k = 6 := by omega
  have e : wrap64 (wrap64 (2 ^ (8 * (1 + k))) - 1) = 2 ^ (8 * (1 + k)) - 1 := by
    unfold wrap64
    rcases hm with rfl | rfl | rfl | rfl | rfl | rfl | rfl <;> decide
  rw [e, h, show (256 : Int) = 2 ^ 8 by decide, ← Int.pow_mul]

theorem putN_mod (x : Nat) : ∀ (n k : Nat), n ≤ k → putN (x % 256 ^ k) n = putN x n
  | 0, _, _ => rfl
  | n + 1, k, h => by
    rw [putN, putN, putN_mod x n k (by omega)]
    congr 1
    apply UInt8.toNat_inj.1
    rw [UInt8.toNat_ofNat', UInt8.toNat_ofNat']
    have e : (256 : Nat) ^ k = 256 ^ n * 256 ^ (k - n) := by rw [← Nat.pow_add]; congr 1; omega
    rw [e, Nat.mod_mul_right_div_self]
    exact Nat.mod_mod_of_dvd _ (by have := Nat.pow_dvd_pow 256 (show 1 ≤ k - n by omega); simpa using this)

theorem set_last (q : Nat) (c : UInt8) (r : List UInt8) : (List.replicate (q + 1) 0 ++ r).set q c = List.replicate q 0 ++ (c :: r) := by
  rw [List.replicate_succ', List.append_assoc, List.set_append_right _ _ (by simp)]
  simp

theorem i64_wrap_u64 (x : Int) : (IntKind.i64.wrap x % 18446744073709551616).toNat = (x % 18446744073709551616).toNat := by
  rw [IntKind.wrap_i64]
  congr 1
  omega

/-- What PutId puts, GetId gets. -/
theorem numAt_id (x : Int) (h : 0 ≤ x) (h2 : x < 18446744073709551616) : ((numAt ([] ++ putN x.toNat 8) (Int.toNat 0) 8 : Nat) : Int) = x := by
  have e : numAt ([] ++ putN x.toNat 8) (Int.toNat 0) 8 = num (putN x.toNat 8) := numAt_whole _ _ (putN_length _ _)
  rw [e, num_putN _ _ (by decide)]
  rw [Nat.mod_eq_of_lt (by omega)]
  omega
theorem numAt_take (s : List UInt8) (A a n : Nat) (h : a + n ≤ A) : numAt (s.take A) a n = numAt s a n := by
  unfold numAt
  rw [List.drop_take, List.take_take, Nat.min_eq_left (by omega)]

theorem numAt_drop (b : List UInt8) (A B n : Nat) : numAt b (A + B) n = numAt (b.drop A) B n := by
  unfold numAt
  rw [List.drop_drop]
end Go.Proofs.Ytehnhkjeijbliaa
