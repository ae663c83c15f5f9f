/- Plain facts: whole numbers of less than 2^53 as floats: sums, differences, products, order, and back. -/
import Derived.WalkLawsBesides
namespace Go.Proofs.Ytcnhgcnfekldlaa
set_option linter.unusedVariables false
open Ieee (Datum Toward Format signed double)

/-- The datum d stands for the whole number n. -/
def Rep (d : Datum) (n : Int) : Prop :=
  ∃ (m : Nat) (p : Int) (K : Nat), d = .number (decide (n < 0)) m p ∧ -(K : Int) ≤ p ∧ m * 2 ^ (p + K).toNat = n.natAbs * 2 ^ K

theorem rep_at {m x : Nat} {p : Int} {K K' : Nat} (h : -(K : Int) ≤ p) (h' : -(K' : Int) ≤ p) (e : m * 2 ^ (p + K).toNat = x * 2 ^ K) : m * 2 ^ (p + K').toNat = x * 2 ^ K' := by
  rcases Nat.le_total K K' with hk | hk
  · obtain ⟨j, rfl⟩ := Nat.exists_eq_add_of_le hk
    have : (p + ((K + j : Nat) : Int)).toNat = (p + K).toNat + j := by omega
    rw [this, Nat.pow_add, Nat.pow_add, ← Nat.mul_assoc, ← Nat.mul_assoc, e]
  · obtain ⟨j, rfl⟩ := Nat.exists_eq_add_of_le hk
    have : (p + ((K' + j : Nat) : Int)).toNat = (p + K').toNat + j := by omega
    rw [this, Nat.pow_add, Nat.pow_add, ← Nat.mul_assoc, ← Nat.mul_assoc] at e
    exact Nat.eq_of_mul_eq_mul_right (Nat.two_pow_pos j) e

theorem signed_rep {m : Nat} {a p base : Int} {K : Nat} (hb : base ≤ p) (hK : -(K : Int) ≤ base) (e : m * 2 ^ (p + K).toNat = a.natAbs * 2 ^ K) :
    signed (decide (a < 0)) m (p - base).toNat * (2 ^ (base + K).toNat : Nat) = a * (2 ^ K : Nat) := by
  have hs : (p + K).toNat = (p - base).toNat + (base + K).toNat := by omega
  rw [hs, Nat.pow_add, ← Nat.mul_assoc] at e
  have e' : ((m * 2 ^ (p - base).toNat : Nat) : Int) * (2 ^ (base + K).toNat : Nat) = (a.natAbs : Int) * (2 ^ K : Nat) := by
    rw [← Int.natCast_mul, ← Int.natCast_mul, e]
  unfold signed
  rw [Nat.shiftLeft_eq]
  by_cases h : a < 0
  · rw [if_pos (by simpa using h), Int.neg_mul, e', ← Int.neg_mul]
    congr 1
    omega
  · rw [if_neg (by simpa using h), e']
    congr 1
    omega

theorem pow_pos_int (k : Nat) : (0 : Int) < (2 ^ k : Nat) := by
  have := Nat.two_pow_pos k
  omega

theorem sgn_of_scaled {x a : Int} {P Q : Int} (hP : 0 < P) (hQ : 0 < Q) (e : x * P = a * Q) : (x < 0 ↔ a < 0) ∧ (x = 0 ↔ a = 0) := by
  constructor
  · constructor
    · intro h
      have : x * P < 0 := Int.mul_neg_of_neg_of_pos h hP
      rw [e] at this
      exact Int.lt_of_not_ge fun hn => by have := Int.mul_nonneg hn (Int.le_of_lt hQ); omega
    · intro h
      have : a * Q < 0 := Int.mul_neg_of_neg_of_pos h hQ
      rw [← e] at this
      exact Int.lt_of_not_ge fun hn => by have := Int.mul_nonneg hn (Int.le_of_lt hP); omega
  · constructor
    · rintro rfl
      rw [Int.zero_mul] at e
      rcases Int.mul_eq_zero.1 e.symm with h | h
      · exact h
      · omega
    · rintro rfl
      rw [Int.zero_mul] at e
      rcases Int.mul_eq_zero.1 e with h | h
      · exact h
      · omega

theorem rep_two {a b : Int} {m n : Nat} {i j : Int} {K L : Nat} (hK : -(K : Int) ≤ i) (hL : -(L : Int) ≤ j) (e : m * 2 ^ (i + K).toNat = a.natAbs * 2 ^ K) (f : n * 2 ^ (j + L).toNat = b.natAbs * 2 ^ L) :
    ∃ M : Nat, -(M : Int) ≤ min i j ∧ m * 2 ^ (i + M).toNat = a.natAbs * 2 ^ M ∧ n * 2 ^ (j + M).toNat = b.natAbs * 2 ^ M := by
  refine ⟨max K L, by omega, rep_at hK (by omega) e, rep_at hL (by omega) f⟩

theorem natAbs_scaled {x a : Int} {P Q : Nat} (e : x * (P : Int) = a * (Q : Int)) : x.natAbs * P = a.natAbs * Q := by
  have := congrArg Int.natAbs e
  rwa [Int.natAbs_mul, Int.natAbs_mul, Int.natAbs_natCast, Int.natAbs_natCast] at this

theorem rep_sum {d e : Datum} {a b : Int} (hd : Rep d a) (he : Rep e b) : ∃ r, d.sum e = some r ∧ Rep r (a + b) := by
  obtain ⟨m, i, K, rfl, hK, hm⟩ := hd
  obtain ⟨n, j, L, rfl, hL, hn⟩ := he
  obtain ⟨M, hM, hm', hn'⟩ := rep_two hK hL hm hn
  have h1 := signed_rep (base := min i j) (by omega) hM hm'
  have h2 := signed_rep (base := min i j) (by omega) hM hn'
  have h3 : (signed (decide (a < 0)) m (i - min i j).toNat + signed (decide (b < 0)) n (j - min i j).toNat) * (2 ^ (min i j + M).toNat : Nat) = (a + b) * (2 ^ M : Nat) := by
    rw [Int.add_mul, Int.add_mul, h1, h2]
  obtain ⟨s1, s2⟩ := sgn_of_scaled (pow_pos_int _) (pow_pos_int _) h3
  refine ⟨_, rfl, _, _, M, ?_, hM, natAbs_scaled h3⟩
  congr 1
  simp only [s1, s2]
  by_cases h : a + b = 0
  · rw [if_pos h]
    have : ¬ (a + b < 0) := by omega
    simp only [this, decide_false, Bool.and_eq_false_imp, decide_eq_true_eq, decide_eq_false_iff_not]
    omega
  · rw [if_neg h]

theorem rep_opposite {d : Datum} {a : Int} (hd : Rep d a) (h : a ≠ 0) : Rep d.opposite (-a) := by
  obtain ⟨m, i, K, rfl, hK, hm⟩ := hd
  refine ⟨m, i, K, ?_, hK, by rwa [Int.natAbs_neg]⟩
  show Datum.number _ _ _ = _
  congr 1
  by_cases h' : a < 0
  · have h2 : ¬ (-a < 0) := by omega
    rw [decide_eq_true h', decide_eq_false h2]
    rfl
  · have h2 : -a < 0 := by omega
    rw [decide_eq_false h', decide_eq_true h2]
    rfl

/-- A difference: what is taken away may be 0. -/
theorem rep_diff {d e : Datum} {a b : Int} (hd : Rep d a) (he : Rep e b) : ∃ r, d.sum e.opposite = some r ∧ Rep r (a - b) := by
  by_cases hb : b = 0
  · subst hb
    obtain ⟨m, i, K, rfl, hK, hm⟩ := hd
    obtain ⟨n, j, L, rfl, hL, hn⟩ := he
    have hn0 : n = 0 := by
      have hp := Nat.two_pow_pos (j + L).toNat
      rcases Nat.mul_eq_zero.1 (hn.trans (by simp)) with h | h
      · exact h
      · omega
    subst hn0
    obtain ⟨M, hM, hm', hn'⟩ := rep_two hK hL hm hn
    have h1 := signed_rep (base := min i j) (by omega) hM hm'
    have h2 : ∀ s, signed s 0 (j - min i j).toNat = 0 := by intro s; unfold signed; simp
    obtain ⟨s1, s2⟩ := sgn_of_scaled (pow_pos_int _) (pow_pos_int _) h1
    refine ⟨_, rfl, (signed (decide (a < 0)) m (i - min i j).toNat).natAbs, min i j, M, ?_, hM, ?_⟩
    · simp only [h2, Int.add_zero, Int.sub_zero, s1, s2]
      congr 1
      by_cases h : a = 0
      · subst h; simp
      · rw [if_neg h]
    · rw [Int.sub_zero]
      exact natAbs_scaled h1
  · have := rep_sum hd (rep_opposite he hb)
    rwa [← Int.sub_eq_add_neg] at this

theorem rep_product {d e : Datum} {a b : Int} (hd : Rep d a) (he : Rep e b) (h0 : a * b = 0 → 0 ≤ a ∧ 0 ≤ b) : ∃ r, d.product e = some r ∧ Rep r (a * b) := by
  obtain ⟨m, i, K, rfl, hK, hm⟩ := hd
  obtain ⟨n, j, L, rfl, hL, hn⟩ := he
  refine ⟨_, rfl, m * n, i + j, K + L, ?_, by omega, ?_⟩
  · congr 1
    by_cases hz : a * b = 0
    · obtain ⟨p, q⟩ := h0 hz
      have h1 : ¬ a < 0 := by omega
      have h2 : ¬ b < 0 := by omega
      simp [hz, h1, h2]
    · by_cases h1 : a < 0 <;> by_cases h2 : b < 0
      · have : ¬ a * b < 0 := by have := Int.mul_pos_of_neg_of_neg h1 h2; omega
        simp [h1, h2, this]
      · have : a * b < 0 := Int.mul_neg_of_neg_of_pos h1 (by have : b ≠ 0 := fun h => hz (by rw [h, Int.mul_zero]); omega)
        simp [h1, h2, this]
      · have : a * b < 0 := Int.mul_neg_of_pos_of_neg (by have : a ≠ 0 := fun h => hz (by rw [h, Int.zero_mul]); omega) h2
        simp [h1, h2, this]
      · have : ¬ a * b < 0 := by have := Int.mul_nonneg (a := a) (b := b) (by omega) (by omega); omega
        simp [h1, h2, this]
  · have hs : (i + j + ((K + L : Nat) : Int)).toNat = (i + K).toNat + (j + L).toNat := by omega
    rw [hs, Nat.pow_add, Nat.pow_add, Int.natAbs_mul]
    calc m * n * (2 ^ (i + K).toNat * 2 ^ (j + L).toNat) = (m * 2 ^ (i + K).toNat) * (n * 2 ^ (j + L).toNat) := by ac_rfl
      _ = (a.natAbs * 2 ^ K) * (b.natAbs * 2 ^ L) := by rw [hm, hn]
      _ = a.natAbs * b.natAbs * (2 ^ K * 2 ^ L) := by ac_rfl

theorem compare_scaled {x y a b : Int} {P Q : Int} (hP : 0 < P) (hQ : 0 < Q) (e : x * P = a * Q) (f : y * P = b * Q) : compare x y = compare a b := by
  have h : (x - y) * P = (a - b) * Q := by rw [Int.sub_mul, Int.sub_mul, e, f]
  obtain ⟨s1, s2⟩ := sgn_of_scaled hP hQ h
  show compareOfLessAndEq x y = compareOfLessAndEq a b
  unfold compareOfLessAndEq
  have h1 : x < y ↔ a < b := by omega
  have h2 : x = y ↔ a = b := by omega
  simp only [h1, h2]

theorem rep_order {d e : Datum} {a b : Int} (hd : Rep d a) (he : Rep e b) : d.order e = some (compare a b) := by
  obtain ⟨m, i, K, rfl, hK, hm⟩ := hd
  obtain ⟨n, j, L, rfl, hL, hn⟩ := he
  obtain ⟨M, hM, hm', hn'⟩ := rep_two hK hL hm hn
  have h1 := signed_rep (base := min i j) (by omega) hM hm'
  have h2 := signed_rep (base := min i j) (by omega) hM hn'
  exact congrArg some (compare_scaled (pow_pos_int _) (pow_pos_int _) h1 h2)

theorem cut_exact (way : Toward) (neg : Bool) (x drop : Nat) : way.cut neg (x * 2 ^ drop) drop = x := by
  have hg : (1 : Nat) <<< min drop ((x * 2 ^ drop).log2 + 2) = 2 ^ min drop ((x * 2 ^ drop).log2 + 2) := by rw [Nat.shiftLeft_eq, Nat.one_mul]
  by_cases hx : x = 0
  · subst hx
    simp only [Toward.cut, Nat.zero_mul, Nat.zero_div, Nat.zero_mod, Nat.mul_zero]
    cases way <;> simp
  · have hne : x * 2 ^ drop ≠ 0 := by
      intro h0
      rcases Nat.mul_eq_zero.1 h0 with h0 | h0
      · exact hx h0
      · exact absurd h0 (Nat.pos_iff_ne_zero.1 (Nat.two_pow_pos _))
    have hl : drop ≤ (x * 2 ^ drop).log2 := by
      rw [Nat.le_log2 hne]
      exact Nat.le_mul_of_pos_left _ (by omega)
    have hm : min drop ((x * 2 ^ drop).log2 + 2) = drop := by omega
    have hp := Nat.two_pow_pos drop
    simp only [Toward.cut, hm, Nat.shiftLeft_eq, Nat.one_mul, Nat.mul_div_cancel _ hp, Nat.mul_mod_left, Nat.mul_zero]
    cases way <;> simp

theorem rep_toInt {d : Datum} {n : Int} (way : Toward) (h : Rep d n) : d.toInt way = some n := by
  obtain ⟨m, p, K, rfl, hK, e⟩ := h
  have : way.cut (decide (n < 0)) (m <<< p.toNat) (-p).toNat = n.natAbs := by
    by_cases hp : 0 ≤ p
    · have e' := rep_at (K' := 0) hK (by omega) e
      have h0 : (-p).toNat = 0 := by omega
      have h1 : (p + ((0 : Nat) : Int)).toNat = p.toNat := by omega
      rw [h0, Nat.shiftLeft_eq]
      rw [h1, Nat.pow_zero, Nat.mul_one] at e'
      rw [e']
      have := cut_exact way (decide (n < 0)) n.natAbs 0
      rwa [Nat.pow_zero, Nat.mul_one] at this
    · have h0 : p.toNat = 0 := by omega
      have e' := rep_at (K' := (-p).toNat) hK (by omega) e
      have h1 : (p + (((-p).toNat : Nat) : Int)).toNat = 0 := by omega
      rw [h1, Nat.pow_zero, Nat.mul_one] at e'
      rw [h0, Nat.shiftLeft_eq, Nat.pow_zero, Nat.mul_one, e']
      exact cut_exact way _ _ _
  show (match Datum.number (decide (n < 0)) (way.cut (decide (n < 0)) (m <<< p.toNat) (-p).toNat) 0 with | .number s m _ => some (signed s m 0) | _ => none) = _
  rw [this]
  show some (signed _ _ _) = _
  congr 1
  unfold signed
  rw [Nat.shiftLeft_eq, Nat.pow_zero, Nat.mul_one]
  by_cases h : n < 0
  · rw [if_pos (by simpa using h)]; omega
  · rw [if_neg (by simpa using h)]; omega

theorem log2_mul_pow {x : Nat} (hx : x ≠ 0) (k : Nat) : (x * 2 ^ k).log2 = x.log2 + k := by
  have hne : x * 2 ^ k ≠ 0 := by
    intro h0
    rcases Nat.mul_eq_zero.1 h0 with h0 | h0
    · exact hx h0
    · exact absurd h0 (Nat.pos_iff_ne_zero.1 (Nat.two_pow_pos _))
  apply Nat.le_antisymm
  · rw [← Nat.lt_succ_iff, Nat.log2_lt hne]
    have := Nat.lt_log2_self (n := x)
    show _ < 2 ^ (x.log2 + k + 1)
    rw [show x.log2 + k + 1 = x.log2 + 1 + k by omega, Nat.pow_add]
    exact Nat.mul_lt_mul_of_pos_right this (Nat.two_pow_pos k)
  · rw [Nat.le_log2 hne, Nat.pow_add]
    exact Nat.mul_le_mul_right _ (Nat.log2_self_le hx)

/-- The word of a number of less than 2^53, spelled. -/
def wordOf (n : Int) : Nat :=
  if n = 0 then 0 else double.word (decide (n < 0)) ((n.natAbs.log2 + 1022) * 4503599627370496 + n.natAbs * 2 ^ (52 - n.natAbs.log2))

theorem log2_le {n : Nat} (h : n < 9007199254740992) : n.log2 ≤ 52 := by
  by_cases h0 : n = 0
  · subst h0; decide
  · have := (Nat.log2_lt (k := 53) h0).2 h
    omega

theorem kept_bounds {x : Nat} (h0 : x ≠ 0) (h : x < 9007199254740992) : 4503599627370496 ≤ x * 2 ^ (52 - x.log2) ∧ x * 2 ^ (52 - x.log2) < 9007199254740992 := by
  have hl := log2_le h
  have h1 := Nat.log2_self_le h0
  have h2 := Nat.lt_log2_self (n := x)
  constructor
  · calc 4503599627370496 = 2 ^ 52 := by decide
      _ = 2 ^ x.log2 * 2 ^ (52 - x.log2) := by rw [← Nat.pow_add]; congr 1; omega
      _ ≤ _ := Nat.mul_le_mul_right _ h1
  · calc x * 2 ^ (52 - x.log2) < 2 ^ (x.log2 + 1) * 2 ^ (52 - x.log2) := Nat.mul_lt_mul_of_pos_right h2 (Nat.two_pow_pos _)
      _ = 2 ^ 53 := by rw [← Nat.pow_add]; congr 1; omega
      _ = 9007199254740992 := by decide

theorem d_fb : ((double.fractionBits : Nat) : Int) = 52 := by decide
theorem d_lp : double.leastPlace = -1074 := by decide
theorem d_bin : double.binade = 4503599627370496 := by decide
theorem d_inf : double.infRung = 9218868437227405312 := by decide
theorem d_sw : double.signWeight = 9223372036854775808 := by decide

theorem rung_le {L k : Nat} (hL : L ≤ 52) (hk : k < 9007199254740992) : (L + 1022) * 4503599627370496 + k ≤ 9218868437227405312 := by omega

theorem write_rep {d : Datum} {n : Int} (hd : Rep d n) (h : n.natAbs < 9007199254740992) : double.write d = wordOf n := by
  obtain ⟨m, p, K, rfl, hK, e⟩ := hd
  show double.nearest (decide (n < 0)) m p = _
  unfold Format.nearest wordOf
  by_cases hz : n = 0
  · subst hz
    have hm : m = 0 := by
      rcases Nat.mul_eq_zero.1 (e.trans (by simp)) with h | h
      · exact h
      · exact absurd h (Nat.pos_iff_ne_zero.1 (Nat.two_pow_pos _))
    rw [if_pos hm, if_pos rfl]
    rfl
  · have hx : n.natAbs ≠ 0 := by omega
    have hm : m ≠ 0 := by
      rintro rfl
      rw [Nat.zero_mul] at e
      rcases Nat.mul_eq_zero.1 e.symm with h | h
      · exact hx h
      · exact absurd h (Nat.pos_iff_ne_zero.1 (Nat.two_pow_pos _))
    rw [if_neg hm, if_neg hz]
    have hl := log2_le h
    have hb := kept_bounds hx h
    have hlog : (m.log2 : Int) + p = n.natAbs.log2 := by
      have := congrArg Nat.log2 e
      rw [log2_mul_pow hm, log2_mul_pow hx] at this
      omega
    have hlast : max (p + (m.log2 : Nat) - (double.fractionBits : Nat)) double.leastPlace = (n.natAbs.log2 : Int) - 52 := by rw [d_fb, d_lp]; omega
    have hkept : Toward.even.cut (decide (n < 0)) (m <<< (p - ((n.natAbs.log2 : Int) - 52)).toNat) ((n.natAbs.log2 : Int) - 52 - p).toNat = n.natAbs * 2 ^ (52 - n.natAbs.log2) := by
      by_cases hp : (n.natAbs.log2 : Int) - 52 ≤ p
      · have e1 := rep_at (K' := 52 - n.natAbs.log2) hK (by omega) e
        have h0 : ((n.natAbs.log2 : Int) - 52 - p).toNat = 0 := by omega
        have h1 : (p + ((52 - n.natAbs.log2 : Nat) : Int)).toNat = (p - ((n.natAbs.log2 : Int) - 52)).toNat := by omega
        rw [h0, Nat.shiftLeft_eq, ← h1, e1]
        have := cut_exact .even (decide (n < 0)) (n.natAbs * 2 ^ (52 - n.natAbs.log2)) 0
        rwa [Nat.pow_zero, Nat.mul_one] at this
      · have e1 := rep_at (K' := (-p).toNat) hK (by omega) e
        have h0 : (p - ((n.natAbs.log2 : Int) - 52)).toNat = 0 := by omega
        have h1 : (p + (((-p).toNat : Nat) : Int)).toNat = 0 := by omega
        rw [h1, Nat.pow_zero, Nat.mul_one] at e1
        have h2 : (-p).toNat = (52 - n.natAbs.log2) + ((n.natAbs.log2 : Int) - 52 - p).toNat := by omega
        rw [h0, Nat.shiftLeft_eq, Nat.pow_zero, Nat.mul_one, e1, h2, Nat.pow_add, ← Nat.mul_assoc]
        exact cut_exact .even _ _ _
    have hr : ((n.natAbs.log2 : Int) - 52 - -1074).toNat = n.natAbs.log2 + 1022 := by omega
    simp only [hlast]
    simp only [hkept, d_lp, d_bin, d_inf, hr]
    rw [Nat.min_eq_left (rung_le hl hb.2)]

theorem word_mod (s : Bool) {R : Nat} (h : R < 9223372036854775808) : double.word s R % 9223372036854775808 = R := by
  unfold Format.word
  rw [d_sw]
  split <;> omega

theorem word_div (s : Bool) {R : Nat} (h : R < 9223372036854775808) : (double.word s R / 9223372036854775808 % 2 == 1) = s := by
  unfold Format.word
  rw [d_sw]
  cases s
  · have : R / 9223372036854775808 % 2 = 0 := by omega
    show (R / 9223372036854775808 % 2 == 1) = _
    rw [this]
    rfl
  · have : (9223372036854775808 + R) / 9223372036854775808 % 2 = 1 := by omega
    show ((9223372036854775808 + R) / 9223372036854775808 % 2 == 1) = _
    rw [this]
    rfl

theorem read_word (s : Bool) {L f : Nat} (hL : L ≤ 52) (hf : f < 4503599627370496) :
    double.read (double.word s ((L + 1022) * 4503599627370496 + (4503599627370496 + f))) = .number s (4503599627370496 + f) (-1074 + ((L + 1022 : Nat) : Int)) := by
  have hR : (L + 1022) * 4503599627370496 + (4503599627370496 + f) < 9223372036854775808 := by omega
  unfold Format.read
  simp only [d_sw, d_bin, d_inf, d_lp, word_mod s hR, word_div s hR]
  rw [if_neg (by omega), if_pos (by omega)]
  have h1 : ((L + 1022) * 4503599627370496 + (4503599627370496 + f)) % 4503599627370496 = f := by omega
  have h2 : ((L + 1022) * 4503599627370496 + (4503599627370496 + f)) / 4503599627370496 - 1 = L + 1022 := by omega
  rw [h1, h2]

theorem read_zero : double.read 0 = .number false 0 (-1074) := by
  unfold Format.read
  rw [d_sw, d_bin, d_lp]
  rfl

theorem read_wordOf {n : Int} (h : n.natAbs < 9007199254740992) : Rep (double.read (wordOf n)) n := by
  unfold wordOf
  by_cases hz : n = 0
  · subst hz
    rw [if_pos rfl, read_zero]
    obtain ⟨K, hK⟩ : ∃ K : Nat, K = 1074 := ⟨_, rfl⟩
    exact ⟨0, -1074, K, rfl, by omega, by rw [Nat.zero_mul, Int.natAbs_zero, Nat.zero_mul]⟩
  · rw [if_neg hz]
    have hx : n.natAbs ≠ 0 := by omega
    have hl := log2_le h
    have hb := kept_bounds hx h
    obtain ⟨f, hf⟩ := Nat.exists_eq_add_of_le hb.1
    rw [hf, read_word _ hl (by omega)]
    obtain ⟨K, hK⟩ : ∃ K : Nat, K = 1074 := ⟨_, rfl⟩
    refine ⟨_, _, K, rfl, by omega, ?_⟩
    have h3 : (-1074 + ((n.natAbs.log2 + 1022 : Nat) : Int) + (K : Int)).toNat = n.natAbs.log2 + 1022 := by omega
    have h4 : 52 - n.natAbs.log2 + (n.natAbs.log2 + 1022) = K := by omega
    rw [h3, ← hf, Nat.mul_assoc, ← Nat.pow_add, h4]

theorem rep_int (n : Int) : Rep (.number (n < 0) n.natAbs 0) n := ⟨n.natAbs, 0, 0, rfl, by omega, by simp⟩

theorem fmt64 : FloatKind.f64.format = double := rfl

theorem fl_eq (n : Int) : floatOfInt .f64 n = FloatKind.f64.format.write (.number (decide (n < 0)) n.natAbs 0) := by
  unfold floatOfInt FloatKind.nearest FloatKind.encode
  rfl

theorem fl_word {n : Int} (h : n.natAbs < 9007199254740992) : floatOfInt .f64 n = wordOf n := by
  rw [fl_eq, fmt64]
  exact write_rep (rep_int n) h

theorem read_fl {n : Int} (h : n.natAbs < 9007199254740992) : Rep (FloatKind.f64.format.read (floatOfInt .f64 n)) n := by
  rw [fl_word h, fmt64]
  exact read_wordOf h

theorem fl_write {d : Datum} {n : Int} (hd : Rep d n) (h : n.natAbs < 9007199254740992) : FloatKind.f64.format.write d = floatOfInt .f64 n := by
  rw [fl_word h, fmt64]
  exact write_rep hd h

theorem fl_add {a b : Int} (ha : a.natAbs < 9007199254740992) (hb : b.natAbs < 9007199254740992) (h : (a + b).natAbs < 9007199254740992) :
    FloatKind.f64.format.add (floatOfInt .f64 a) (floatOfInt .f64 b) = some (floatOfInt .f64 (a + b)) := by
  obtain ⟨r, hr, hrep⟩ := rep_sum (read_fl ha) (read_fl hb)
  unfold Format.add
  rw [hr]
  exact congrArg some (fl_write hrep h)

theorem fl_sub {a b : Int} (ha : a.natAbs < 9007199254740992) (hb : b.natAbs < 9007199254740992) (h : (a - b).natAbs < 9007199254740992) :
    FloatKind.f64.format.sub (floatOfInt .f64 a) (floatOfInt .f64 b) = some (floatOfInt .f64 (a - b)) := by
  obtain ⟨r, hr, hrep⟩ := rep_diff (read_fl ha) (read_fl hb)
  unfold Format.sub
  rw [hr]
  exact congrArg some (fl_write hrep h)

theorem fl_mul {a b : Int} (ha : a.natAbs < 9007199254740992) (hb : b.natAbs < 9007199254740992) (h : (a * b).natAbs < 9007199254740992) (h0 : a * b = 0 → 0 ≤ a ∧ 0 ≤ b) :
    FloatKind.f64.format.mul (floatOfInt .f64 a) (floatOfInt .f64 b) = some (floatOfInt .f64 (a * b)) := by
  obtain ⟨r, hr, hrep⟩ := rep_product (read_fl ha) (read_fl hb) h0
  unfold Format.mul
  rw [hr]
  exact congrArg some (fl_write hrep h)

theorem fl_order {a b : Int} (ha : a.natAbs < 9007199254740992) (hb : b.natAbs < 9007199254740992) :
    FloatKind.f64.format.order (floatOfInt .f64 a) (floatOfInt .f64 b) = some (compare a b) := rep_order (read_fl ha) (read_fl hb)

theorem fl_toInt {n : Int} (h : n.natAbs < 9007199254740992) : floatToIntVal .f64 (floatOfInt .f64 n) .i64 = some n := by
  unfold floatToIntVal FloatKind.decode
  rw [rep_toInt .zero (read_fl h)]
  have h1 : IntKind.min .i64 = -9223372036854775808 := by decide
  have h2 : IntKind.max .i64 = 9223372036854775807 := by decide
  simp only [h1, h2]
  rw [if_pos (by omega)]

theorem fl_neg {n : Int} (h : n.natAbs < 9007199254740992) : (FloatKind.f64.decode (floatOfInt .f64 n)).neg = decide (n < 0) := by
  obtain ⟨m, p, K, hd, _⟩ := read_fl h
  unfold FloatKind.decode
  rw [hd]
  rfl

theorem fl_inj {a b : Int} (ha : a.natAbs < 9007199254740992) (hb : b.natAbs < 9007199254740992) (h : floatOfInt .f64 a = floatOfInt .f64 b) : a = b := by
  have h1 := fl_toInt ha
  rw [h, fl_toInt hb] at h1
  injection h1 with h1
  exact h1.symm

theorem fl_max : floatOfInt .f64 4000000000000000 = 4840362400168542208 := by decide
theorem fl_min : floatOfInt .f64 (-4000000000000000) = 14063734437023318016 := by decide
theorem fl_one : floatOfInt .f64 1 = 4607182418800017408 := by decide
theorem fl_zero : floatOfInt .f64 0 = 0 := by decide
theorem fl_two : floatOfInt .f64 2 = 4611686018427387904 := by decide
end Go.Proofs.Ytcnhgcnfekldlaa
