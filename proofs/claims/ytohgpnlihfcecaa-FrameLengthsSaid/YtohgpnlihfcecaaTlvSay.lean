/- What TLVs that are put say when they are got. -/
import Derived.Test.YtohgpnlihfcecaaTlvOwn7
import Derived.Test.YtohgpnlihfcecaaTlvRef9
namespace Go.Proofs.Ytohgpnlihfcecaa
open Go.RowKit Go.Proofs
set_option maxRecDepth 50000
set_option linter.unusedVariables false
set_option linter.unusedSimpArgs false

theorem putS2c (x : Int) (h0 : 0 ≤ x) (h1 : x ≤ 65535) : putS x 2 = putN x.toNat 2 := by
  unfold putS
  rw [show (x % 18446744073709551616).toNat = x.toNat by omega]
  rfl

theorem tlvS_eq {q : T2} (h : checkT q = true) (X : List UInt8) : tlvS q ++ X = putN q.1.toNat 2 ++ (putN q.2.length 2 ++ (q.2 ++ X)) := by
  obtain ⟨c, s⟩ := q
  obtain ⟨h0, h1, h2, h3⟩ := check_yes h
  unfold tlvS
  rw [putS2c _ h0 h1, putS2c _ (by omega) (by show (s.length : Int) ≤ _; omega), Int.toNat_natCast]
  simp only [List.append_assoc]

theorem tlvS_length {q : T2} (h : checkT q = true) : (tlvS q).length = 4 + q.2.length := by
  have e := congrArg List.length (tlvS_eq h [])
  simp only [List.append_nil, List.length_append, putN_length] at e
  omega

theorem tlv_type {q : T2} (h : checkT q = true) (X : List UInt8) : ((numAt (tlvS q ++ X) 0 2 : Nat) : Int) = q.1 := by
  rw [tlvS_eq h]
  have := numAt_putN [] (putN q.2.length 2 ++ (q.2 ++ X)) q.1.toNat 2 0 (by decide) rfl
  rw [List.nil_append] at this
  rw [this]
  obtain ⟨c, s⟩ := q
  obtain ⟨h0, h1, h2, h3⟩ := check_yes h
  show ((c.toNat % 65536 : Nat) : Int) = c
  omega

theorem tlv_len {q : T2} (h : checkT q = true) (X : List UInt8) : numAt (tlvS q ++ X) 2 2 = q.2.length := by
  rw [tlvS_eq h, numAt_putN (putN q.1.toNat 2) (q.2 ++ X) q.2.length 2 2 (by decide) (putN_length _ _)]
  obtain ⟨c, s⟩ := q
  obtain ⟨h0, h1, h2, h3⟩ := check_yes h
  show s.length % 65536 = s.length
  omega

theorem tlv_data {q : T2} (h : checkT q = true) (X : List UInt8) : (tlvS q ++ X).drop 4 = q.2 ++ X := by
  rw [tlvS_eq h, ← List.append_assoc]
  exact List.drop_left' (by rw [List.length_append, putN_length, putN_length])

theorem getF_cons {q : T2} (h : checkT q = true) (X : List UInt8) (k : Nat) (acc : List T2) : getF (tlvS q ++ X) (k + 1) 0 acc = getF X k 0 (acc ++ [q]) := by
  have hl : (tlvS q ++ X).length = 4 + q.2.length + X.length := by rw [List.length_append, tlvS_length h]
  have he : q.2.length % 2 = 0 := (check_yes (c := q.1) (s := q.2) h).2.2.1
  rw [getF_more (by omega) (by omega) (by rw [tlv_len h]; omega) (by rw [tlv_len h]; exact he), tlv_len h, tlv_type h, show 0 + 4 = 4 from rfl, tlv_data h, List.take_left, getF_hop]
  congr 1
  rw [show tlvS q ++ X = tlvS q ++ X from rfl]
  exact List.drop_left' (by rw [tlvS_length h])

theorem getF_flat (X : List UInt8) (k : Nat) : ∀ (l acc : List T2), (∀ j (hj : j < l.length), checkT l[j] = true) → getF (flatT l ++ X) (l.length + k) 0 acc = getF X k 0 (acc ++ l)
  | [], acc, _ => by simp [flatT]
  | q :: l, acc, h => by
    have hq : checkT q = true := h 0 (by simp)
    have e : flatT (q :: l) ++ X = tlvS q ++ (flatT l ++ X) := by simp [flatT]
    rw [e, List.length_cons, show l.length + 1 + k = (l.length + k) + 1 by omega, getF_cons hq, getF_flat X k l (acc ++ [q]) (fun j hj => h (j + 1) (by simpa using hj)), List.append_assoc]
    rfl

/-- How many bytes the first n have. -/
def posT (l : List T2) (n : Nat) : Nat := (flatT (l.take n)).length

theorem posT_zero (l : List T2) : posT l 0 = 0 := by simp [posT, flatT]

theorem posT_succ {l : List T2} (h : ∀ j (hj : j < l.length), checkT l[j] = true) (n : Nat) (hn : n < l.length) : posT l (n + 1) = posT l n + 4 + (l[n]).2.length := by
  unfold posT
  rw [take_snoc l n hn, flatT_snoc, List.length_append, tlvS_length (h n hn)]
  omega

theorem posT_all (l : List T2) : posT l l.length = (flatT l).length := by unfold posT; rw [List.take_length]

theorem posT_le {l : List T2} (h : ∀ j (hj : j < l.length), checkT l[j] = true) : ∀ n, n ≤ l.length → posT l n ≤ 404 * n
  | 0, _ => by rw [posT_zero]; omega
  | n + 1, hn => by
    have h1 := posT_le h n (by omega)
    have h2 : (l[n]'(by omega)).2.length ≤ 400 := (check_yes (c := (l[n]'(by omega)).1) (s := (l[n]'(by omega)).2) (h n (by omega))).2.2.2
    rw [posT_succ h n (by omega)]
    omega

theorem flatT_app (a b : List T2) : flatT (a ++ b) = flatT a ++ flatT b := by simp [flatT]

theorem take_pos (l : List T2) (n K : Nat) (h : posT l n ≤ K) : (flatT l).take K = flatT (l.take n) ++ (flatT (l.drop n)).take (K - posT l n) := by
  have e : flatT l = flatT (l.take n) ++ flatT (l.drop n) := by rw [← flatT_app, List.take_append_drop]
  have hl : (flatT (l.take n)).length = posT l n := rfl
  conv => lhs; rw [e]
  rw [List.take_append, hl, List.take_of_length_le (by rw [hl]; exact h)]

/-- TLVs that are cut between two are those ahead. -/
theorem getT_between {l : List T2} (h8 : l.length ≤ 8) (h : ∀ j (hj : j < l.length), checkT l[j] = true) (n : Nat) (hn : n ≤ l.length) : getT ((flatT l).take (posT l n)) 0 = (l.take n, 0) := by
  rw [take_pos l n _ (Nat.le_refl _), Nat.sub_self, List.take_zero, List.append_nil]
  unfold getT
  rw [if_pos ⟨by decide, by omega⟩]
  have hlen : (l.take n).length = n := by rw [List.length_take]; omega
  have e := getF_flat [] (8 - n) (l.take n) [] (fun j hj => by rw [List.getElem_take]; exact h j (by omega))
  rw [hlen, List.append_nil, List.nil_append, show n + (8 - n) = 8 by omega] at e
  show getF (flatT (l.take n)) 8 0 [] = _
  rw [e, getF_end (by simp)]

theorem getT_flat {l : List T2} (h8 : l.length ≤ 8) (h : ∀ j (hj : j < l.length), checkT l[j] = true) : getT (flatT l) 0 = (l, 0) := by
  have e := getT_between h8 h l.length (Nat.le_refl _)
  rwa [posT_all, List.take_length, List.take_length] at e

/-- TLVs that stand behind bytes. -/
theorem getT_behind (b : List UInt8) {l : List T2} (h8 : l.length ≤ 8) (h : ∀ j (hj : j < l.length), checkT l[j] = true) : getT (b ++ flatT l) b.length = (l, 0) := by
  have e := getT_flat h8 h
  unfold getT at e ⊢
  rw [if_pos ⟨by omega, by rw [List.length_append]; omega⟩, Int.toNat_natCast, getF_hop, List.drop_left]
  rw [if_pos ⟨by decide, by omega⟩] at e
  exact e

/-- .. cut elsewhere they are none. -/
theorem getT_cut {l : List T2} (h8 : l.length ≤ 8) (h : ∀ j (hj : j < l.length), checkT l[j] = true) (n K : Nat) (hn : n < l.length) (h1 : posT l n < K) (h2 : K < posT l n + 4 + (l[n]).2.length) : getT ((flatT l).take K) 0 = ([], 2) := by
  rw [take_pos l n K (Nat.le_of_lt h1)]
  obtain ⟨m, hm⟩ : ∃ m, K - posT l n = m := ⟨_, rfl⟩
  rw [hm]
  unfold getT
  rw [if_pos ⟨by decide, by omega⟩]
  have hlen : (l.take n).length = n := by rw [List.length_take]; omega
  have e := getF_flat ((flatT (l.drop n)).take m) (8 - n) (l.take n) [] (fun j hj => by rw [List.getElem_take]; exact h j (by omega))
  rw [hlen, show n + (8 - n) = 8 by omega] at e
  show getF _ 8 0 [] = _
  rw [e]
  obtain ⟨k, hk⟩ : ∃ k, 8 - n = k + 1 := ⟨7 - n, by omega⟩
  rw [hk]
  have hq := h n hn
  have hd : flatT (l.drop n) = tlvS l[n] ++ flatT (l.drop (n + 1)) := by
    rw [List.drop_eq_getElem_cons hn]
    unfold flatT
    rw [List.flatMap_cons]
  rw [hd]
  generalize flatT (l.drop (n + 1)) = X
  generalize l[n] = q at *
  have hl := tlvS_length hq
  have hL : ((tlvS q ++ X).take m).length = m := by rw [List.length_take, List.length_append, hl]; omega
  by_cases h4 : m < 4
  · exact getF_short (by rw [hL]; omega) (by rw [hL]; omega)
  · have hx : numAt ((tlvS q ++ X).take m) 2 2 = q.2.length := by rw [numAt_take _ m 2 2 (by omega), tlv_len hq]
    exact getF_long (by rw [hL]; omega) (by rw [hL]; omega) (by rw [hL, hx]; omega)
end Go.Proofs.Ytohgpnlihfcecaa
