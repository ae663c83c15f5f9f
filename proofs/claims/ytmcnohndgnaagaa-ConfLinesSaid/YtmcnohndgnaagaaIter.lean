/- Range over a string: the iterator's block in whatever world; what a rune says of the bytes; lines and digits as they are gone through. -/
import Derived.Test.YtmcnohndgnaagaaLib
import Derived.Test.YtmcnohndgnaagaaConfSay
import Derived.Laws.RangeAny
namespace Go.Proofs.Ytmcnohndgnaagaa
open Go.RowKit Go.Proofs
set_option maxRecDepth 50000
set_option linter.unusedVariables false
set_option linter.unusedSimpArgs false

/-- An iterator's block. -/
def IterAt (w : World) (g : Nat) (s : List UInt8) (pos : Nat) : Prop := w.heap[g]? = some (.stringIter ⟨s.toArray⟩ pos)
def iset (w : World) (g : Nat) (s : List UInt8) (pos : Nat) : World := { w with heap := w.heap.setIfInBounds g (.stringIter ⟨s.toArray⟩ pos) }

theorem IterAt.new (w : World) (s : List UInt8) : IterAt (w.iter ⟨s.toArray⟩ 0) w.heap.size s 0 := World.iter_heap w _ 0
theorem iter_below (w : World) (s : ByteArray) (pos : Nat) : Below w.heap.size w (w.iter s pos) := bnew w _
theorem IterAt.lt {w : World} {g : Nat} {s : List UInt8} {pos : Nat} (h : IterAt w g s pos) : g < w.heap.size := (Array.getElem?_eq_some_iff.1 h).1
theorem IterAt.below {w w' : World} {g : Nat} {s : List UInt8} {pos : Nat} (h : IterAt w g s pos) (hb : Below w.heap.size w w') : IterAt w' g s pos := by
  unfold IterAt
  rw [hb.block g h.lt]
  exact h
theorem IterAt.set {w : World} {g : Nat} {s : List UInt8} {pos : Nat} (h : IterAt w g s pos) (pos' : Nat) : IterAt (iset w g s pos') g s pos' := by
  have hl := h.lt
  unfold IterAt iset
  simp [Array.getElem?_setIfInBounds, hl]
theorem iset_other (w : World) (g : Nat) (s : List UInt8) (pos k : Nat) (h : g ≠ k) : (iset w g s pos).heap[k]? = w.heap[k]? := by
  unfold iset
  simp only
  rw [Array.getElem?_setIfInBounds]
  rw [if_neg h]
theorem iset_size (w : World) (g : Nat) (s : List UInt8) (pos : Nat) : (iset w g s pos).heap.size = w.heap.size := by simp [iset]
theorem below_iset {B g : Nat} {w0 w : World} (hb : Below B w0 w) (hBg : B ≤ g) (s : List UInt8) (pos : Nat) : Below B w0 (iset w g s pos) :=
  hb.trans ⟨rfl, rfl, rfl, by rw [iset_size]; exact Nat.le_refl _, fun k hk => iset_other w g s pos k (by omega)⟩

/-- 'next' where the string isn't over; at its end. -/
theorem next_at {w : World} {g : Nat} {s : List UInt8} {pos : Nat} (hg : IterAt w g s pos) (ty : TypeId) (h : pos < s.length) :
    (Instr.next (.pointer (some ⟨g, 0, none⟩)) true ty).run Try.prog w =
      .ok (.tuple #[.bool true, .int .i64 pos, .int .i32 (Utf8.decode ⟨s.toArray⟩ pos).1]) (iset w g s (pos + (Utf8.decode ⟨s.toArray⟩ pos).2)) := by
  have hg' : w.heap[g]? = some (.stringIter ⟨s.toArray⟩ pos) := hg
  have hs : pos < (⟨s.toArray⟩ : ByteArray).size := h
  simp only [Instr.next, getObj, setObj, Sem.run_bind, Sem.run, hg', Result.andThen, hs, if_true]
  simp [goInt, iset]
theorem next_over {w : World} {g : Nat} {s : List UInt8} {pos : Nat} (hg : IterAt w g s pos) (ty : TypeId) (h : ¬ pos < s.length) :
    (Instr.next (.pointer (some ⟨g, 0, none⟩)) true ty).run Try.prog w = .ok (.tuple #[.bool false]) w := by
  have hg' : w.heap[g]? = some (.stringIter ⟨s.toArray⟩ pos) := hg
  have hs : ¬ pos < (⟨s.toArray⟩ : ByteArray).size := h
  simp [Instr.next, getObj, Sem.run, hg', hs]

theorem getB_at (s : List UInt8) (k : Nat) (h : k < s.length) : (⟨s.toArray⟩ : ByteArray).get! k = s[k] := by
  show (⟨s.toArray⟩ : ByteArray).get! k = _
  simp [ByteArray.get!, h]

/-- A rune below 128 is its byte. -/
theorem rune_low {s : List UInt8} {pos : Nat} (h : pos < s.length) (hl : s[pos].toNat < 128) : Utf8.decode ⟨s.toArray⟩ pos = (s[pos].toNat, 1) := by
  have e := decode_ascii ⟨s.toArray⟩ pos (by exact h) (by exact hl)
  exact e

/-- Another one is made of bytes from 128 on, all of them within the string. -/
theorem rune_high {s : List UInt8} {pos : Nat} (h : pos < s.length) (hl : 128 ≤ s[pos].toNat) :
    128 ≤ (Utf8.decode ⟨s.toArray⟩ pos).1 ∧ 1 ≤ (Utf8.decode ⟨s.toArray⟩ pos).2 ∧ pos + (Utf8.decode ⟨s.toArray⟩ pos).2 ≤ s.length ∧
      ∀ j (hj : j < s.length), pos ≤ j → j < pos + (Utf8.decode ⟨s.toArray⟩ pos).2 → 128 ≤ s[j].toNat := by
  have hd := decode_high ⟨s.toArray⟩ pos (by exact h) (by exact hl)
  refine ⟨hd.1, hd.2, ?_⟩
  have hsz : (⟨s.toArray⟩ : ByteArray).size = s.length := rfl
  have h0 : (⟨s.toArray⟩ : ByteArray).get! (pos + 0) = s[pos] := getB_at s pos h
  have key : ∀ m, (∀ k, k < m → 0 < k → pos + k < s.length ∧ ((⟨s.toArray⟩ : ByteArray).get! (pos + k)).toNat / 64 = 2) → 1 ≤ m → pos + m ≤ s.length ∧ ∀ j (hj : j < s.length), pos ≤ j → j < pos + m → 128 ≤ s[j].toNat := by
    intro m hm hm1
    refine ⟨?_, fun j hj hp hjm => ?_⟩
    · by_cases h1 : m = 1
      · omega
      · have := (hm (m - 1) (by omega) (by omega)).1
        omega
    · by_cases hjp : j = pos
      · subst hjp
        exact hl
      · obtain ⟨h3, h4⟩ := hm (j - pos) (by omega) (by omega)
        rw [show pos + (j - pos) = j by omega, getB_at s j hj] at h4
        omega
  have hn : ¬ s[pos].toNat < 128 := by omega
  simp only [Utf8.decode, h0, hn, if_false, hsz]
  repeat' split
  all_goals first
    | exact key 1 (fun k h1 h2 => absurd h1 (by omega)) (by omega)
    | (refine key 2 (fun k h1 h2 => ?_) (by omega); obtain rfl : k = 1 := by omega
       simp_all)
    | (refine key 3 (fun k h1 h2 => ?_) (by omega); rcases (by omega : k = 1 ∨ k = 2) with rfl | rfl <;> simp_all)
    | (refine key 4 (fun k h1 h2 => ?_) (by omega); rcases (by omega : k = 1 ∨ k = 2 ∨ k = 3) with rfl | rfl | rfl <;> simp_all)

/-- What is gone by at once: a byte below 128, or some from 128 on. -/
theorem rune_step {s : List UInt8} {pos : Nat} (h : pos < s.length) : ∃ (r k : Nat), Utf8.decode ⟨s.toArray⟩ pos = (r, k) ∧ 1 ≤ k ∧ pos + k ≤ s.length ∧ r ≤ 2147483647 ∧
    ((r < 128 ∧ k = 1 ∧ s[pos].toNat = r) ∨ (128 ≤ r ∧ ∀ j (hj : j < s.length), pos ≤ j → j < pos + k → 128 ≤ s[j].toNat)) := by
  have hle := decode_le ⟨s.toArray⟩ pos
  by_cases hl : s[pos].toNat < 128
  · have e := rune_low h hl
    rw [e] at hle
    exact ⟨_, _, e, Nat.le_refl _, h, hle, .inl ⟨hl, rfl, rfl⟩⟩
  · obtain ⟨h1, h2, h3, h4⟩ := rune_high h (by omega)
    exact ⟨_, _, rfl, h2, h3, hle, .inr ⟨h1, h4⟩⟩

/-- No byte 10 from a place on up to another one. -/
def NoTen (t : List UInt8) (a b : Nat) : Prop := ∀ j (hj : j < t.length), a ≤ j → j < b → t[j] ≠ 10
theorem NoTen.nil (t : List UInt8) (a : Nat) : NoTen t a a := fun j _ h1 h2 => absurd h1 (by omega)
theorem NoTen.step {t : List UInt8} {a b r k : Nat} (h : NoTen t a b) (hb : b < t.length) (hr : r ≠ 10)
    (hd : (r < 128 ∧ k = 1 ∧ t[b].toNat = r) ∨ (128 ≤ r ∧ ∀ j (hj : j < t.length), b ≤ j → j < b + k → 128 ≤ t[j].toNat)) : NoTen t a (b + k) := by
  intro j hj h1 h2
  by_cases hjb : j < b
  · exact h j hj h1 hjb
  · intro e
    rcases hd with ⟨-, rfl, h3⟩ | ⟨-, h3⟩
    · obtain rfl : j = b := by omega
      rw [e] at h3
      exact hr h3.symm
    · have := h3 j hj (by omega) h2
      rw [e] at this
      exact absurd this (by decide)

/-- A line that ends at b. -/
theorem split_line {t : List UInt8} {a b : Nat} (hab : a ≤ b) (hb : b < t.length) (hn : NoTen t a b) (h10 : t[b] = 10) :
    splitF (t.drop a) = (t.drop a).take (b - a) :: splitF (t.drop (b + 1)) := by
  have e : t.drop a = (t.drop a).take (b - a) ++ 10 :: t.drop (b + 1) := by
    conv => lhs; rw [← List.take_append_drop (b - a) (t.drop a)]
    rw [List.drop_drop, show a + (b - a) = b by omega, List.drop_eq_getElem_cons hb, h10]
  conv => lhs; rw [e]
  rw [splitF_ten, splitF_one]
  · rfl
  · intro x hx
    obtain ⟨i, hi, rfl⟩ := List.getElem_of_mem hx
    rw [List.length_take, List.length_drop] at hi
    rw [List.getElem_take, List.getElem_drop]
    exact hn _ (by omega) (by omega) (by omega)

/-- The last one. -/
theorem split_last {t : List UInt8} {a : Nat} (hn : NoTen t a t.length) : splitF (t.drop a) = [t.drop a] := by
  refine splitF_one fun x hx => ?_
  obtain ⟨i, hi, rfl⟩ := List.getElem_of_mem hx
  rw [List.length_drop] at hi
  rw [List.getElem_drop]
  exact hn _ (by omega) (by omega) (by omega)

/-- 's[a:b]' of a string. -/
theorem cut_str (s : List UInt8) (a b : Nat) (hab : a ≤ b) (hb : b ≤ s.length) : (⟨s.toArray⟩ : ByteArray).extract a b = ⟨((s.drop a).take (b - a)).toArray⟩ := by
  apply ByteArray.ext
  simp [ByteArray.data_extract]

/-- Digits that are gone by. -/
theorem valF_take {s : List UInt8} {k : Nat} (hk : k < s.length) : valF 0 (s.take (k + 1)) = valF 0 (s.take k) * 10 + (s[k].toNat - 48) := by
  rw [List.take_succ_eq_append_getElem hk, valF_append]
theorem digs_take {s : List UInt8} {k : Nat} (hk : k < s.length) (h : (s.take k).all digB = true) (hd : digB s[k] = true) : (s.take (k + 1)).all digB = true := by
  rw [List.take_succ_eq_append_getElem hk, List.all_append, h]
  simp [hd]
theorem digs_not {s : List UInt8} {k : Nat} (hk : k < s.length) (hd : digB s[k] = false) : s.all digB = false := by
  rw [List.all_eq_false]
  exact ⟨_, List.getElem_mem hk, by rw [hd]; simp⟩
theorem valF_lt (s : List UInt8) : s.all digB = true → ∀ (v n : Nat), s.length = n → valF v s < (v + 1) * 10 ^ n := by
  induction s with
  | nil =>
    intro _ v n hn
    subst hn
    show v < (v + 1) * 1
    omega
  | cons b t ih =>
    intro h v n hn
    rw [List.all_cons, Bool.and_eq_true] at h
    have hb : 48 ≤ b.toNat ∧ b.toNat ≤ 57 := of_decide_eq_true h.1
    cases n with
    | zero => cases hn
    | succ n =>
      have h1 := ih h.2 (v * 10 + (b.toNat - 48)) n (by rw [List.length_cons] at hn; omega)
      have h2 : v * 10 + (b.toNat - 48) + 1 ≤ (v + 1) * 10 := by omega
      have h3 := Nat.mul_le_mul_right (10 ^ n) h2
      have h4 : (v + 1) * 10 ^ (n + 1) = (v + 1) * 10 * 10 ^ n := by rw [Nat.pow_succ, Nat.mul_comm (10 ^ n) 10, Nat.mul_assoc]
      rw [h4]
      exact Nat.lt_of_lt_of_le h1 h3
end Go.Proofs.Ytmcnohndgnaagaa
