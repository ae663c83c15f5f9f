/- Plain facts for the law HeaderIgnores: bytes that say nothing. -/
import Derived.Test.YtomfpmoglamflaaHeadAwake
import Derived.Test.YtomfpmoglamflaaHeadSay
import Derived.Laws.BitsAllLaws
namespace Go.Proofs.Ytomfpmoglamflaa
open Go.RowKit Go.Proofs
set_option linter.unusedVariables false
set_option linter.unusedSimpArgs false

theorem numAt_set_out (l : List UInt8) (i A n : Nat) (c : UInt8) (h : i < A ∨ A + n ≤ i) : numAt (l.set i c) A n = numAt l A n := by
  unfold numAt
  congr 1
  apply List.ext_getElem
  · simp
  · intro j h1 h2
    simp only [List.length_take, List.length_drop, List.length_set] at h1
    simp only [List.getElem_take, List.getElem_drop]
    rw [List.getElem_set_ne (by omega)]

theorem numAt_set_in (l : List UInt8) (i : Nat) (c : UInt8) (h : i < l.length) : numAt (l.set i c) i 1 = c.toNat := by
  unfold numAt
  rw [List.drop_eq_getElem_cons (by simpa using h), List.getElem_set_self]
  unfold num
  have := c.toNat_lt
  simp only [List.take_succ_cons, List.take_zero, List.foldl_cons, List.foldl_nil]
  omega

/-- The second byte anew, and those that say nothing. -/
def ign (l : List UInt8) (x a b c : UInt8) : List UInt8 := ((((l.set 1 x).set 5 a).set 16 b).set 19 c).set 32 a

theorem ign_length (l : List UInt8) (x a b c : UInt8) : (ign l x a b c).length = l.length := by simp [ign]

theorem ign_out (l : List UInt8) (x a b c : UInt8) (A n : Nat) (h1 : 1 < A ∨ A + n ≤ 1) (h5 : 5 < A ∨ A + n ≤ 5) (h16 : 16 < A ∨ A + n ≤ 16) (h19 : 19 < A ∨ A + n ≤ 19) (h32 : 32 < A ∨ A + n ≤ 32) : numAt (ign l x a b c) A n = numAt l A n := by
  unfold ign
  rw [numAt_set_out _ _ _ _ _ h32, numAt_set_out _ _ _ _ _ h19, numAt_set_out _ _ _ _ _ h16, numAt_set_out _ _ _ _ _ h5, numAt_set_out _ _ _ _ _ h1]

theorem ign_second (l : List UInt8) (x a b c : UInt8) (h : 1 < l.length) : numAt (ign l x a b c) 1 1 = x.toNat := by
  unfold ign
  rw [numAt_set_out _ _ _ _ _ (by omega), numAt_set_out _ _ _ _ _ (by omega), numAt_set_out _ _ _ _ _ (by omega), numAt_set_out _ _ _ _ _ (by omega), numAt_set_in _ _ _ h]

theorem ign_got (l : List UInt8) (x a b c : UInt8) : gotH (ign l x a b c) = gotH l ∧ lenOf (ign l x a b c) = lenOf l := by
  constructor
  · unfold gotH signedAt
    rw [ign_out _ _ _ _ _ 0 1 (by omega) (by omega) (by omega) (by omega) (by omega), ign_out _ _ _ _ _ 4 1 (by omega) (by omega) (by omega) (by omega) (by omega), ign_out _ _ _ _ _ 6 2 (by omega) (by omega) (by omega) (by omega) (by omega),
      ign_out _ _ _ _ _ 8 8 (by omega) (by omega) (by omega) (by omega) (by omega), ign_out _ _ _ _ _ 20 8 (by omega) (by omega) (by omega) (by omega) (by omega), ign_out _ _ _ _ _ 28 2 (by omega) (by omega) (by omega) (by omega) (by omega),
      ign_out _ _ _ _ _ 30 2 (by omega) (by omega) (by omega) (by omega) (by omega), ign_out _ _ _ _ _ 33 1 (by omega) (by omega) (by omega) (by omega) (by omega)]
  · unfold lenOf
    rw [ign_out _ _ _ _ _ 2 2 (by omega) (by omega) (by omega) (by omega) (by omega)]

/-- What is got of a header with another second byte. -/
theorem ign_get (h : Hd) (hok : HdOk h) (hp : putB h 34 = true) (x a b c : UInt8) :
    getE (ign (headS h 34) x a b c) = (if (x.toNat : Int) % 16 = 2 then 0 else 4) ∧ ((x.toNat : Int) % 16 = 2 → getH (ign (headS h 34) x a b c) = h) := by
  obtain ⟨e1, e2, e3⟩ := head_got h 34 [] hok hp
  rw [List.append_nil] at e1 e2 e3
  have hl := headS_length h 34
  have hl' : (ign (headS h 34) x a b c).length = 34 := by rw [ign_length, hl]
  obtain ⟨g1, g2⟩ := ign_got (headS h 34) x a b c
  have b0 := ign_out (headS h 34) x a b c 0 1 (by omega) (by omega) (by omega) (by omega) (by omega)
  have b1 := ign_second (headS h 34) x a b c (by omega)
  have hb : badB (ign (headS h 34) x a b c) = !decide ((x.toNat : Int) % 16 = 2) := by
    have e3' := e3
    unfold badB at e3' ⊢
    rw [g2, b0, b1]
    simp only [Bool.or_eq_false_iff] at e3'
    rw [e3'.1.1, e3'.2]
    simp
  by_cases hx : (x.toNat : Int) % 16 = 2
  · rw [decide_eq_true hx] at hb
    have he : getE (ign (headS h 34) x a b c) = 0 := getE_ok (by omega) hb (by rw [g2, e2, hl']; rfl)
    rw [if_pos hx]
    exact ⟨he, fun _ => by rw [(get_some he).2, g1, e1]⟩
  · rw [decide_eq_false hx] at hb
    rw [if_neg hx]
    exact ⟨getE_bad (by omega) hb, fun h => absurd h hx⟩

/-- A first byte that is no type. -/
theorem no_type (l : List UInt8) (x : UInt8) (hl : l.length = 34) (hx : 4 ≤ x.toNat ∧ x.toNat ≤ 7) : getE (l.set 0 x) = 4 := by
  refine getE_bad (by simp; omega) ?_
  unfold badB
  rw [numAt_set_in _ _ _ (by omega)]
  have : knownB ((x.toNat : Nat) : Int) = false := by unfold knownB; rw [decide_eq_false_iff_not]; omega
  rw [this]
  rfl

theorem own_lt {w : World} {base g cap n : Nat} {l : List UInt8} (h : Own w base (.slice (some ⟨g, 0, none⟩) n cap) l) : g < w.heap.size := (World.ownsRow.lt h g rfl).2

theorem low4 : ∀ n : Nat, n < 256 → ((n &&& 240) ||| 2) % 16 = 2 ∧ ((n &&& 240) ||| 2) < 256 ∧ (n &&& 15) = n % 16 ∧ (n &&& 240) < 256 := by decide +kernel

end Go.Proofs.Ytomfpmoglamflaa
