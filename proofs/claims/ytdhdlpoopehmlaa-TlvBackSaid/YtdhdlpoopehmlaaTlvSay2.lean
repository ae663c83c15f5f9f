/- What paths, managements and errors that are made say when they are read. -/
import Derived.Test.YtdhdlpoopehmlaaTlvSay
import Derived.Test.YtdhdlpoopehmlaaTlvOwn3
import Derived.Test.YtdhdlpoopehmlaaTlvOwn5
import Derived.Test.YtdhdlpoopehmlaaTlvRef8
namespace Go.Proofs.Ytdhdlpoopehmlaa
open Go.RowKit Go.Proofs
set_option linter.unusedVariables false
set_option linter.unusedSimpArgs false

theorem numAt_flatI : ∀ (zs : List Int) (j : Nat) (hj : j < zs.length), (∀ z ∈ zs, 0 ≤ z ∧ z < 18446744073709551616) → ((numAt (flatI zs) (8 * j) 8 : Nat) : Int) = zs[j]
  | z :: zs, 0, _, h => by
    have e : flatI (z :: zs) = [] ++ (putN z.toNat 8 ++ flatI zs) := by simp [flatI]
    have hz := h z (by simp)
    rw [e, numAt_putN [] (flatI zs) z.toNat 8 (8 * 0) (by decide) rfl]
    show ((z.toNat % 256 ^ 8 : Nat) : Int) = z
    rw [show (256 : Nat) ^ 8 = 18446744073709551616 from rfl]
    omega
  | z :: zs, j + 1, hj, h => by
    have e : flatI (z :: zs) = putN z.toNat 8 ++ flatI zs := by simp [flatI]
    have hl : (putN z.toNat 8).length = 8 := putN_length _ _
    have ih := numAt_flatI zs j (by simpa using hj) (fun x hx => h x (by simp [hx]))
    rw [e, show 8 * (j + 1) = 8 + 8 * j by omega, numAt_drop, List.drop_left' hl, ih]
    rfl

theorem idsOf_get (s : List UInt8) (k j : Nat) (h : j < (idsOf s k).length) : (idsOf s k)[j] = ((numAt s (8 * j) 8 : Nat) : Int) := by simp [idsOf]

/-- A path that is made is read. -/
theorem pathOfT_made (zs : List Int) (h16 : zs.length ≤ 16) (h : ∀ z ∈ zs, 0 ≤ z ∧ z < 18446744073709551616) : pathOfT (8, flatI zs) = (zs, true) := by
  have hl := flatI_length zs
  have hm : (flatI zs).length % 8 = 0 ∧ (flatI zs).length ≤ 128 := by omega
  unfold pathOfT
  rw [if_pos ⟨rfl, hm⟩, show (flatI zs).length / 8 = zs.length by omega]
  congr 1
  refine List.ext_getElem (by rw [idsOf_length]) fun j h1 h2 => ?_
  rw [idsOf_get]
  exact numAt_flatI zs j h2 h

theorem pathT_made (zs : List Int) (h16 : zs.length ≤ 16) : pathT zs = ((8, flatI zs), true) := if_pos h16

/-- What fills an odd number of bytes up. -/
def fillM (m : List UInt8) : List UInt8 := if m.length % 2 = 0 then [] else [0]

theorem manageT_made (k : Int) (m : List UInt8) (h0 : 0 ≤ k) (h1 : k ≤ 65535) (hm : m.length ≤ 398) : manageT k m = ((1, putN k.toNat 2 ++ (m ++ fillM m)), true) := by
  unfold manageT
  rw [if_pos ⟨⟨h0, h1⟩, hm⟩, putS2 k h0 h1, List.append_assoc]
  rfl

theorem manageOfT_made (k : Int) (m : List UInt8) (h0 : 0 ≤ k) (h1 : k ≤ 65535) : manageOfT (1, putN k.toNat 2 ++ (m ++ fillM m)) = (k.toNat, m ++ fillM m, true) := by
  have hl : (putN k.toNat 2).length = 2 := putN_length _ _
  unfold manageOfT
  rw [if_pos ⟨rfl, by show 2 ≤ (putN k.toNat 2 ++ (m ++ fillM m)).length; rw [List.length_append, hl]; omega⟩]
  have h2 := numAt_putN [] (m ++ fillM m) k.toNat 2 0 (by decide) rfl
  rw [List.nil_append] at h2
  show (numAt (putN k.toNat 2 ++ (m ++ fillM m)) 0 2, (putN k.toNat 2 ++ (m ++ fillM m)).drop 2, true) = _
  rw [h2, List.drop_left' hl, show (256 : Nat) ^ 2 = 65536 from rfl, show k.toNat % 65536 = k.toNat by omega]

theorem fillM_even (m : List UInt8) : (m ++ fillM m).length % 2 = 0 ∧ (m ++ fillM m).length ≤ m.length + 1 := by
  unfold fillM
  rw [List.length_append]
  split
  · simp only [List.length_nil]; omega
  · simp only [List.length_singleton]; omega

theorem checkT_made (k : Int) (m : List UInt8) (hm : m.length ≤ 397) : checkT (1, putN k.toNat 2 ++ (m ++ fillM m)) = true := by
  have hl : (putN k.toNat 2).length = 2 := putN_length _ _
  have h := fillM_even m
  have hL : (putN k.toNat 2 ++ (m ++ fillM m)).length = 2 + (m ++ fillM m).length := by rw [List.length_append, hl]
  unfold checkT
  simp only [hL, Bool.and_eq_true, decide_eq_true_eq]
  omega

theorem knownT_made (k : Int) (m : List UInt8) : knownT (1, putN k.toNat 2 ++ (m ++ fillM m)) = true := by
  have hl : (putN k.toNat 2).length = 2 := putN_length _ _
  show decide (2 ≤ (putN k.toNat 2 ++ (m ++ fillM m)).length) = true
  rw [decide_eq_true_eq, List.length_append, hl]
  omega

/-- An error that is made is read. -/
theorem faultOfT_made (k : Int) (h0 : 0 ≤ k) (h1 : k ≤ 65535) : ∃ L : List UInt8, L.length = 8 ∧ faultT k 7 = ((2, L), true) ∧ faultOfT (2, L) = (k.toNat, 7, true) := by
  have hl : (putN k.toNat 2).length = 2 := putN_length _ _
  refine ⟨putN k.toNat 2 ++ [0, 7, 0, 0, 0, 0], by rw [List.length_append, hl]; rfl, ?_, ?_⟩
  · unfold faultT
    rw [if_pos ⟨⟨h0, h1⟩, by decide⟩, putS2 k h0 h1]
    rfl
  · unfold faultOfT
    rw [if_pos ⟨rfl, by show 8 ≤ (putN k.toNat 2 ++ [0, 7, 0, 0, 0, 0]).length; rw [List.length_append, hl]; decide⟩]
    have h2 := numAt_putN [] [0, 7, 0, 0, 0, 0] k.toNat 2 0 (by decide) rfl
    rw [List.nil_append] at h2
    have h3 : numAt (putN k.toNat 2 ++ [0, 7, 0, 0, 0, 0]) 2 2 = 7 := by
      rw [show (2 : Nat) = 2 + 0 from rfl, numAt_drop, List.drop_left' (show (putN k.toNat (2 + 0)).length = 2 from putN_length _ _)]
      rfl
    show (numAt (putN k.toNat 2 ++ [0, 7, 0, 0, 0, 0]) 0 2, numAt (putN k.toNat 2 ++ [0, 7, 0, 0, 0, 0]) 2 2, true) = _
    rw [h2, h3, show (256 : Nat) ^ 2 = 65536 from rfl, show k.toNat % 65536 = k.toNat by omega]

/-- TLVs that stand behind bytes. -/
theorem getT_behind (b : List UInt8) {l : List T2} (h8 : l.length ≤ 8) (h : ∀ j (hj : j < l.length), checkT l[j] = true) : getT (b ++ flatT l) b.length = (l, 0) := by
  have e := getT_flat h8 h
  unfold getT at e ⊢
  rw [if_pos ⟨by omega, by rw [List.length_append]; omega⟩, Int.toNat_natCast, getF_hop, List.drop_left]
  rw [if_pos ⟨by decide, by omega⟩] at e
  exact e
end Go.Proofs.Ytdhdlpoopehmlaa
