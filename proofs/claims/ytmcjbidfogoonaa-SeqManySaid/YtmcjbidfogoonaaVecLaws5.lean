/- CompareWins, from contracts of the program's own. -/
import Derived.Test.YtmcjbidfogoonaaVecLaws0
import Derived.Test.YtmcjbidfogoonaaVecRow
import Derived.Test.YtmcjbidfogoonaaVecBest
namespace Go.Proofs.Ytmcjbidfogoonaa
open Go.RowKit Go.Proofs
set_option maxRecDepth 50000
set_option linter.unusedVariables false
set_option linter.unusedSimpArgs false

def shG (a : Vc) (i : Nat) : Vc := { a with gr := (a.gr * 256 + i) % 18446744073709551616 }
/-- The first j are shifted. -/
def shN (l : List Vc) (j : Nat) : List Vc := l.mapIdx fun i a => if i < j then shG a i else a
theorem shN_length (l : List Vc) (j : Nat) : (shN l j).length = l.length := by simp [shN]
theorem shN_zero (l : List Vc) : shN l 0 = l := by
  apply List.ext_getElem (by simp [shN])
  intro i h1 h2
  simp [shN]
theorem shN_get (l : List Vc) (j i : Nat) (h : i < l.length) : (shN l j)[i]'(by rw [shN_length]; exact h) = if i < j then shG l[i] i else l[i] := by simp [shN]
theorem shN_step (l : List Vc) (j : Nat) (h : j < l.length) : (shN l j).set j (shG l[j] j) = shN l (j + 1) := by
  apply List.ext_getElem (by simp [shN])
  intro i h1 h2
  have hi : i < l.length := by simpa [shN] using h2
  rw [List.getElem_set]
  rw [shN_get l (j + 1) i hi]
  by_cases e : j = i
  · subst e
    rw [if_pos rfl, if_pos (by omega)]
  · rw [if_neg e, shN_get l j i hi]
    by_cases e2 : i < j
    · rw [if_pos e2, if_pos (by omega)]
    · rw [if_neg e2, if_neg (by omega)]
theorem shG_in {a : Vc} (h : VcIn a) (i : Nat) : VcIn (shG a i) := by
  obtain ⟨y1, y2, y3, y4, y5, y6, y7⟩ := h
  exact ⟨y1, y2, y3, y4, y5, by unfold U64 shG; simp only; omega, y7⟩
theorem shN_in {l : List Vc} (h : ∀ a ∈ l, VcIn a) (j : Nat) : ∀ a ∈ shN l j, VcIn a := by
  intro a ha
  obtain ⟨i, hi, rfl⟩ := List.getElem_of_mem ha
  rw [shN_length] at hi
  rw [shN_get l j i hi]
  split
  · exact shG_in (h _ (List.getElem_mem hi)) i
  · exact h _ (List.getElem_mem hi)

theorem wrap_u64_eq (z : Int) : IntKind.u64.wrap z = z % 18446744073709551616 := by
  simp [IntKind.wrap, IntKind.bits, IntKind.signed]
/-- Of the shifted ones the best is better than each other one. -/
theorem shifted_wins {l : List Vc} (hl : l.length ≤ 30) : ∀ i : Nat, i < l.length → (i : Int) ≠ bestG (shN l l.length) l.length → compV (vat (shN l l.length) (bestG (shN l l.length) l.length)) (vat (shN l l.length) i) = -2 := by
  intro i hi hne
  have hlen := shN_length l l.length
  refine bestG_wins (shN l l.length) ?_ l.length (by omega) (by omega) i hi hne
  intro a b ha hb hab
  rw [hlen] at ha hb
  refine grand_unlike ?_
  rw [vat_get _ a (by omega), vat_get _ b (by omega), shN_get l l.length a ha, shN_get l l.length b hb, if_pos ha, if_pos hb]
  exact shifted_unlike _ _ a b (by omega) (by omega) hab


end Go.Proofs.Ytmcjbidfogoonaa
