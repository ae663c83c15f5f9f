/- CompareWins, from contracts of the program's own. -/
import Derived.Test.YtclpblhjfaodbaaVecLaws0
import Derived.Test.YtclpblhjfaodbaaVecRow
import Derived.Test.YtclpblhjfaodbaaVecBest
namespace Go.Proofs.Ytclpblhjfaodbaa
open Go.RowKit Go.Proofs
set_option maxRecDepth 50000
set_option linter.unusedVariables false
set_option linter.unusedSimpArgs false

def CBest : Prop := ∀ (v : Value) (l : List Vc) (w : World), vecK.Reads w v l → l.length ≤ 40 → (∀ a ∈ l, VcIn a) →
  Calls Try.prog 23 #[v] w fun e w' => e = .returned (.int .i64 (bestG l l.length)) ∧ Below w.heap.size w w'
theorem CBest.none (h : CBest) : CNone := fun w => h _ [] w (RowK.Reads.nil vecK w) (by decide) (by simp)

def shG (a : Vc) (i : Nat) : Vc := { a with gr := (a.gr * 256 + i) % 18446744073709551616 }
/-- The first j are shifted. -/
def shN (l : List Vc) (j : Nat) : List Vc := l.mapIdx fun i a => if i < j then shG a i else a
theorem shN_length (l : List Vc) (j : Nat) : (shN l j).length = l.length := by simp [shN]
theorem shN_zero (l : List Vc) : shN l 0 = l := by
  apply List.ext_getElem (by simp [shN])
  intro i h1 h2
  simp [shN]
theorem shN_get (l : List Vc) (j i : Nat) (h : i < l.length) : (shN l j)[i]'(by rw [shN_length]; exact h) = if i < j then shG l[i] i else l[i] := by simp [shN]
theorem shN_step (l : List Vc) (j : Nat) (h : j < l.length) : (shN l j).set j (shG l[j] j) = shN l (j + 1) := by
  apply List.ext_getElem (by simp [shN])
  intro i h1 h2
  have hi : i < l.length := by simpa [shN] using h2
  rw [List.getElem_set]
  rw [shN_get l (j + 1) i hi]
  by_cases e : j = i
  · subst e
    rw [if_pos rfl, if_pos (by omega)]
  · rw [if_neg e, shN_get l j i hi]
    by_cases e2 : i < j
    · rw [if_pos e2, if_pos (by omega)]
    · rw [if_neg e2, if_neg (by omega)]
theorem shG_in {a : Vc} (h : VcIn a) (i : Nat) : VcIn (shG a i) := by
  obtain ⟨y1, y2, y3, y4, y5, y6, y7⟩ := h
  exact ⟨y1, y2, y3, y4, y5, by unfold U64 shG; simp only; omega, y7⟩
theorem shN_in {l : List Vc} (h : ∀ a ∈ l, VcIn a) (j : Nat) : ∀ a ∈ shN l j, VcIn a := by
  intro a ha
  obtain ⟨i, hi, rfl⟩ := List.getElem_of_mem ha
  rw [shN_length] at hi
  rw [shN_get l j i hi]
  split
  · exact shG_in (h _ (List.getElem_mem hi)) i
  · exact h _ (List.getElem_mem hi)

theorem exec_load_vec_at {op : Oper} {a : Act} {w : World} (x : Operand) (ho : op.op = .load 28 x) (g off : Nat) (hx : a.eval x = .pointer (some ⟨g, off, none⟩)) (c : Vc) (hR : w.rangeAt g off (vcL c)) :
    (execOp a.eval op).run Try.prog w = .ok (.value (.agg (vcL c).toArray)) w := by
  unfold execOp
  have h := run_loadAt_mid w g off 28 (vcL c) _ hR Try.underlying28 rfl (by rw [info_vec, vcL_length])
  simp only [ho, hx, Sem.run_bind, h, Result.andThen_ok, Sem.run_pure]

theorem wrap_u64_eq (z : Int) : IntKind.u64.wrap z = z % 18446744073709551616 := by
  simp [IntKind.wrap, IntKind.bits, IntKind.signed]
/-- Of the shifted ones the best is better than each other one. -/
theorem shifted_wins {l : List Vc} (hl : l.length ≤ 30) : ∀ i : Nat, i < l.length → (i : Int) ≠ bestG (shN l l.length) l.length → compV (vat (shN l l.length) (bestG (shN l l.length) l.length)) (vat (shN l l.length) i) = -2 := by
  intro i hi hne
  have hlen := shN_length l l.length
  refine bestG_wins (shN l l.length) ?_ l.length (by omega) (by omega) i hi hne
  intro a b ha hb hab
  rw [hlen] at ha hb
  refine grand_unlike ?_
  rw [vat_get _ a (by omega), vat_get _ b (by omega), shN_get l l.length a ha, shN_get l l.length b hb, if_pos ha, if_pos hb]
  exact shifted_unlike _ _ a b (by omega) (by omega) hab

theorem hB_none (h : CBest) : CNone := h.none

end Go.Proofs.Ytclpblhjfaodbaa
