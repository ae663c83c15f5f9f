/- An object behind a pointer, whatever it looks like inside: one block of its type, and a relation R says what its cells mean. -/
import Derived.Test.YtehnhkjeijbliaaOnly
import Derived.Test.YtehnhkjeijbliaaRowKeep
namespace Go.Proofs.Ytehnhkjeijbliaa
open Go.RowKit Go.Proofs
set_option maxRecDepth 50000
set_option linter.unusedVariables false
set_option linter.unusedSimpArgs false

def ObAt {σ : Type} (T : TypeId) (R : List Value → σ → Prop) (w : World) (g : Nat) (s : σ) : Prop := ∃ xs, Box w g xs T ∧ R xs s
variable {σ : Type} {T : TypeId} {R : List Value → σ → Prop} {w w' : World} {g k : Nat} {s : σ}
theorem ObAt.lt (h : ObAt T R w g s) : g < w.heap.size := by
  obtain ⟨xs, hB, -⟩ := h
  exact hB.lt
theorem ObAt.below (h : ObAt T R w g s) (hb : Below w.heap.size w w') : ObAt T R w' g s := by
  obtain ⟨xs, hB, hR⟩ := h
  exact ⟨xs, hB.below hb, hR⟩
theorem ObAt.only (h : ObAt T R w g s) (ho : Only k w w') (hk : g ≠ k) : ObAt T R w' g s := by
  obtain ⟨xs, hB, hR⟩ := h
  exact ⟨xs, hB.only ho hk, hR⟩
theorem ObAt.setCell (h : ObAt T R w g s) (hk : g ≠ k) (i : Nat) (v : Value) : ObAt T R (w.setCell ⟨k, i, none⟩ v) g s := by
  obtain ⟨xs, hB, hR⟩ := h
  exact ⟨xs, hB.other hk i v, hR⟩
theorem ObAt.row (h : ObAt T R w g s) (hk : g ≠ k) (ys : Array Value) : ObAt T R (w.setRow k ys) g s := by
  obtain ⟨xs, hB, hR⟩ := h
  unfold Box at hB
  exact ⟨xs, by unfold Box; rw [setRow_other w k g ys hk]; exact hB, hR⟩
theorem ObAt.kept {t : TypeId} (h : ObAt T R w g s) (hk : KeptBut t w w') (ht : T ≠ t) : ObAt T R w' g s := by
  obtain ⟨xs, hB, hR⟩ := h
  exact ⟨xs, hB.kept hk ht, hR⟩
theorem ObAt.mono {R' : List Value → σ → Prop} (h : ObAt T R w g s) (hR : ∀ xs, R xs s → R' xs s) : ObAt T R' w g s := by
  obtain ⟨xs, hB, h1⟩ := h
  exact ⟨xs, hB, hR xs h1⟩
/-- A call that turned this object alone: what lies under a bound below it stays. -/
theorem Only.under {B : Nat} {a b c : World} (h : Below B a b) (k : Only g b c) (hB : B ≤ g) (hs : B ≤ b.heap.size) : Below B a c := Only.below h k hB hs
end Go.Proofs.Ytehnhkjeijbliaa
