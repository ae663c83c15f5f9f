/- Of what was there, one block alone may turn (a call that writes through a pointer). -/
import Derived.Test.YtehnhkjeijbliaaPerm
namespace Go.Proofs.Ytehnhkjeijbliaa
open Go.RowKit Go.Proofs
set_option maxRecDepth 50000
set_option linter.unusedVariables false
set_option linter.unusedSimpArgs false

structure Only (g : Nat) (w w' : World) : Prop where
  os : w'.os = w.os
  tape : w'.tape = w.tape
  output : w'.output = w.output
  size : w.heap.size ≤ w'.heap.size
  block : ∀ k, k < w.heap.size → k ≠ g → w'.heap[k]? = w.heap[k]?

theorem Only.refl (g : Nat) (w : World) : Only g w w := ⟨rfl, rfl, rfl, Nat.le_refl _, fun _ _ _ => rfl⟩
theorem Only.trans {g : Nat} {a b c : World} (h : Only g a b) (k : Only g b c) : Only g a c :=
  ⟨k.os.trans h.os, k.tape.trans h.tape, k.output.trans h.output, Nat.le_trans h.size k.size, fun i hi hg => (k.block i (Nat.lt_of_lt_of_le hi h.size) hg).trans (h.block i hi hg)⟩
theorem Only.of_below {w w' : World} (g : Nat) (h : Below w.heap.size w w') : Only g w w' := ⟨h.os, h.tape, h.output, h.size, fun k hk _ => h.block k hk⟩
theorem Only.next {g : Nat} {a b c : World} (h : Only g a b) (k : Below b.heap.size b c) : Only g a c := h.trans (Only.of_below g k)
/-- What lies under a bound that the block isn't under stays. -/
theorem Only.below {g B : Nat} {a b c : World} (h : Below B a b) (k : Only g b c) (hB : B ≤ g) (hs : B ≤ b.heap.size) : Below B a c :=
  h.trans ⟨k.os, k.tape, k.output, k.size, fun i hi => k.block i (by omega) (by omega)⟩
theorem Only.row {g : Nat} {w w' : World} (h : Only g w w') (cs : Array Value) : Only g w (w'.setRow g cs) :=
  h.trans ⟨rfl, rfl, rfl, by simp [World.setRow], fun k hk hg => setRow_other w' g k cs hg⟩
theorem Only.row_new {g k : Nat} {w w' : World} (h : Only g w w') (hk : w.heap.size ≤ k) (cs : Array Value) : Only g w (w'.setRow k cs) :=
  ⟨h.os, h.tape, h.output, by simpa [World.setRow] using h.size, fun i hi hg => (setRow_other w' k i cs (by omega)).trans (h.block i hi hg)⟩
theorem Only.cell {g : Nat} {w w' : World} (h : Only g w w') (i : Nat) (v : Value) : Only g w (w'.setCell ⟨g, i, none⟩ v) := by
  have h2 := (Below.refl 0 w').setCell (p := ⟨g, i, none⟩) (Nat.zero_le _) v
  exact h.trans ⟨h2.os, h2.tape, h2.output, h2.size, fun k hk hg => heap_setCell_other w' _ k v hg⟩
theorem Only.cells {g : Nat} {w : World} : ∀ (vs : List Value) (o : Nat) (w' : World), Only g w w' → Only g w (w'.setCells g o vs)
  | [], _, _, h => h
  | v :: r, o, w', h => Only.cells r (o + 1) _ (h.cell o v)
theorem Box.only {w w' : World} {g k : Nat} {xs : List Value} {t : TypeId} (h : Box w k xs t) (ho : Only g w w') (hk : k ≠ g) : Box w' k xs t := by
  unfold Box
  rw [ho.block k h.lt hk]
  exact h
end Go.Proofs.Ytehnhkjeijbliaa
