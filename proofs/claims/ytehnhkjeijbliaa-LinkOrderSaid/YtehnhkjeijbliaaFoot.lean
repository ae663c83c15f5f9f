/- Objects of any number of blocks: what they own (a footprint), what a call on one leaves as it was. -/
import Derived.Test.YtehnhkjeijbliaaOnly
namespace Go.Proofs.Ytehnhkjeijbliaa
open Go.RowKit Go.Proofs
set_option maxRecDepth 50000
set_option linter.unusedVariables false
set_option linter.unusedSimpArgs false

/-- Of what was there, only blocks of F may have turned. -/
structure Chg (F : Nat → Prop) (w w' : World) : Prop where
  os : w'.os = w.os
  tape : w'.tape = w.tape
  output : w'.output = w.output
  size : w.heap.size ≤ w'.heap.size
  block : ∀ k, k < w.heap.size → ¬ F k → w'.heap[k]? = w.heap[k]?
theorem Chg.refl (F : Nat → Prop) (w : World) : Chg F w w := ⟨rfl, rfl, rfl, Nat.le_refl _, fun _ _ _ => rfl⟩
theorem Chg.of_below {F : Nat → Prop} {w w' : World} (h : Below w.heap.size w w') : Chg F w w' := ⟨h.os, h.tape, h.output, h.size, fun k hk _ => h.block k hk⟩
theorem Chg.of_only {F : Nat → Prop} {g : Nat} {w w' : World} (h : Only g w w') (hg : F g) : Chg F w w' := ⟨h.os, h.tape, h.output, h.size, fun k hk hF => h.block k hk (fun e => hF (e ▸ hg))⟩
theorem Chg.trans {F G : Nat → Prop} {a b c : World} (h : Chg F a b) (k : Chg G b c) (hG : ∀ i, G i → F i ∨ a.heap.size ≤ i) : Chg F a c :=
  ⟨k.os.trans h.os, k.tape.trans h.tape, k.output.trans h.output, Nat.le_trans h.size k.size, fun i hi hF => (k.block i (Nat.lt_of_lt_of_le hi h.size) (fun hg => by rcases hG i hg with h | h; exact hF h; omega)).trans (h.block i hi hF)⟩
theorem Chg.mono {F G : Nat → Prop} {w w' : World} (h : Chg F w w') (hG : ∀ i, i < w.heap.size → F i → G i) : Chg G w w' := ⟨h.os, h.tape, h.output, h.size, fun k hk hk2 => h.block k hk (fun hF => hk2 (hG k hk hF))⟩
theorem Chg.below {F : Nat → Prop} {B : Nat} {a b c : World} (h : Below B a b) (k : Chg F b c) (hF : ∀ i, F i → B ≤ i) (hs : B ≤ b.heap.size) : Below B a c :=
  h.trans ⟨k.os, k.tape, k.output, k.size, fun i hi => k.block i (by omega) (fun hf => by have := hF i hf; omega)⟩
theorem Chg.only {g : Nat} {w w' : World} (h : Chg (fun k => k = g) w w') : Only g w w' := ⟨h.os, h.tape, h.output, h.size, fun k hk hne => h.block k hk hne⟩

/-- An object at a pointer, with what it owns, and what it says. -/
structure Ob (σ : Type) where
  rel : World → Nat → (Nat → Prop) → σ → Prop
  lt : ∀ {w : World} {g : Nat} {F : Nat → Prop} {s : σ}, rel w g F s → ∀ k, F k → k < w.heap.size
  keep : ∀ {w w' : World} {g : Nat} {F : Nat → Prop} {s : σ}, rel w g F s → (∀ k, F k → w'.heap[k]? = w.heap[k]?) → rel w' g F s
variable {σ : Type} {O : Ob σ} {w w' w0 : World} {g B : Nat} {F G : Nat → Prop} {s s' : σ}
theorem Ob.below (h : O.rel w g F s) (hb : Below w.heap.size w w') : O.rel w' g F s := O.keep h fun k hk => hb.block k (O.lt h k hk)
theorem Ob.chg (h : O.rel w g F s) (hc : Chg G w w') (hd : ∀ k, F k → ¬ G k) : O.rel w' g F s := O.keep h fun k hk => hc.block k (O.lt h k hk) (hd k hk)
/-- What a call on the object does: it says s' then; of what was there only what it owned may have turned; what it owns more is new. -/
def Ob.Goes (O : Ob σ) (w : World) (F : Nat → Prop) (w' : World) (g : Nat) (s' : σ) : Prop := ∃ F', (∀ k, F' k → F k ∨ w.heap.size ≤ k) ∧ O.rel w' g F' s' ∧ Chg F w w'
/-- All that the object owns is younger than a bound. -/
def Ob.At (O : Ob σ) (B : Nat) (w : World) (g : Nat) (s : σ) : Prop := ∃ F, (∀ k, F k → B ≤ k) ∧ O.rel w g F s
theorem Ob.At.below (h : O.At B w g s) (hb : Below w.heap.size w w') : O.At B w' g s := by
  obtain ⟨F, hF, hr⟩ := h
  exact ⟨F, hF, Ob.below hr hb⟩
/-- A call on an object that is younger than the walk's beginning. -/
theorem Ob.lift {P : Program} {f : FuncId} {args : Array Value} {E : Ending → Prop} (hL : O.At w0.heap.size w g s) (hb : Below w0.heap.size w0 w)
    (h : ∀ F, O.rel w g F s → Calls P f args w (fun e w' => E e ∧ O.Goes w F w' g s')) :
    Calls P f args w (fun e w' => E e ∧ O.At w0.heap.size w' g s' ∧ Below w0.heap.size w0 w') := by
  obtain ⟨F, hF, hr⟩ := hL
  refine (h F hr).mono ?_
  rintro e w' ⟨he, F', hF', hr', hc⟩
  refine ⟨he, ⟨F', fun k hk => ?_, hr'⟩, Chg.below hb hc hF hb.size⟩
  rcases hF' k hk with h1 | h1
  · exact hF k h1
  · exact Nat.le_trans hb.size h1
end Go.Proofs.Ytehnhkjeijbliaa
