/- A timer, plainly (chapter 15), and the contracts of the program's own, whatever a timer looks like inside (gen_timlaws.py). -/
import Derived.Test.YtgmigoimhdlmcaaOnly
import Derived.Test.YtgmigoimhdlmcaaPlace
namespace Go.Proofs.Ytgmigoimhdlmcaa
open Go.RowKit Go.Proofs
set_option maxRecDepth 50000
set_option linter.unusedVariables false
set_option linter.unusedSimpArgs false

def clampT (x : Int) : Int := if x < 1 then 1 else if 1073741824 < x then 1073741824 else x
theorem clampT_in {x : Int} (h1 : 1 ≤ x) (h2 : x ≤ 1073741824) : clampT x = x := by
  unfold clampT
  rw [if_neg (by omega), if_neg (by omega)]
theorem clampT_range (x : Int) : 1 ≤ clampT x ∧ clampT x ≤ 1073741824 := by
  unfold clampT
  split
  · omega
  · split <;> omega
def tickT (n : Int) : Int := if n = 0 then 0 else n - 1
theorem tickT_zero : tickT 0 = 0 := rfl
theorem tickT_pos {n : Int} (h : n ≠ 0) : tickT n = n - 1 := if_neg h

/-- A timer stands at g, whatever it looks like inside (R says it). -/
def TAt (R : List Value → Int → Prop) (w : World) (g : Nat) (n : Int) : Prop := ∃ xs, Box w g xs 38 ∧ R xs n
variable {R : List Value → Int → Prop}
theorem TAt.lt {w : World} {g : Nat} {n : Int} (h : TAt R w g n) : g < w.heap.size := by
  obtain ⟨xs, hB, -⟩ := h
  exact hB.lt
theorem TAt.below {w w' : World} {g : Nat} {n : Int} (h : TAt R w g n) (hb : Below w.heap.size w w') : TAt R w' g n := by
  obtain ⟨xs, hB, hR⟩ := h
  exact ⟨xs, hB.below hb, hR⟩
theorem TAt.only {w w' : World} {g k : Nat} {n : Int} (h : TAt R w g n) (ho : Only k w w') (hk : g ≠ k) : TAt R w' g n := by
  obtain ⟨xs, hB, hR⟩ := h
  exact ⟨xs, hB.only ho hk, hR⟩
theorem TAt.setCell {w : World} {g : Nat} {n : Int} (h : TAt R w g n) {k : Nat} (hk : g ≠ k) (i : Nat) (v : Value) : TAt R (w.setCell ⟨k, i, none⟩ v) g n := by
  obtain ⟨xs, hB, hR⟩ := h
  exact ⟨xs, hB.other hk i v, hR⟩
def InT (n : Int) : Prop := 0 ≤ n ∧ n ≤ 1073741824

def CNewT (R : List Value → Int → Prop) : Prop := ∀ (w : World),
  Calls Try.prog 7 #[] w fun e w' => ∃ g, e = .returned (.pointer (some ⟨g, 0, none⟩)) ∧ w.heap.size ≤ g ∧ TAt R w' g 0 ∧ Below w.heap.size w w'
def CTickT (R : List Value → Int → Prop) : Prop := ∀ (g : Nat) (n : Int) (w : World), TAt R w g n → InT n →
  Calls Try.prog 12 #[.pointer (some ⟨g, 0, none⟩)] w fun e w' => e = .returned (.bool (n == 1)) ∧ TAt R w' g (tickT n) ∧ Only g w w'
def CStartT (R : List Value → Int → Prop) : Prop := ∀ (g : Nat) (n m : Int) (w : World), TAt R w g n →
  Calls Try.prog 9 #[.pointer (some ⟨g, 0, none⟩), .int .i64 m] w fun e w' => e = .returned (.tuple #[]) ∧ TAt R w' g (clampT m) ∧ Only g w w'
def CStopT (R : List Value → Int → Prop) : Prop := ∀ (g : Nat) (n : Int) (w : World), TAt R w g n →
  Calls Try.prog 11 #[.pointer (some ⟨g, 0, none⟩)] w fun e w' => e = .returned (.tuple #[]) ∧ TAt R w' g 0 ∧ Only g w w'
def CLeftT (R : List Value → Int → Prop) : Prop := ∀ (g : Nat) (n : Int) (w : World), TAt R w g n →
  Calls Try.prog 14 #[.pointer (some ⟨g, 0, none⟩)] w fun e w' => e = .returned (.int .i64 n) ∧ Below w.heap.size w w'
end Go.Proofs.Ytgmigoimhdlmcaa
