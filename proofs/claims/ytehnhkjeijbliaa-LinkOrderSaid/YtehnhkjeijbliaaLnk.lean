/- A segment (chapter 25): plainly, and the contracts, whatever it looks like inside (gen_lnklaws.py). -/
import Derived.Test.YtehnhkjeijbliaaFoot
import Derived.Test.YtehnhkjeijbliaaPlace
namespace Go.Proofs.Ytehnhkjeijbliaa
open Go.RowKit Go.Proofs
set_option maxRecDepth 50000
set_option linter.unusedVariables false
set_option linter.unusedSimpArgs false

structure Lz where
  q : List (Int × ByteArray)
  lost : Int
def nilF : Int × ByteArray := (0, ⟨#[]⟩)
def atL (s : Lz) (i : Int) : Int × ByteArray := s.q.getD i.toNat nilF
def isL (s : Lz) (i : Int) : Bool := decide (0 ≤ i ∧ i < s.q.length)
def lookL (s : Lz) (i : Int) : Int × ByteArray := if isL s i then atL s i else nilF
def putE (s : Lz) (b : ByteArray) : Int := if 400 < b.size then 3 else if 64 ≤ s.q.length then 7 else 0
def putL' (s : Lz) (f : Int) (b : ByteArray) : Lz := if 400 < b.size then s else if 64 ≤ s.q.length then { s with lost := s.lost + 1 } else { s with q := s.q ++ [(f, b)] }
def takeL (s : Lz) (i : Int) : Lz := if isL s i then { s with q := s.q.eraseIdx i.toNat } else s
def twiceE (s : Lz) (i : Int) : Int := if isL s i then putE s (atL s i).2 else 8
def twiceL (s : Lz) (i : Int) : Lz := if isL s i then putL' s (atL s i).1 (atL s i).2 else s
def swapB (s : Lz) (i : Int) : Bool := isL s i && isL s (i + 1)
def swapL (s : Lz) (i : Int) : Lz := if swapB s i then { s with q := (s.q.set i.toNat (atL s (i + 1))).set (i + 1).toNat (atL s i) } else s
def clearL (s : Lz) : Lz := { s with q := [] }
def InLz (s : Lz) : Prop := s.q.length ≤ 64 ∧ (∀ x ∈ s.q, x.2.size ≤ 400) ∧ 0 ≤ s.lost ∧ s.lost ≤ 4611686018427387904
def nilL : Lz := ⟨[], 0⟩
theorem nilL_in : InLz nilL := ⟨Nat.zero_le _, (by intro x hx; cases hx), Int.le_refl 0, by show (0 : Int) ≤ 4611686018427387904; decide⟩
theorem isL_yes {s : Lz} {i : Nat} (h : i < s.q.length) : isL s (i : Int) = true := decide_eq_true ⟨by omega, by omega⟩
theorem atL_get {s : Lz} {i : Nat} (h : i < s.q.length) : atL s (i : Int) = s.q[i] := by
  unfold atL
  rw [Int.toNat_natCast, List.getD_eq_getElem?_getD, List.getElem?_eq_getElem h]
  rfl
theorem lookL_get {s : Lz} {i : Nat} (h : i < s.q.length) : lookL s (i : Int) = s.q[i] := by
  unfold lookL
  rw [isL_yes h, if_pos rfl, atL_get h]

def CNewL (O : Ob Lz) : Prop := ∀ (w : World), Calls Try.prog 6 #[] w fun e w' => ∃ g, e = .returned (.pointer (some ⟨g, 0, none⟩)) ∧ O.At w.heap.size w' g nilL ∧ Below w.heap.size w w'
def CPutL (O : Ob Lz) : Prop := ∀ (g : Nat) (F : Nat → Prop) (s : Lz) (f : Int) (b : ByteArray) (w : World), O.rel w g F s → InLz s → -9223372036854775808 ≤ f ∧ f ≤ 9223372036854775807 → b.size ≤ 140737488355328 →
  Calls Try.prog 8 #[.pointer (some ⟨g, 0, none⟩), .int .i64 f, .string b] w fun e w' => e = .returned (.int .i64 (putE s b)) ∧ O.Goes w F w' g (putL' s f b)
def CLenL (O : Ob Lz) : Prop := ∀ (g : Nat) (F : Nat → Prop) (s : Lz) (w : World), O.rel w g F s → InLz s →
  Calls Try.prog 9 #[.pointer (some ⟨g, 0, none⟩)] w fun e w' => e = .returned (.int .i64 s.q.length) ∧ Below w.heap.size w w'
def CLostL (O : Ob Lz) : Prop := ∀ (g : Nat) (F : Nat → Prop) (s : Lz) (w : World), O.rel w g F s → InLz s →
  Calls Try.prog 10 #[.pointer (some ⟨g, 0, none⟩)] w fun e w' => e = .returned (.int .i64 s.lost) ∧ Below w.heap.size w w'
def CLookL (O : Ob Lz) : Prop := ∀ (g : Nat) (F : Nat → Prop) (s : Lz) (i : Int) (w : World), O.rel w g F s → InLz s → -9223372036854775808 ≤ i ∧ i ≤ 9223372036854775807 →
  Calls Try.prog 14 #[.pointer (some ⟨g, 0, none⟩), .int .i64 i] w fun e w' => e = .returned (.tuple #[.int .i64 (lookL s i).1, .string (lookL s i).2, .bool (isL s i)]) ∧ Below w.heap.size w w'
def CTakeL (O : Ob Lz) : Prop := ∀ (g : Nat) (F : Nat → Prop) (s : Lz) (i : Int) (w : World), O.rel w g F s → InLz s → -9223372036854775808 ≤ i ∧ i ≤ 9223372036854775807 →
  Calls Try.prog 11 #[.pointer (some ⟨g, 0, none⟩), .int .i64 i] w fun e w' => e = .returned (.tuple #[.int .i64 (lookL s i).1, .string (lookL s i).2, .bool (isL s i)]) ∧ O.Goes w F w' g (takeL s i)
def CTwcL (O : Ob Lz) : Prop := ∀ (g : Nat) (F : Nat → Prop) (s : Lz) (i : Int) (w : World), O.rel w g F s → InLz s → -9223372036854775808 ≤ i ∧ i ≤ 9223372036854775807 →
  Calls Try.prog 15 #[.pointer (some ⟨g, 0, none⟩), .int .i64 i] w fun e w' => e = .returned (.int .i64 (twiceE s i)) ∧ O.Goes w F w' g (twiceL s i)
def CSwpL (O : Ob Lz) : Prop := ∀ (g : Nat) (F : Nat → Prop) (s : Lz) (i : Int) (w : World), O.rel w g F s → InLz s → -9223372036854775808 ≤ i ∧ i ≤ 9223372036854775807 →
  Calls Try.prog 13 #[.pointer (some ⟨g, 0, none⟩), .int .i64 i] w fun e w' => e = .returned (.bool (swapB s i)) ∧ O.Goes w F w' g (swapL s i)
def CClrL (O : Ob Lz) : Prop := ∀ (g : Nat) (F : Nat → Prop) (s : Lz) (w : World), O.rel w g F s → InLz s →
  Calls Try.prog 16 #[.pointer (some ⟨g, 0, none⟩)] w fun e w' => e = .returned (.tuple #[]) ∧ O.Goes w F w' g (clearL s)
end Go.Proofs.Ytehnhkjeijbliaa
