/- The states of a port, plainly (chapter 21), and the contracts of the program's own (gen_porlaws.py). -/
import Derived.Test.YtnjonglljlbcbaaNum
import Derived.Test.YtnjonglljlbcbaaPlace
namespace Go.Proofs.Ytnjonglljlbcbaa
open Go.RowKit Go.Proofs
set_option maxRecDepth 50000
set_option linter.unusedVariables false
set_option linter.unusedSimpArgs false

def nameS (s : Int) : ByteArray := if s = 1 then ⟨#[105, 110, 105, 116, 105, 97, 108, 105, 122, 105, 110, 103]⟩ else if s = 2 then ⟨#[102, 97, 117, 108, 116, 121]⟩ else if s = 3 then ⟨#[100, 105, 115, 97, 98, 108, 101, 100]⟩ else if s = 4 then ⟨#[108, 105, 115, 116, 101, 110, 105, 110, 103]⟩ else if s = 5 then ⟨#[112, 114, 101, 109, 97, 115, 116, 101, 114]⟩ else if s = 6 then ⟨#[109, 97, 115, 116, 101, 114]⟩ else if s = 7 then ⟨#[112, 97, 115, 115, 105, 118, 101]⟩ else if s = 8 then ⟨#[117, 110, 99, 97, 108, 105, 98, 114, 97, 116, 101, 100]⟩ else if s = 9 then ⟨#[115, 108, 97, 118, 101]⟩ else ⟨#[]⟩
def aliveB (s : Int) : Bool := decide (4 ≤ s) && decide (s ≤ 9)
def hearsB (s : Int) : Bool := (s == 4) || (decide (7 ≤ s) && decide (s ≤ 9))
def folI (s : Int) : Bool := (s == 8) || (s == 9)
def nxtI (s e : Int) (so : Bool) : Int :=
  if e = 1 then (if s = 1 then 4 else s) else if e = 2 then (if s = 3 then s else 2) else if e = 3 then (if s = 2 then 1 else s)
  else if e = 4 then (if hearsB s then (if so then 4 else 6) else s) else if e = 5 then (if s = 5 then 6 else s) else if e = 6 then (if s = 8 then 9 else s)
  else if e = 7 then 3 else if e = 8 then (if s = 3 then 1 else s) else s
def decI (s d : Int) (same so : Bool) : Int :=
  if aliveB s = false then s else if d < 1 then s else if 6 < d then s else if so = true ∧ d ≠ 6 then 4 else if d = 1 then 6 else if d = 2 then 6
  else if d = 3 then (if s = 6 then s else 5) else if d = 4 then 7 else if d = 5 then 7 else if same = true ∧ folI s = true then s else 8

def CNextP : Prop := ∀ (s e : Int) (so : Bool) (w : World), Calls Try.prog 7 #[.int .i64 s, .int .i64 e, .bool so] w fun x w' => x = .returned (.int .i64 (nxtI s e so)) ∧ Below w.heap.size w w'
def CDecP : Prop := ∀ (s d : Int) (same so : Bool) (w : World), Calls Try.prog 9 #[.int .i64 s, .int .i64 d, .bool same, .bool so] w fun x w' => x = .returned (.int .i64 (decI s d same so)) ∧ Below w.heap.size w w'
def CHearsP : Prop := ∀ (s : Int) (w : World), Calls Try.prog 11 #[.int .i64 s] w fun x w' => x = .returned (.bool (hearsB s)) ∧ Below w.heap.size w w'
def CFollP : Prop := ∀ (s : Int) (w : World), Calls Try.prog 13 #[.int .i64 s] w fun x w' => x = .returned (.bool (folI s)) ∧ Below w.heap.size w w'
def CAliveP : Prop := ∀ (s : Int) (w : World), Calls Try.prog 15 #[.int .i64 s] w fun x w' => x = .returned (.bool (aliveB s)) ∧ Below w.heap.size w w'
def CNameP : Prop := ∀ (s : Int) (w : World), Calls Try.prog 17 #[.int .i64 s] w fun x w' => x = .returned (.string (nameS s)) ∧ Below w.heap.size w w'
end Go.Proofs.Ytnjonglljlbcbaa
