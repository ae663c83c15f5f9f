/- Rows of truths and of pointers to vectors; carillonlaw13.some; the contracts of chapter 13 (gen_declaws.py). -/
import Derived.Test.YtmcjbidfogoonaaDec
import Derived.Test.YtmcjbidfogoonaaVecLaws5
import Derived.Test.YtmcjbidfogoonaaRowKeep
import Derived.Test.YtmcjbidfogoonaaBoK
namespace Go.Proofs.Ytmcjbidfogoonaa
open Go.RowKit Go.Proofs
set_option maxRecDepth 50000
set_option linter.unusedVariables false
set_option linter.unusedSimpArgs false

/-- The first n, where there is one. -/
def someO (l : List Vc) (bs : List Bool) (n : Nat) : List (Option Vc) := (List.range n).map fun i => if bs.getD i false then l[i]? else none
theorem someO_succ (l : List Vc) (bs : List Bool) (n : Nat) : someO l bs (n + 1) = someO l bs n ++ [if bs.getD n false then l[n]? else none] := by simp [someO, List.range_succ]
theorem someO_length (l : List Vc) (bs : List Bool) (n : Nat) : (someO l bs n).length = n := by simp [someO]
theorem someO_in {l : List Vc} {bs : List Bool} {n : Nat} (h : ∀ a ∈ l, VcIn a) : ∀ a, some a ∈ someO l bs n → VcIn a := by
  intro a ha
  unfold someO at ha
  simp only [List.mem_map, List.mem_range] at ha
  obtain ⟨i, _, hi⟩ := ha
  split at hi
  · exact h a (List.mem_of_getElem? hi)
  · cases hi


end Go.Proofs.Ytmcjbidfogoonaa
