/- How an argument that is a row of vectors is opened. -/
import Derived.Test.YtclpblhjfaodbaaOpenG
import Derived.Test.YtclpblhjfaodbaaOpenV
import Derived.Test.YtclpblhjfaodbaaVecRow
namespace Go.Proofs.Ytclpblhjfaodbaa
open Go.ChangeShapes Go.WideShapes Go.ChangeAt Go.RowKit
set_option maxRecDepth 50000
set_option linter.unusedVariables false

instance : Inhabited Vc := ⟨zeroV⟩

section
variable {H : Type} {enc : TypeId × Value → H} {W : World} {base : Nat} {held : Bool} {ts : List TypeId} {ds : List (DataW H)} {j : Nat} {v : Value} {d : DataW H} {p : List MemPlace}

theorem open_vecs (hok : Value.okWide Try.prog W .any base 30 v) (hsz : (DataW.weightsEach Try.prog ts ds).all (· ≤ reachBytes) = true) (ht : ts[j]? = some 30) (hd : ds[j]? = some d)
    (h : DataW.Trod enc Try.prog W 0 (fun _ => true) held 30 v d p) : ∃ l : List Vc, vecK.Reads W v l ∧ l.length * 88 ≤ 140737488351232 ∧ ∀ a ∈ l, VcIn a :=
  open_rows vecK VcIn Try.underlying30 (by kernel_rfl) (by kernel_rfl) (fun _ cs y hl h => open_vec_trod hl h) hok hsz ht hd h
end
end Go.Proofs.Ytclpblhjfaodbaa
