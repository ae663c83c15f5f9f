/- How an argument that is a row of truths is opened. -/
import Derived.Test.YtmcjbidfogoonaaOpenG
import Derived.Test.YtmcjbidfogoonaaDecRow
namespace Go.Proofs.Ytmcjbidfogoonaa
open Go.ChangeShapes Go.WideShapes Go.ChangeAt Go.RowKit
set_option maxRecDepth 50000
set_option linter.unusedVariables false

section
variable {H : Type} {enc : TypeId × Value → H} {W : World} {base : Nat} {held : Bool} {ts : List TypeId} {ds : List (DataW H)} {j : Nat} {v : Value} {d : DataW H} {p : List MemPlace}

theorem open_bools (hok : Value.okWide Try.prog W .any base 48 v) (hsz : (DataW.weightsEach Try.prog ts ds).all (· ≤ reachBytes) = true) (ht : ts[j]? = some 48) (hd : ds[j]? = some d)
    (h : DataW.Trod enc Try.prog W 0 (fun _ => true) held 48 v d p) : ∃ l : List Bool, boK.Reads W v l ∧ l.length * 1 ≤ 140737488351232 := by
  obtain ⟨l, h1, h2, _⟩ := open_rows boK (fun _ => True) Try.underlying48 (by kernel_rfl) (by kernel_rfl) (fun fuel cs y hl hf => by
    match cs, hl with
    | [c], _ =>
      obtain ⟨b, e, _⟩ := DataW.trod_bool Try.underlying4 hf
      simp only [List.cons.injEq, and_true] at e
      exact ⟨b, by rw [e]; rfl, trivial⟩) hok hsz ht hd h
  exact ⟨l, h1, h2⟩
end
end Go.Proofs.Ytmcjbidfogoonaa
