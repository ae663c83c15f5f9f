/- How an argument that is a row of strings is opened, for the frames of the laws. -/
import Derived.Test.YtehnhkjeijbliaaOpenG
import Derived.Test.YtehnhkjeijbliaaLnkLaws3
namespace Go.Proofs.Ytehnhkjeijbliaa
open Go.ChangeShapes Go.WideShapes Go.ChangeAt Go.RowKit
set_option maxRecDepth 50000
set_option linter.unusedVariables false

section
variable {H : Type} {enc : TypeId × Value → H} {W : World} {base : Nat} {held : Bool} {ts : List TypeId} {ds : List (DataW H)} {j : Nat} {v : Value} {d : DataW H} {p : List MemPlace}

theorem open_str_trod {spare : Nat → Bool} {fuel : Nat} {cs : List Value} {y : DataW H × List MemPlace} (hsz : cs.length = 1) (hf : DataW.trod enc Try.prog W 0 spare held fuel 9 cs = some y) : ∃ a : ByteArray, cs = strK.enc a ∧ True := by
  match cs, hsz with
  | [c0], _ =>
    obtain ⟨z1, e1, _⟩ := DataW.trod_string Try.underlying9 hf
    exact ⟨z1, e1, trivial⟩
theorem open_strs (hok : Value.okWide Try.prog W .any base 33 v) (hsz : (DataW.weightsEach Try.prog ts ds).all (· ≤ reachBytes) = true) (ht : ts[j]? = some 33) (hd : ds[j]? = some d)
    (h : DataW.Trod enc Try.prog W 0 (fun _ => true) held 33 v d p) : ∃ l : List ByteArray, strK.Reads W v l ∧ l.length * 16 ≤ 140737488351232 := by
  obtain ⟨l, h1, h2, -⟩ := open_rows strK (fun _ => True) Try.underlying33 (by kernel_rfl) (by kernel_rfl) (fun _ cs y hl h => open_str_trod hl h) hok hsz ht hd h
  exact ⟨l, h1, h2⟩
end
end Go.Proofs.Ytehnhkjeijbliaa
