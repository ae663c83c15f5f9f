/- How an argument that is a row of chapter 24's Ops is opened. -/
import Derived.Test.YtelgdfcpccamnaaOpenG
import Derived.Test.YtelgdfcpccamnaaOpenOp24E
namespace Go.Proofs.Ytelgdfcpccamnaa
open Go.ChangeShapes Go.WideShapes Go.ChangeAt Go.RowKit
set_option maxRecDepth 50000
set_option linter.unusedVariables false

instance : Inhabited Op24 := ⟨zeroOp24⟩

section
variable {H : Type} {enc : TypeId × Value → H} {W : World} {base : Nat} {held : Bool} {ts : List TypeId} {ds : List (DataW H)} {j : Nat} {v : Value} {d : DataW H} {p : List MemPlace}

theorem open_ops24 (hok : Value.okWide Try.prog W .any base 22 v) (hsz : (DataW.weightsEach Try.prog ts ds).all (· ≤ reachBytes) = true) (ht : ts[j]? = some 22) (hd : ds[j]? = some d)
    (h : DataW.Trod enc Try.prog W 0 (fun _ => true) held 22 v d p) : ∃ l : List Op24, op24K.Reads W v l ∧ l.length * 24 ≤ 140737488351232 ∧ ∀ a ∈ l, Op24In a :=
  open_rows op24K Op24In Try.underlying22 (by kernel_rfl) (by kernel_rfl) (fun _ cs y hl h => open_op24_trod hl h) hok hsz ht hd h
end
end Go.Proofs.Ytelgdfcpccamnaa
