/- How an argument that is a row of a chapter's Ops is opened, for the frames of the laws (gen_openop.py). -/
import Derived.Test.YtmcjbidfogoonaaOpenG
import Derived.Test.YtmcjbidfogoonaaOpenM3
import Derived.Test.YtmcjbidfogoonaaSeqLaws4
namespace Go.Proofs.Ytmcjbidfogoonaa
open Go.ChangeShapes Go.WideShapes Go.ChangeAt Go.RowKit
set_option maxRecDepth 50000
set_option linter.unusedVariables false
set_option linter.unusedSimpArgs false

def Ok16 (x : Op16) : Prop := MsgOk (x.2.2).1 (x.2.2).2 ∧ (-9223372036854775808 ≤ x.1 ∧ x.1 ≤ 9223372036854775807) ∧ (-9223372036854775808 ≤ x.2.1 ∧ x.2.1 ≤ 9223372036854775807)
section
variable {H : Type} {enc : TypeId × Value → H} {W : World} {base : Nat} {held : Bool} {ts : List TypeId} {ds : List (DataW H)} {j : Nat} {v : Value} {d : DataW H} {p : List MemPlace}
set_option maxRecDepth 100000 in
set_option maxHeartbeats 4000000 in
theorem open_op16_trod {spare : Nat → Bool} {fuel : Nat} {cs : List Value} {y : DataW H × List MemPlace} (hsz : cs.length = 25) (hf : DataW.trod enc Try.prog W 0 spare held fuel 38 cs = some y) : ∃ a : Op16, cs = opK.enc a ∧ Ok16 a := by
  obtain ⟨c0, c1, r, rfl, hr⟩ : ∃ c0 c1 r, cs = c0 :: c1 :: r ∧ r.length = 23 := by
    match cs, hsz with
    | c0 :: c1 :: r, h => exact ⟨c0, c1, r, rfl, by simpa using h⟩
  obtain ⟨xs, n, _, _, _, hx, hat⟩ := DataW.trod_struct Try.underlying38 hf
  have ki : Try.prog.cellsOf 3 = 1 := by kernel_rfl
  have kb : Try.prog.cellsOf 4 = 1 := by kernel_rfl
  have kM : Try.prog.cellsOf 34 = 23 := by kernel_rfl
  have hx' : xs.length = 3 := hx
  have some_of : ∀ i, i < 3 → ∃ y, xs[i]? = some y := fun i hi => ⟨xs[i]'(by omega), List.getElem?_eq_getElem (by omega)⟩
  obtain ⟨y0, g0⟩ := some_of 0 (by decide)
  have t0 := (hat 0 ⟨_, _, _, _, _, _, _⟩ rfl).trans g0
  simp only [ki, Value.cells, List.drop_succ_cons, List.drop_zero, List.take_succ_cons, List.take_zero] at t0
  obtain ⟨z0, e0, _, w0⟩ := DataW.trod_int Try.underlying3 t0
  obtain ⟨y1, g1⟩ := some_of 1 (by decide)
  have t1 := (hat 1 ⟨_, _, _, _, _, _, _⟩ rfl).trans g1
  simp only [ki, Value.cells, List.drop_succ_cons, List.drop_zero, List.take_succ_cons, List.take_zero] at t1
  obtain ⟨z1, e1, _, w1⟩ := DataW.trod_int Try.underlying3 t1
  obtain ⟨yM, gM⟩ := some_of 2 (by decide)
  have tM := (hat 2 ⟨_, _, _, _, _, _, _⟩ rfl).trans gM
  simp only [kM, Value.cells, List.drop_succ_cons, List.drop_zero] at tM
  obtain ⟨a, ea, oa⟩ := open_ms_trod (by simp [hr]) tM
  have es : r = msK.enc a := by
    have h2 : List.take 23 r = r := List.take_of_length_le (by omega)
    rw [h2] at ea
    exact ea
  simp only [List.cons.injEq, and_true] at e0 e1
  subst e0 e1 es
  exact ⟨(z0, z1, a), by show _ = _ ++ msK.enc a ++ []; simp, oa, i64_of_wf w0, i64_of_wf w1⟩

theorem open_ops16 (hok : Value.okWide Try.prog W .any base 22 v) (hsz : (DataW.weightsEach Try.prog ts ds).all (· ≤ reachBytes) = true) (ht : ts[j]? = some 22) (hd : ds[j]? = some d)
    (h : DataW.Trod enc Try.prog W 0 (fun _ => true) held 22 v d p) : ∃ l : List Op16, opK.Reads W v l ∧ l.length * 200 ≤ 140737488351232 ∧ ∀ a ∈ l, Ok16 a :=
  open_rows opK Ok16 Try.underlying22 (by kernel_rfl) (by kernel_rfl) (fun _ cs y hl h => open_op16_trod hl h) hok hsz ht hd h
end
end Go.Proofs.Ytmcjbidfogoonaa
