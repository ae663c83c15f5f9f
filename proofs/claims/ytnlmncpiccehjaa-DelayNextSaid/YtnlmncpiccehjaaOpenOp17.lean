/- How an argument that is a row of a chapter's Ops is opened, for the frames of the laws (gen_openop.py). -/
import Derived.Test.YtnlmncpiccehjaaOpenG
import Derived.Test.YtnlmncpiccehjaaOpenM3
import Derived.Test.YtnlmncpiccehjaaDelLaws4
namespace Go.Proofs.Ytnlmncpiccehjaa
open Go.ChangeShapes Go.WideShapes Go.ChangeAt Go.RowKit
set_option maxRecDepth 50000
set_option linter.unusedVariables false
set_option linter.unusedSimpArgs false

def Ok17 (x : Op17) : Prop := MsgOk (x.2.2.2.1).1 (x.2.2.2.1).2 ∧ (-9223372036854775808 ≤ x.1 ∧ x.1 ≤ 9223372036854775807) ∧ (-9223372036854775808 ≤ x.2.1 ∧ x.2.1 ≤ 9223372036854775807) ∧ (-9223372036854775808 ≤ x.2.2.1 ∧ x.2.2.1 ≤ 9223372036854775807)
section
variable {H : Type} {enc : TypeId × Value → H} {W : World} {base : Nat} {held : Bool} {ts : List TypeId} {ds : List (DataW H)} {j : Nat} {v : Value} {d : DataW H} {p : List MemPlace}
set_option maxRecDepth 100000 in
set_option maxHeartbeats 4000000 in
theorem open_op17_trod {spare : Nat → Bool} {fuel : Nat} {cs : List Value} {y : DataW H × List MemPlace} (hsz : cs.length = 27) (hf : DataW.trod enc Try.prog W 0 spare held fuel 36 cs = some y) : ∃ a : Op17, cs = op7K.enc a ∧ Ok17 a := by
  obtain ⟨c0, c1, c2, r, rfl, hr⟩ : ∃ c0 c1 c2 r, cs = c0 :: c1 :: c2 :: r ∧ r.length = 24 := by
    match cs, hsz with
    | c0 :: c1 :: c2 :: r, h => exact ⟨c0, c1, c2, r, rfl, by simpa using h⟩
  obtain ⟨xs, n, _, _, _, hx, hat⟩ := DataW.trod_struct Try.underlying36 hf
  have ki : Try.prog.cellsOf 3 = 1 := by kernel_rfl
  have kb : Try.prog.cellsOf 4 = 1 := by kernel_rfl
  have kM : Try.prog.cellsOf 34 = 23 := by kernel_rfl
  have hx' : xs.length = 5 := hx
  have some_of : ∀ i, i < 5 → ∃ y, xs[i]? = some y := fun i hi => ⟨xs[i]'(by omega), List.getElem?_eq_getElem (by omega)⟩
  obtain ⟨y0, g0⟩ := some_of 0 (by decide)
  have t0 := (hat 0 ⟨_, _, _, _, _, _, _⟩ rfl).trans g0
  simp only [ki, Value.cells, List.drop_succ_cons, List.drop_zero, List.take_succ_cons, List.take_zero] at t0
  obtain ⟨z0, e0, _, w0⟩ := DataW.trod_int Try.underlying3 t0
  obtain ⟨y1, g1⟩ := some_of 1 (by decide)
  have t1 := (hat 1 ⟨_, _, _, _, _, _, _⟩ rfl).trans g1
  simp only [ki, Value.cells, List.drop_succ_cons, List.drop_zero, List.take_succ_cons, List.take_zero] at t1
  obtain ⟨z1, e1, _, w1⟩ := DataW.trod_int Try.underlying3 t1
  obtain ⟨y2, g2⟩ := some_of 2 (by decide)
  have t2 := (hat 2 ⟨_, _, _, _, _, _, _⟩ rfl).trans g2
  simp only [ki, Value.cells, List.drop_succ_cons, List.drop_zero, List.take_succ_cons, List.take_zero] at t2
  obtain ⟨z2, e2, _, w2⟩ := DataW.trod_int Try.underlying3 t2
  obtain ⟨yM, gM⟩ := some_of 3 (by decide)
  have tM := (hat 3 ⟨_, _, _, _, _, _, _⟩ rfl).trans gM
  simp only [kM, Value.cells, List.drop_succ_cons, List.drop_zero] at tM
  obtain ⟨a, ea, oa⟩ := open_ms_trod (by simp [hr]) tM
  obtain ⟨yB, gB⟩ := some_of 4 (by decide)
  have tB := (hat 4 ⟨_, _, _, _, _, _, _⟩ rfl).trans gB
  simp only [kb, Value.cells, List.drop_succ_cons, List.drop_zero] at tB
  obtain ⟨bb, eb, _⟩ := DataW.trod_bool Try.underlying4 tB
  have es : r = msK.enc a ++ [.bool bb] := by
    have h1 := List.take_append_drop 23 r
    rw [ea] at h1
    have h2 : List.take 1 (List.drop 23 r) = List.drop 23 r := List.take_of_length_le (by simp [hr])
    first
      | (rw [h2] at eb; rw [eb] at h1; exact h1.symm)
      | (rw [eb] at h1; exact h1.symm)
  simp only [List.cons.injEq, and_true] at e0 e1 e2
  subst e0 e1 e2 es
  exact ⟨(z0, z1, z2, a, bb), rfl, oa, i64_of_wf w0, i64_of_wf w1, i64_of_wf w2⟩

theorem open_ops17 (hok : Value.okWide Try.prog W .any base 25 v) (hsz : (DataW.weightsEach Try.prog ts ds).all (· ≤ reachBytes) = true) (ht : ts[j]? = some 25) (hd : ds[j]? = some d)
    (h : DataW.Trod enc Try.prog W 0 (fun _ => true) held 25 v d p) : ∃ l : List Op17, op7K.Reads W v l ∧ l.length * 216 ≤ 140737488351232 ∧ ∀ a ∈ l, Ok17 a :=
  open_rows op7K Ok17 Try.underlying25 (by kernel_rfl) (by kernel_rfl) (fun _ cs y hl h => open_op17_trod hl h) hok hsz ht hd h
end
end Go.Proofs.Ytnlmncpiccehjaa
