/- How an argument that is a message is opened, for the frames of the laws. -/
import Derived.Test.YtomfpmoglamflaaOpen
import Derived.Test.YtomfpmoglamflaaMsg
import Derived.Deep.Slices
import Derived.Deep.Strs
import Derived.Lib.SmallJoins
namespace Go.Proofs.Ytomfpmoglamflaa
open Go.ChangeShapes Go.WideShapes Go.ChangeAt Go.RowKit

theorem eight {cs : List Value} (h : cs.length = 23) : ∃ c0 c1 c2 c3 c4 c5 c6 c7 r, cs = c0 :: c1 :: c2 :: c3 :: c4 :: c5 :: c6 :: c7 :: r ∧ r.length = 15 := by
  match cs, h with
  | c0 :: c1 :: c2 :: c3 :: c4 :: c5 :: c6 :: c7 :: r, h => exact ⟨c0, c1, c2, c3, c4, c5, c6, c7, r, rfl, by simp at h; omega⟩

theorem open_msg {H : Type} {enc : TypeId × Value → H} {w : World} {base b0 : Nat} {spare : Nat → Bool} {held : Bool} {rr : Reach} {v : Value} {d : DataW H} {p : List MemPlace}
    (hv : Value.okWide Try.prog w rr b0 28 v) (h : DataW.Trod enc Try.prog w base spare held 28 v d p) :
    ∃ (h : Hd) (r : List Value), v = .agg (msgL h r).toArray ∧ r.length = 15 ∧ HdOk h := by
  obtain ⟨cs, rfl, hsz⟩ := okWide_struct Try.underlying28 hv
  have hC : Try.prog.cellsOf 28 = 23 := by kernel_rfl
  rw [hC] at hsz
  obtain ⟨cs⟩ := cs
  obtain ⟨c0, c1, c2, c3, c4, c5, c6, c7, r, rfl, hr⟩ := eight hsz
  obtain ⟨fuel, hf⟩ := h
  obtain ⟨xs, n, _, _, _, hx, hat⟩ := DataW.trod_struct Try.underlying28 hf
  have k3 : Try.prog.cellsOf 3 = 1 := by kernel_rfl
  have kU : Try.prog.cellsOf 22 = 1 := by kernel_rfl
  have k24 : Try.prog.cellsOf 24 = 2 := by kernel_rfl
  have hx' : xs.length = 19 := hx
  have some_of : ∀ i, i < 19 → ∃ y, xs[i]? = some y := fun i hi => ⟨xs[i]'(by omega), List.getElem?_eq_getElem (by omega)⟩
  obtain ⟨y0, g0⟩ := some_of 0 (by decide)
  obtain ⟨y1, g1⟩ := some_of 1 (by decide)
  obtain ⟨y2, g2⟩ := some_of 2 (by decide)
  obtain ⟨y3, g3⟩ := some_of 3 (by decide)
  obtain ⟨y4, g4⟩ := some_of 4 (by decide)
  obtain ⟨y5, g5⟩ := some_of 5 (by decide)
  obtain ⟨y6, g6⟩ := some_of 6 (by decide)
  have t0 := (hat 0 ⟨_, _, _, _, _, _, _⟩ rfl).trans g0
  have t1 := (hat 1 ⟨_, _, _, _, _, _, _⟩ rfl).trans g1
  have t2 := (hat 2 ⟨_, _, _, _, _, _, _⟩ rfl).trans g2
  have t3 := (hat 3 ⟨_, _, _, _, _, _, _⟩ rfl).trans g3
  have t4 := (hat 4 ⟨_, _, _, _, _, _, _⟩ rfl).trans g4
  have t5 := (hat 5 ⟨_, _, _, _, _, _, _⟩ rfl).trans g5
  have t6 := (hat 6 ⟨_, _, _, _, _, _, _⟩ rfl).trans g6
  simp only [k3, k24, Value.cells, List.drop_succ_cons, List.drop_zero, List.take_succ_cons, List.take_zero] at t0 t1 t2 t3 t4 t5 t6
  obtain ⟨z0, e0, _, w0⟩ := DataW.trod_int Try.underlying3 t0
  obtain ⟨z1, e1, _, w1⟩ := DataW.trod_int Try.underlying3 t1
  obtain ⟨z2, e2, _, w2⟩ := DataW.trod_int Try.underlying3 t2
  obtain ⟨z3, e3, _, w3⟩ := DataW.trod_int Try.underlying3 t3
  obtain ⟨z5, e5, _, w5⟩ := DataW.trod_int Try.underlying3 t5
  obtain ⟨z6, e6, _, w6⟩ := DataW.trod_int Try.underlying3 t6
  obtain ⟨u0, u1, m, _, _, q0, q1⟩ := trod_struct2 Try.underlying24 t4
  simp only [k3, kU, List.drop_succ_cons, List.drop_zero, List.take_succ_cons, List.take_zero] at q0 q1
  obtain ⟨z4, e4, _, w4⟩ := DataW.trod_int Try.underlying22 q0
  obtain ⟨z7, e7, _, w7⟩ := DataW.trod_int Try.underlying3 q1
  simp only [List.cons.injEq, and_true] at e0 e1 e2 e3 e4 e5 e6 e7
  subst e0 e1 e2 e3 e4 e5 e6 e7
  exact ⟨⟨z0, z1, z2, z3, z4, z7, z5, z6⟩, r, rfl, hr, (u64_of_wf w4).1, (u64_of_wf w4).2, i64_of_wf w3⟩
end Go.Proofs.Ytomfpmoglamflaa
