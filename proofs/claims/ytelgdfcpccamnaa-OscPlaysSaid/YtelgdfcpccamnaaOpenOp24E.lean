/- How an argument that is an Op of chapter 24 is opened whole, for the frames of the laws (gen_open.py). -/
import Derived.Test.YtelgdfcpccamnaaOpen
import Derived.Test.YtelgdfcpccamnaaOscLaws2
import Derived.Deep.Slices
import Derived.Deep.Strs
import Derived.Lib.SmallJoins
namespace Go.Proofs.Ytelgdfcpccamnaa
open Go.ChangeShapes Go.WideShapes Go.ChangeAt Go.RowKit
set_option maxRecDepth 50000
set_option linter.unusedVariables false
set_option linter.unusedSimpArgs false

theorem cells_open_op24 {cs : List Value} (h : cs.length = 3) : ∃ c0 c1 c2, cs = [c0, c1, c2] := by
  match cs, h with
  | [c0, c1, c2], _ => exact ⟨c0, c1, c2, rfl⟩

set_option maxRecDepth 100000 in
set_option maxHeartbeats 4000000 in
theorem open_op24_trod {H : Type} {enc : TypeId × Value → H} {w : World} {base : Nat} {spare : Nat → Bool} {held : Bool} {fuel : Nat} {cs : List Value} {y : DataW H × List MemPlace}
    (hsz : cs.length = 3) (hf : DataW.trod enc Try.prog w base spare held fuel 28 cs = some y) :
    ∃ a : Op24, cs = op24L a ∧ Op24In a := by
  obtain ⟨c0, c1, c2, rfl⟩ := cells_open_op24 hsz
  obtain ⟨xs, n, _, _, _, hx, hat⟩ := DataW.trod_struct Try.underlying28 hf
  have ki : Try.prog.cellsOf 3 = 1 := by kernel_rfl
  have hx' : xs.length = 3 := hx
  have some_of : ∀ i, i < 3 → ∃ y, xs[i]? = some y := fun i hi => ⟨xs[i]'(by omega), List.getElem?_eq_getElem (by omega)⟩
  obtain ⟨y0, g0⟩ := some_of 0 (by decide)
  have t0 := (hat 0 ⟨_, _, _, _, _, _, _⟩ rfl).trans g0
  simp only [ki, Value.cells, List.drop_succ_cons, List.drop_zero, List.take_succ_cons, List.take_zero] at t0
  obtain ⟨zkd, ekd, _, wkd⟩ := DataW.trod_int Try.underlying3 t0
  obtain ⟨y1, g1⟩ := some_of 1 (by decide)
  have t1 := (hat 1 ⟨_, _, _, _, _, _, _⟩ rfl).trans g1
  simp only [ki, Value.cells, List.drop_succ_cons, List.drop_zero, List.take_succ_cons, List.take_zero] at t1
  obtain ⟨ztt, ett, _, wtt⟩ := DataW.trod_int Try.underlying3 t1
  obtain ⟨y2, g2⟩ := some_of 2 (by decide)
  have t2 := (hat 2 ⟨_, _, _, _, _, _, _⟩ rfl).trans g2
  simp only [ki, Value.cells, List.drop_succ_cons, List.drop_zero, List.take_succ_cons, List.take_zero] at t2
  obtain ⟨znn, enn, _, wnn⟩ := DataW.trod_int Try.underlying3 t2
  simp only [List.cons.injEq, and_true] at ekd ett enn
  subst ekd ett enn
  exact ⟨⟨zkd, ztt, znn⟩, rfl, ⟨i64_of_wf wkd, i64_of_wf wtt, i64_of_wf wnn⟩⟩

theorem open_op24 {H : Type} {enc : TypeId × Value → H} {w : World} {base b0 : Nat} {spare : Nat → Bool} {held : Bool} {rr : Reach} {v : Value} {d : DataW H} {p : List MemPlace}
    (hv : Value.okWide Try.prog w rr b0 28 v) (h : DataW.Trod enc Try.prog w base spare held 28 v d p) :
    ∃ a : Op24, v = .agg (op24L a).toArray ∧ Op24In a := by
  obtain ⟨cs, rfl, hsz⟩ := okWide_struct Try.underlying28 hv
  have hC : Try.prog.cellsOf 28 = 3 := by kernel_rfl
  rw [hC] at hsz
  obtain ⟨cs⟩ := cs
  obtain ⟨fuel, hf⟩ := h
  obtain ⟨a, ha, hp⟩ := open_op24_trod (cs := cs) hsz hf
  exact ⟨a, by rw [ha], hp⟩

end Go.Proofs.Ytelgdfcpccamnaa
