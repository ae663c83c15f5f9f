/- How an argument that is a parent is opened whole, for the frames of the laws (gen_open.py). -/
import Derived.Test.YtgjffmhlehcoiaaOpen
import Derived.Test.YtgjffmhlehcoiaaPar
import Derived.Deep.Slices
import Derived.Deep.Strs
import Derived.Lib.SmallJoins
namespace Go.Proofs.Ytgjffmhlehcoiaa
open Go.ChangeShapes Go.WideShapes Go.ChangeAt Go.RowKit
set_option maxRecDepth 50000
set_option linter.unusedVariables false
set_option linter.unusedSimpArgs false

theorem cells_open_par {cs : List Value} (h : cs.length = 12) : ∃ c0 c1 c2 c3 c4 c5 c6 c7 c8 c9 c10 c11, cs = [c0, c1, c2, c3, c4, c5, c6, c7, c8, c9, c10, c11] := by
  match cs, h with
  | [c0, c1, c2, c3, c4, c5, c6, c7, c8, c9, c10, c11], _ => exact ⟨c0, c1, c2, c3, c4, c5, c6, c7, c8, c9, c10, c11, rfl⟩

set_option maxRecDepth 100000 in
set_option maxHeartbeats 4000000 in
theorem open_par_trod {H : Type} {enc : TypeId × Value → H} {w : World} {base : Nat} {spare : Nat → Bool} {held : Bool} {fuel : Nat} {cs : List Value} {y : DataW H × List MemPlace}
    (hsz : cs.length = 12) (hf : DataW.trod enc Try.prog w base spare held fuel 39 cs = some y) :
    ∃ a : Pa, cs = paL a ∧ PaIn a := by
  obtain ⟨c0, c1, c2, c3, c4, c5, c6, c7, c8, c9, c10, c11, rfl⟩ := cells_open_par hsz
  obtain ⟨xs, n, _, _, _, hx, hat⟩ := DataW.trod_struct Try.underlying39 hf
  have ki : Try.prog.cellsOf 3 = 1 := by kernel_rfl
  have ku : Try.prog.cellsOf 22 = 1 := by kernel_rfl
  have kP : Try.prog.cellsOf 37 = 2 := by kernel_rfl
  have kQ : Try.prog.cellsOf 24 = 3 := by kernel_rfl
  have kT : Try.prog.cellsOf 26 = 3 := by kernel_rfl
  have hx' : xs.length = 7 := hx
  have some_of : ∀ i, i < 7 → ∃ y, xs[i]? = some y := fun i hi => ⟨xs[i]'(by omega), List.getElem?_eq_getElem (by omega)⟩
  obtain ⟨y0, g0⟩ := some_of 0 (by decide)
  have t0 := (hat 0 ⟨_, _, _, _, _, _, _⟩ rfl).trans g0
  simp only [kP, Value.cells, List.drop_succ_cons, List.drop_zero, List.take_succ_cons, List.take_zero] at t0
  obtain ⟨u0_0, u0_1, m0, _, _, q0_0, q0_1⟩ := trod_struct2 Try.underlying37 t0
  simp [ki, ku] at q0_0
  obtain ⟨zpc, epc, _, wpc⟩ := DataW.trod_int Try.underlying22 q0_0
  simp [ki, ku] at q0_1
  obtain ⟨zpp, epp, _, wpp⟩ := DataW.trod_int Try.underlying3 q0_1
  obtain ⟨y1, g1⟩ := some_of 1 (by decide)
  have t1 := (hat 1 ⟨_, _, _, _, _, _, _⟩ rfl).trans g1
  simp only [ku, Value.cells, List.drop_succ_cons, List.drop_zero, List.take_succ_cons, List.take_zero] at t1
  obtain ⟨zgr, egr, _, wgr⟩ := DataW.trod_int Try.underlying22 t1
  obtain ⟨y2, g2⟩ := some_of 2 (by decide)
  have t2 := (hat 2 ⟨_, _, _, _, _, _, _⟩ rfl).trans g2
  simp only [kQ, Value.cells, List.drop_succ_cons, List.drop_zero, List.take_succ_cons, List.take_zero] at t2
  obtain ⟨u2_0, u2_1, u2_2, m2, _, _, q2_0, q2_1, q2_2⟩ := Go.Deep.trod_struct3 Try.underlying24 t2
  simp [ki, ku] at q2_0
  obtain ⟨zqc, eqc, _, wqc⟩ := DataW.trod_int Try.underlying3 q2_0
  simp [ki, ku] at q2_1
  obtain ⟨zqa, eqa, _, wqa⟩ := DataW.trod_int Try.underlying3 q2_1
  simp [ki, ku] at q2_2
  obtain ⟨zqv, eqv, _, wqv⟩ := DataW.trod_int Try.underlying3 q2_2
  obtain ⟨y3, g3⟩ := some_of 3 (by decide)
  have t3 := (hat 3 ⟨_, _, _, _, _, _, _⟩ rfl).trans g3
  simp only [ki, Value.cells, List.drop_succ_cons, List.drop_zero, List.take_succ_cons, List.take_zero] at t3
  obtain ⟨zp1, ep1, _, wp1⟩ := DataW.trod_int Try.underlying3 t3
  obtain ⟨y4, g4⟩ := some_of 4 (by decide)
  have t4 := (hat 4 ⟨_, _, _, _, _, _, _⟩ rfl).trans g4
  simp only [ki, Value.cells, List.drop_succ_cons, List.drop_zero, List.take_succ_cons, List.take_zero] at t4
  obtain ⟨zp2, ep2, _, wp2⟩ := DataW.trod_int Try.underlying3 t4
  obtain ⟨y5, g5⟩ := some_of 5 (by decide)
  have t5 := (hat 5 ⟨_, _, _, _, _, _, _⟩ rfl).trans g5
  simp only [ki, Value.cells, List.drop_succ_cons, List.drop_zero, List.take_succ_cons, List.take_zero] at t5
  obtain ⟨zst, est, _, wst⟩ := DataW.trod_int Try.underlying3 t5
  obtain ⟨y6, g6⟩ := some_of 6 (by decide)
  have t6 := (hat 6 ⟨_, _, _, _, _, _, _⟩ rfl).trans g6
  simp only [kT, Value.cells, List.drop_succ_cons, List.drop_zero, List.take_succ_cons, List.take_zero] at t6
  obtain ⟨u6_0, u6_1, u6_2, m6, _, _, q6_0, q6_1, q6_2⟩ := Go.Deep.trod_struct3 Try.underlying26 t6
  simp [ki, ku] at q6_0
  obtain ⟨zut, eut, _, wut⟩ := DataW.trod_int Try.underlying3 q6_0
  simp [ki, ku] at q6_1
  obtain ⟨zfl, efl, _, wfl⟩ := DataW.trod_int Try.underlying3 q6_1
  simp [ki, ku] at q6_2
  obtain ⟨zog, eog, _, wog⟩ := DataW.trod_int Try.underlying3 q6_2
  simp only [List.cons.injEq, and_true] at epc epp egr eqc eqa eqv ep1 ep2 est eut efl eog
  subst epc epp egr eqc eqa eqv ep1 ep2 est eut efl eog
  exact ⟨⟨zpc, zpp, zgr, zqc, zqa, zqv, zp1, zp2, zst, zut, zfl, zog⟩, rfl, ⟨u64_of_wf wpc, i64_of_wf wpp, u64_of_wf wgr, i64_of_wf wqc, i64_of_wf wqa, i64_of_wf wqv, i64_of_wf wp1, i64_of_wf wp2, i64_of_wf wst, i64_of_wf wut, i64_of_wf wfl, i64_of_wf wog⟩⟩

theorem open_par {H : Type} {enc : TypeId × Value → H} {w : World} {base b0 : Nat} {spare : Nat → Bool} {held : Bool} {rr : Reach} {v : Value} {d : DataW H} {p : List MemPlace}
    (hv : Value.okWide Try.prog w rr b0 39 v) (h : DataW.Trod enc Try.prog w base spare held 39 v d p) :
    ∃ a : Pa, v = .agg (paL a).toArray ∧ PaIn a := by
  obtain ⟨cs, rfl, hsz⟩ := okWide_struct Try.underlying39 hv
  have hC : Try.prog.cellsOf 39 = 12 := by kernel_rfl
  rw [hC] at hsz
  obtain ⟨cs⟩ := cs
  obtain ⟨fuel, hf⟩ := h
  obtain ⟨a, ha, hp⟩ := open_par_trod (cs := cs) hsz hf
  exact ⟨a, by rw [ha], hp⟩

end Go.Proofs.Ytgjffmhlehcoiaa
