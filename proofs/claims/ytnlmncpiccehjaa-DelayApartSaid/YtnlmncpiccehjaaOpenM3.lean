/- How a message's cells are opened, for rows of what holds messages (gen_openop.py). -/
import Derived.Test.YtnlmncpiccehjaaOpenM2
import Derived.Test.YtnlmncpiccehjaaMsK
namespace Go.Proofs.Ytnlmncpiccehjaa
open Go.ChangeShapes Go.WideShapes Go.ChangeAt Go.RowKit
set_option maxRecDepth 50000
set_option linter.unusedVariables false
set_option linter.unusedSimpArgs false

set_option maxRecDepth 100000 in
set_option maxHeartbeats 4000000 in
theorem open_ms_trod {H : Type} {enc : TypeId × Value → H} {w : World} {base : Nat} {spare : Nat → Bool} {held : Bool} {fuel : Nat} {cs : List Value} {y : DataW H × List MemPlace}
    (hsz : cs.length = 23) (hf : DataW.trod enc Try.prog w base spare held fuel 34 cs = some y) : ∃ a : Hd × Bd, cs = msK.enc a ∧ MsgOk a.1 a.2 := by
  obtain ⟨c0, c1, c2, c3, c4, c5, c6, c7, c8, c9, c10, c11, c12, c13, c14, c15, c16, c17, c18, c19, c20, c21, c22, rfl⟩ := cells23 hsz
  obtain ⟨xs, n, _, _, _, hx, hat⟩ := DataW.trod_struct Try.underlying34 hf
  have k3 : Try.prog.cellsOf 3 = 1 := by kernel_rfl
  have kU : Try.prog.cellsOf 22 = 1 := by kernel_rfl
  have k24 : Try.prog.cellsOf 24 = 2 := by kernel_rfl
  have k26 : Try.prog.cellsOf 32 = 3 := by kernel_rfl
  have hx' : xs.length = 19 := hx
  have some_of : ∀ i, i < 19 → ∃ y, xs[i]? = some y := fun i hi => ⟨xs[i]'(by omega), List.getElem?_eq_getElem (by omega)⟩
  obtain ⟨y0, g0⟩ := some_of 0 (by decide)
  have t0 := (hat 0 ⟨_, _, _, _, _, _, _⟩ rfl).trans g0
  simp only [k3, Value.cells, List.drop_succ_cons, List.drop_zero, List.take_succ_cons, List.take_zero] at t0
  obtain ⟨zty, ety, _, wty⟩ := DataW.trod_int Try.underlying3 t0
  obtain ⟨y1, g1⟩ := some_of 1 (by decide)
  have t1 := (hat 1 ⟨_, _, _, _, _, _, _⟩ rfl).trans g1
  simp only [k3, Value.cells, List.drop_succ_cons, List.drop_zero, List.take_succ_cons, List.take_zero] at t1
  obtain ⟨zdm, edm, _, wdm⟩ := DataW.trod_int Try.underlying3 t1
  obtain ⟨y2, g2⟩ := some_of 2 (by decide)
  have t2 := (hat 2 ⟨_, _, _, _, _, _, _⟩ rfl).trans g2
  simp only [k3, Value.cells, List.drop_succ_cons, List.drop_zero, List.take_succ_cons, List.take_zero] at t2
  obtain ⟨zfl, efl, _, wfl⟩ := DataW.trod_int Try.underlying3 t2
  obtain ⟨y3, g3⟩ := some_of 3 (by decide)
  have t3 := (hat 3 ⟨_, _, _, _, _, _, _⟩ rfl).trans g3
  simp only [k3, Value.cells, List.drop_succ_cons, List.drop_zero, List.take_succ_cons, List.take_zero] at t3
  obtain ⟨zco, eco, _, wco⟩ := DataW.trod_int Try.underlying3 t3
  obtain ⟨y4, g4⟩ := some_of 4 (by decide)
  have t4 := (hat 4 ⟨_, _, _, _, _, _, _⟩ rfl).trans g4
  simp only [k24, Value.cells, List.drop_succ_cons, List.drop_zero, List.take_succ_cons, List.take_zero] at t4
  obtain ⟨u4_0, u4_1, m4, _, _, q4_0, q4_1⟩ := trod_struct2 Try.underlying24 t4
  simp [k3, kU] at q4_0
  obtain ⟨zsc, esc, _, wsc⟩ := DataW.trod_int Try.underlying22 q4_0
  simp [k3, kU] at q4_1
  obtain ⟨zsp, esp, _, wsp⟩ := DataW.trod_int Try.underlying3 q4_1
  obtain ⟨y5, g5⟩ := some_of 5 (by decide)
  have t5 := (hat 5 ⟨_, _, _, _, _, _, _⟩ rfl).trans g5
  simp only [k3, Value.cells, List.drop_succ_cons, List.drop_zero, List.take_succ_cons, List.take_zero] at t5
  obtain ⟨zsq, esq, _, wsq⟩ := DataW.trod_int Try.underlying3 t5
  obtain ⟨y6, g6⟩ := some_of 6 (by decide)
  have t6 := (hat 6 ⟨_, _, _, _, _, _, _⟩ rfl).trans g6
  simp only [k3, Value.cells, List.drop_succ_cons, List.drop_zero, List.take_succ_cons, List.take_zero] at t6
  obtain ⟨zlg, elg, _, wlg⟩ := DataW.trod_int Try.underlying3 t6
  obtain ⟨y7, g7⟩ := some_of 7 (by decide)
  have t7 := (hat 7 ⟨_, _, _, _, _, _, _⟩ rfl).trans g7
  simp only [k3, Value.cells, List.drop_succ_cons, List.drop_zero, List.take_succ_cons, List.take_zero] at t7
  obtain ⟨zst, est, _, wst⟩ := DataW.trod_int Try.underlying3 t7
  obtain ⟨y8, g8⟩ := some_of 8 (by decide)
  have t8 := (hat 8 ⟨_, _, _, _, _, _, _⟩ rfl).trans g8
  simp only [k24, Value.cells, List.drop_succ_cons, List.drop_zero, List.take_succ_cons, List.take_zero] at t8
  obtain ⟨u8_0, u8_1, m8, _, _, q8_0, q8_1⟩ := trod_struct2 Try.underlying24 t8
  simp [k3, kU] at q8_0
  obtain ⟨ztc, etc, _, wtc⟩ := DataW.trod_int Try.underlying22 q8_0
  simp [k3, kU] at q8_1
  obtain ⟨ztp, etp, _, wtp⟩ := DataW.trod_int Try.underlying3 q8_1
  obtain ⟨y9, g9⟩ := some_of 9 (by decide)
  have t9 := (hat 9 ⟨_, _, _, _, _, _, _⟩ rfl).trans g9
  simp only [k3, Value.cells, List.drop_succ_cons, List.drop_zero, List.take_succ_cons, List.take_zero] at t9
  obtain ⟨zut, eut, _, wut⟩ := DataW.trod_int Try.underlying3 t9
  obtain ⟨y10, g10⟩ := some_of 10 (by decide)
  have t10 := (hat 10 ⟨_, _, _, _, _, _, _⟩ rfl).trans g10
  simp only [k3, Value.cells, List.drop_succ_cons, List.drop_zero, List.take_succ_cons, List.take_zero] at t10
  obtain ⟨zp1, ep1, _, wp1⟩ := DataW.trod_int Try.underlying3 t10
  obtain ⟨y11, g11⟩ := some_of 11 (by decide)
  have t11 := (hat 11 ⟨_, _, _, _, _, _, _⟩ rfl).trans g11
  simp only [k26, Value.cells, List.drop_succ_cons, List.drop_zero, List.take_succ_cons, List.take_zero] at t11
  obtain ⟨u11_0, u11_1, u11_2, m11, _, _, q11_0, q11_1, q11_2⟩ := Go.Deep.trod_struct3 Try.underlying32 t11
  simp [k3, kU] at q11_0
  obtain ⟨zqc, eqc, _, wqc⟩ := DataW.trod_int Try.underlying3 q11_0
  simp [k3, kU] at q11_1
  obtain ⟨zqa, eqa, _, wqa⟩ := DataW.trod_int Try.underlying3 q11_1
  simp [k3, kU] at q11_2
  obtain ⟨zqv, eqv, _, wqv⟩ := DataW.trod_int Try.underlying3 q11_2
  obtain ⟨y12, g12⟩ := some_of 12 (by decide)
  have t12 := (hat 12 ⟨_, _, _, _, _, _, _⟩ rfl).trans g12
  simp only [k3, Value.cells, List.drop_succ_cons, List.drop_zero, List.take_succ_cons, List.take_zero] at t12
  obtain ⟨zp2, ep2, _, wp2⟩ := DataW.trod_int Try.underlying3 t12
  obtain ⟨y13, g13⟩ := some_of 13 (by decide)
  have t13 := (hat 13 ⟨_, _, _, _, _, _, _⟩ rfl).trans g13
  simp only [kU, Value.cells, List.drop_succ_cons, List.drop_zero, List.take_succ_cons, List.take_zero] at t13
  obtain ⟨zgr, egr, _, wgr⟩ := DataW.trod_int Try.underlying22 t13
  obtain ⟨y14, g14⟩ := some_of 14 (by decide)
  have t14 := (hat 14 ⟨_, _, _, _, _, _, _⟩ rfl).trans g14
  simp only [k3, Value.cells, List.drop_succ_cons, List.drop_zero, List.take_succ_cons, List.take_zero] at t14
  obtain ⟨zsr, esr, _, wsr⟩ := DataW.trod_int Try.underlying3 t14
  obtain ⟨y15, g15⟩ := some_of 15 (by decide)
  have t15 := (hat 15 ⟨_, _, _, _, _, _, _⟩ rfl).trans g15
  simp only [k3, Value.cells, List.drop_succ_cons, List.drop_zero, List.take_succ_cons, List.take_zero] at t15
  obtain ⟨zog, eog, _, wog⟩ := DataW.trod_int Try.underlying3 t15
  obtain ⟨y16, g16⟩ := some_of 16 (by decide)
  have t16 := (hat 16 ⟨_, _, _, _, _, _, _⟩ rfl).trans g16
  simp only [k3, Value.cells, List.drop_succ_cons, List.drop_zero, List.take_succ_cons, List.take_zero] at t16
  obtain ⟨zsh, esh, _, wsh⟩ := DataW.trod_int Try.underlying3 t16
  obtain ⟨y17, g17⟩ := some_of 17 (by decide)
  have t17 := (hat 17 ⟨_, _, _, _, _, _, _⟩ rfl).trans g17
  simp only [k3, Value.cells, List.drop_succ_cons, List.drop_zero, List.take_succ_cons, List.take_zero] at t17
  obtain ⟨zhp, ehp, _, whp⟩ := DataW.trod_int Try.underlying3 t17
  obtain ⟨y18, g18⟩ := some_of 18 (by decide)
  have t18 := (hat 18 ⟨_, _, _, _, _, _, _⟩ rfl).trans g18
  simp only [k3, Value.cells, List.drop_succ_cons, List.drop_zero, List.take_succ_cons, List.take_zero] at t18
  obtain ⟨zac, eac, _, wac⟩ := DataW.trod_int Try.underlying3 t18
  simp only [List.cons.injEq, and_true] at ety edm efl eco esc esp esq elg est etc etp eut ep1 eqc eqa eqv ep2 egr esr eog esh ehp eac
  subst ety edm efl eco esc esp esq elg est etc etp eut ep1 eqc eqa eqv ep2 egr esr eog esh ehp eac
  exact ⟨(⟨zty, zdm, zfl, zco, zsc, zsp, zsq, zlg⟩, ⟨zst, ztc, ztp, zut, zp1, zqc, zqa, zqv, zp2, zgr, zsr, zog, zsh, zhp, zac⟩), rfl, ⟨(u64_of_wf wsc).1, (u64_of_wf wsc).2, i64_of_wf wco⟩, u64_of_wf wtc, u64_of_wf wgr, i64_of_wf wst⟩
end Go.Proofs.Ytnlmncpiccehjaa
