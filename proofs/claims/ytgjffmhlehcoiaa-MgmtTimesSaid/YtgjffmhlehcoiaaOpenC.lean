/- How an argument that is a configuration is opened whole, for the frames of the laws (gen_open.py). -/
import Derived.Test.YtgjffmhlehcoiaaOpen
import Derived.Test.YtgjffmhlehcoiaaConfVal
import Derived.Deep.Slices
import Derived.Deep.Strs
import Derived.Lib.SmallJoins
namespace Go.Proofs.Ytgjffmhlehcoiaa
open Go.ChangeShapes Go.WideShapes Go.ChangeAt Go.RowKit
set_option maxRecDepth 50000
set_option linter.unusedVariables false
set_option linter.unusedSimpArgs false

theorem cells_open_conf {cs : List Value} (h : cs.length = 23) : ∃ c0 c1 c2 c3 c4 c5 c6 c7 c8 c9 c10 c11 c12 c13 c14 c15 c16 c17 c18 c19 c20 c21 c22, cs = [c0, c1, c2, c3, c4, c5, c6, c7, c8, c9, c10, c11, c12, c13, c14, c15, c16, c17, c18, c19, c20, c21, c22] := by
  match cs, h with
  | [c0, c1, c2, c3, c4, c5, c6, c7, c8, c9, c10, c11, c12, c13, c14, c15, c16, c17, c18, c19, c20, c21, c22], _ => exact ⟨c0, c1, c2, c3, c4, c5, c6, c7, c8, c9, c10, c11, c12, c13, c14, c15, c16, c17, c18, c19, c20, c21, c22, rfl⟩

set_option maxRecDepth 100000 in
set_option maxHeartbeats 4000000 in
theorem open_conf_trod {H : Type} {enc : TypeId × Value → H} {w : World} {base : Nat} {spare : Nat → Bool} {held : Bool} {fuel : Nat} {cs : List Value} {y : DataW H × List MemPlace}
    (hsz : cs.length = 23) (hf : DataW.trod enc Try.prog w base spare held fuel 28 cs = some y) :
    ∃ a : Cf, cs = cfL a ∧ ((0 ≤ a.cl ∧ a.cl < 18446744073709551616) ∧ ∀ x ∈ [a.po, a.dm, a.p1, a.p2, a.qc, a.qa, a.qv, a.la, a.ls, a.ld, a.tm, a.md, a.kp, a.ki, a.st, a.ut, a.fl, a.og], -9223372036854775808 ≤ x ∧ x ≤ 9223372036854775807) := by
  obtain ⟨c0, c1, c2, c3, c4, c5, c6, c7, c8, c9, c10, c11, c12, c13, c14, c15, c16, c17, c18, c19, c20, c21, c22, rfl⟩ := cells_open_conf hsz
  obtain ⟨xs, n, _, _, _, hx, hat⟩ := DataW.trod_struct Try.underlying28 hf
  have kb : Try.prog.cellsOf 4 = 1 := by kernel_rfl
  have ki : Try.prog.cellsOf 3 = 1 := by kernel_rfl
  have ku : Try.prog.cellsOf 22 = 1 := by kernel_rfl
  have kQ : Try.prog.cellsOf 24 = 3 := by kernel_rfl
  have kT : Try.prog.cellsOf 26 = 3 := by kernel_rfl
  have hx' : xs.length = 19 := hx
  have some_of : ∀ i, i < 19 → ∃ y, xs[i]? = some y := fun i hi => ⟨xs[i]'(by omega), List.getElem?_eq_getElem (by omega)⟩
  obtain ⟨y0, g0⟩ := some_of 0 (by decide)
  have t0 := (hat 0 ⟨_, _, _, _, _, _, _⟩ rfl).trans g0
  simp only [ku, Value.cells, List.drop_succ_cons, List.drop_zero, List.take_succ_cons, List.take_zero] at t0
  obtain ⟨zcl, ecl, _, wcl⟩ := DataW.trod_int Try.underlying22 t0
  obtain ⟨y1, g1⟩ := some_of 1 (by decide)
  have t1 := (hat 1 ⟨_, _, _, _, _, _, _⟩ rfl).trans g1
  simp only [ki, Value.cells, List.drop_succ_cons, List.drop_zero, List.take_succ_cons, List.take_zero] at t1
  obtain ⟨zpo, epo, _, wpo⟩ := DataW.trod_int Try.underlying3 t1
  obtain ⟨y2, g2⟩ := some_of 2 (by decide)
  have t2 := (hat 2 ⟨_, _, _, _, _, _, _⟩ rfl).trans g2
  simp only [ki, Value.cells, List.drop_succ_cons, List.drop_zero, List.take_succ_cons, List.take_zero] at t2
  obtain ⟨zdm, edm, _, wdm⟩ := DataW.trod_int Try.underlying3 t2
  obtain ⟨y3, g3⟩ := some_of 3 (by decide)
  have t3 := (hat 3 ⟨_, _, _, _, _, _, _⟩ rfl).trans g3
  simp only [ki, Value.cells, List.drop_succ_cons, List.drop_zero, List.take_succ_cons, List.take_zero] at t3
  obtain ⟨zp1, ep1, _, wp1⟩ := DataW.trod_int Try.underlying3 t3
  obtain ⟨y4, g4⟩ := some_of 4 (by decide)
  have t4 := (hat 4 ⟨_, _, _, _, _, _, _⟩ rfl).trans g4
  simp only [ki, Value.cells, List.drop_succ_cons, List.drop_zero, List.take_succ_cons, List.take_zero] at t4
  obtain ⟨zp2, ep2, _, wp2⟩ := DataW.trod_int Try.underlying3 t4
  obtain ⟨y5, g5⟩ := some_of 5 (by decide)
  have t5 := (hat 5 ⟨_, _, _, _, _, _, _⟩ rfl).trans g5
  simp only [kQ, Value.cells, List.drop_succ_cons, List.drop_zero, List.take_succ_cons, List.take_zero] at t5
  obtain ⟨u5_0, u5_1, u5_2, m5, _, _, q5_0, q5_1, q5_2⟩ := Go.Deep.trod_struct3 Try.underlying24 t5
  simp [kb, ki, ku] at q5_0
  obtain ⟨zqc, eqc, _, wqc⟩ := DataW.trod_int Try.underlying3 q5_0
  simp [kb, ki, ku] at q5_1
  obtain ⟨zqa, eqa, _, wqa⟩ := DataW.trod_int Try.underlying3 q5_1
  simp [kb, ki, ku] at q5_2
  obtain ⟨zqv, eqv, _, wqv⟩ := DataW.trod_int Try.underlying3 q5_2
  obtain ⟨y6, g6⟩ := some_of 6 (by decide)
  have t6 := (hat 6 ⟨_, _, _, _, _, _, _⟩ rfl).trans g6
  simp only [kb, Value.cells, List.drop_succ_cons, List.drop_zero, List.take_succ_cons, List.take_zero] at t6
  obtain ⟨zso, eso, _⟩ := DataW.trod_bool Try.underlying4 t6
  obtain ⟨y7, g7⟩ := some_of 7 (by decide)
  have t7 := (hat 7 ⟨_, _, _, _, _, _, _⟩ rfl).trans g7
  simp only [ki, Value.cells, List.drop_succ_cons, List.drop_zero, List.take_succ_cons, List.take_zero] at t7
  obtain ⟨zla, ela, _, wla⟩ := DataW.trod_int Try.underlying3 t7
  obtain ⟨y8, g8⟩ := some_of 8 (by decide)
  have t8 := (hat 8 ⟨_, _, _, _, _, _, _⟩ rfl).trans g8
  simp only [ki, Value.cells, List.drop_succ_cons, List.drop_zero, List.take_succ_cons, List.take_zero] at t8
  obtain ⟨zls, els, _, wls⟩ := DataW.trod_int Try.underlying3 t8
  obtain ⟨y9, g9⟩ := some_of 9 (by decide)
  have t9 := (hat 9 ⟨_, _, _, _, _, _, _⟩ rfl).trans g9
  simp only [ki, Value.cells, List.drop_succ_cons, List.drop_zero, List.take_succ_cons, List.take_zero] at t9
  obtain ⟨zld, eld, _, wld⟩ := DataW.trod_int Try.underlying3 t9
  obtain ⟨y10, g10⟩ := some_of 10 (by decide)
  have t10 := (hat 10 ⟨_, _, _, _, _, _, _⟩ rfl).trans g10
  simp only [ki, Value.cells, List.drop_succ_cons, List.drop_zero, List.take_succ_cons, List.take_zero] at t10
  obtain ⟨ztm, etm, _, wtm⟩ := DataW.trod_int Try.underlying3 t10
  obtain ⟨y11, g11⟩ := some_of 11 (by decide)
  have t11 := (hat 11 ⟨_, _, _, _, _, _, _⟩ rfl).trans g11
  simp only [kb, Value.cells, List.drop_succ_cons, List.drop_zero, List.take_succ_cons, List.take_zero] at t11
  obtain ⟨zpe, epe, _⟩ := DataW.trod_bool Try.underlying4 t11
  obtain ⟨y12, g12⟩ := some_of 12 (by decide)
  have t12 := (hat 12 ⟨_, _, _, _, _, _, _⟩ rfl).trans g12
  simp only [kb, Value.cells, List.drop_succ_cons, List.drop_zero, List.take_succ_cons, List.take_zero] at t12
  obtain ⟨zos, eos, _⟩ := DataW.trod_bool Try.underlying4 t12
  obtain ⟨y13, g13⟩ := some_of 13 (by decide)
  have t13 := (hat 13 ⟨_, _, _, _, _, _, _⟩ rfl).trans g13
  simp only [ki, Value.cells, List.drop_succ_cons, List.drop_zero, List.take_succ_cons, List.take_zero] at t13
  obtain ⟨zmd, emd, _, wmd⟩ := DataW.trod_int Try.underlying3 t13
  obtain ⟨y14, g14⟩ := some_of 14 (by decide)
  have t14 := (hat 14 ⟨_, _, _, _, _, _, _⟩ rfl).trans g14
  simp only [ki, Value.cells, List.drop_succ_cons, List.drop_zero, List.take_succ_cons, List.take_zero] at t14
  obtain ⟨zkp, ekp, _, wkp⟩ := DataW.trod_int Try.underlying3 t14
  obtain ⟨y15, g15⟩ := some_of 15 (by decide)
  have t15 := (hat 15 ⟨_, _, _, _, _, _, _⟩ rfl).trans g15
  simp only [ki, Value.cells, List.drop_succ_cons, List.drop_zero, List.take_succ_cons, List.take_zero] at t15
  obtain ⟨zki, eki, _, wki⟩ := DataW.trod_int Try.underlying3 t15
  obtain ⟨y16, g16⟩ := some_of 16 (by decide)
  have t16 := (hat 16 ⟨_, _, _, _, _, _, _⟩ rfl).trans g16
  simp only [ki, Value.cells, List.drop_succ_cons, List.drop_zero, List.take_succ_cons, List.take_zero] at t16
  obtain ⟨zst, est, _, wst⟩ := DataW.trod_int Try.underlying3 t16
  obtain ⟨y17, g17⟩ := some_of 17 (by decide)
  have t17 := (hat 17 ⟨_, _, _, _, _, _, _⟩ rfl).trans g17
  simp only [kT, Value.cells, List.drop_succ_cons, List.drop_zero, List.take_succ_cons, List.take_zero] at t17
  obtain ⟨u17_0, u17_1, u17_2, m17, _, _, q17_0, q17_1, q17_2⟩ := Go.Deep.trod_struct3 Try.underlying26 t17
  simp [kb, ki, ku] at q17_0
  obtain ⟨zut, eut, _, wut⟩ := DataW.trod_int Try.underlying3 q17_0
  simp [kb, ki, ku] at q17_1
  obtain ⟨zfl, efl, _, wfl⟩ := DataW.trod_int Try.underlying3 q17_1
  simp [kb, ki, ku] at q17_2
  obtain ⟨zog, eog, _, wog⟩ := DataW.trod_int Try.underlying3 q17_2
  obtain ⟨y18, g18⟩ := some_of 18 (by decide)
  have t18 := (hat 18 ⟨_, _, _, _, _, _, _⟩ rfl).trans g18
  simp only [kb, Value.cells, List.drop_succ_cons, List.drop_zero, List.take_succ_cons, List.take_zero] at t18
  obtain ⟨ztr, etr, _⟩ := DataW.trod_bool Try.underlying4 t18
  simp only [List.cons.injEq, and_true] at ecl epo edm ep1 ep2 eqc eqa eqv eso ela els eld etm epe eos emd ekp eki est eut efl eog etr
  subst ecl epo edm ep1 ep2 eqc eqa eqv eso ela els eld etm epe eos emd ekp eki est eut efl eog etr
  exact ⟨⟨zcl, zpo, zdm, zp1, zp2, zqc, zqa, zqv, zso, zla, zls, zld, ztm, zpe, zos, zmd, zkp, zki, zst, zut, zfl, zog, ztr⟩, rfl, ⟨u64_of_wf wcl, fun x hx => by
    simp only [List.mem_cons, List.not_mem_nil, or_false] at hx
    rcases hx with rfl | rfl | rfl | rfl | rfl | rfl | rfl | rfl | rfl | rfl | rfl | rfl | rfl | rfl | rfl | rfl | rfl | rfl
    · exact i64_of_wf wpo
    · exact i64_of_wf wdm
    · exact i64_of_wf wp1
    · exact i64_of_wf wp2
    · exact i64_of_wf wqc
    · exact i64_of_wf wqa
    · exact i64_of_wf wqv
    · exact i64_of_wf wla
    · exact i64_of_wf wls
    · exact i64_of_wf wld
    · exact i64_of_wf wtm
    · exact i64_of_wf wmd
    · exact i64_of_wf wkp
    · exact i64_of_wf wki
    · exact i64_of_wf wst
    · exact i64_of_wf wut
    · exact i64_of_wf wfl
    · exact i64_of_wf wog⟩⟩

theorem open_conf {H : Type} {enc : TypeId × Value → H} {w : World} {base b0 : Nat} {spare : Nat → Bool} {held : Bool} {rr : Reach} {v : Value} {d : DataW H} {p : List MemPlace}
    (hv : Value.okWide Try.prog w rr b0 28 v) (h : DataW.Trod enc Try.prog w base spare held 28 v d p) :
    ∃ a : Cf, v = .agg (cfL a).toArray ∧ ((0 ≤ a.cl ∧ a.cl < 18446744073709551616) ∧ ∀ x ∈ [a.po, a.dm, a.p1, a.p2, a.qc, a.qa, a.qv, a.la, a.ls, a.ld, a.tm, a.md, a.kp, a.ki, a.st, a.ut, a.fl, a.og], -9223372036854775808 ≤ x ∧ x ≤ 9223372036854775807) := by
  obtain ⟨cs, rfl, hsz⟩ := okWide_struct Try.underlying28 hv
  have hC : Try.prog.cellsOf 28 = 23 := by kernel_rfl
  rw [hC] at hsz
  obtain ⟨cs⟩ := cs
  obtain ⟨fuel, hf⟩ := h
  obtain ⟨a, ha, hp⟩ := open_conf_trod (cs := cs) hsz hf
  exact ⟨a, by rw [ha], hp⟩

end Go.Proofs.Ytgjffmhlehcoiaa
