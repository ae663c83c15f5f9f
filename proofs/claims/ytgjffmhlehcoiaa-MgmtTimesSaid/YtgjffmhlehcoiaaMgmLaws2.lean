/- carillonlaw22: Quiet, from contracts (gen_mgmlaws.py). -/
import Derived.Test.YtgjffmhlehcoiaaMgmLaws1
import Derived.BigQuiet
namespace Go.Proofs.Ytgjffmhlehcoiaa
open Go.RowKit Go.Proofs
set_option maxRecDepth 50000
set_option linter.unusedVariables false
set_option linter.unusedSimpArgs false

/-- What an answer turns of a configuration: at most one member, and only by what is set. -/
def turnsL (d c : Cf) : List Bool := [d.p1 != c.p1, d.p2 != c.p2, d.dm != c.dm, d.so != c.so, d.la != c.la, d.tm != c.tm, d.ls != c.ls, d.qa != c.qa]
theorem turns_self (c : Cf) : turnsL c c = [false, false, false, false, false, false, false, false] := by simp [turnsL]
theorem one_of (n : Nat) (i : Nat) (b : Bool) (h : i < n) : ((List.replicate n false).set i b).count true ≤ 1 := by
  rw [List.count_set (by rw [List.length_replicate]; exact h)]
  have : (List.replicate n false).count true = 0 := List.count_eq_zero.2 (by simp)
  rw [this]
  split <;> split <;> omega
theorem ans_turns (v : Vw) (a id : Int) (data : List UInt8) (d : Cf) (e : Int) (hd : (ansP v a id data).c = d) (he : (ansP v a id data).e = e) :
    (d.cl = v.c.cl ∧ d.po = v.c.po ∧ d.md = v.c.md ∧ (d.ut = v.c.ut ∧ d.fl = v.c.fl ∧ d.og = v.c.og) ∧ d.pe = v.c.pe ∧ d.os = v.c.os ∧ d.tr = v.c.tr ∧ d.kp = v.c.kp ∧ d.qc = v.c.qc ∧ d.qv = v.c.qv) ∧
    (turnsL d v.c).count true ≤ 1 ∧ ((turnsL d v.c).count true ≠ 0 → a = 1 ∧ e = 0) := by
  have key : d = v.c ∨ (a = 1 ∧ e = 0 ∧ d = setM v.c id data) := by
    rw [← hd, ← he]
    unfold ansP setA
    repeat' split
    all_goals first | exact .inl rfl | (refine .inr ⟨by omega, rfl, rfl⟩)
  rcases key with rfl | ⟨ha, he, rfl⟩
  · refine ⟨⟨rfl, rfl, rfl, ⟨rfl, rfl, rfl⟩, rfl, rfl, rfl, rfl, rfl, rfl⟩, by rw [turns_self]; decide, fun h => absurd (by rw [turns_self]; decide) h⟩
  · unfold setM
    repeat' split
    all_goals (refine ⟨⟨rfl, rfl, rfl, ⟨rfl, rfl, rfl⟩, rfl, rfl, rfl, rfl, rfl, rfl⟩, ?_, fun _ => ⟨ha, he⟩⟩)
    all_goals (unfold turnsL; simp only [bne_self_eq_false])
    all_goals first | decide | exact one_of 8 0 _ (by decide) | exact one_of 8 1 _ (by decide) | exact one_of 8 2 _ (by decide) | exact one_of 8 3 _ (by decide) | exact one_of 8 4 _ (by decide) | exact one_of 8 5 _ (by decide) | exact one_of 8 6 _ (by decide) | exact one_of 8 7 _ (by decide)
theorem equal_qa (a b x y : Int) (w : World) : (Op.equalIn 10000 24 (.agg #[.int .i64 a, .int .i64 x, .int .i64 b]) (.agg #[.int .i64 a, .int .i64 y, .int .i64 b])).run Try.prog w = .ok (x == y) w := by
  by_cases k0 : x = y
  · subst k0
    go_simp
  · have q : (x == y) = false := beq_false_of_ne k0
    go_simp
theorem built8 (b0 b1 b2 b3 b4 b5 b6 b7 : Bool) (w : World) : (Instr.build 49 #[(0, .bool b0), (1, .bool b1), (2, .bool b2), (3, .bool b3), (4, .bool b4), (5, .bool b5), (6, .bool b6), (7, .bool b7)]).run Try.prog w = .ok (.agg #[.bool b0, .bool b1, .bool b2, .bool b3, .bool b4, .bool b5, .bool b6, .bool b7]) w := run_build w _ _ _ (by kernel_rfl)
def cntB (l : List Bool) (k : Nat) : Int := ((l.take k).count true : Nat)
theorem cntB_step {l : List Bool} {k : Nat} {b : Bool} (h : l[k]? = some b) : cntB l (k + 1) = cntB l k + bitI b := by
  obtain ⟨hk, hb⟩ := List.getElem?_eq_some_iff.1 h
  unfold cntB
  rw [List.take_succ_eq_append_getElem hk, hb, List.count_append]
  cases b <;> simp [bitI]
theorem cntB_in (l : List Bool) (k : Nat) : 0 ≤ cntB l k ∧ cntB l k ≤ k := by
  have h1 : (l.take k).count true ≤ (l.take k).length := List.count_le_length
  rw [List.length_take] at h1
  unfold cntB
  omega
theorem cntB_all {l : List Bool} {k : Nat} (h : l.length = k) : cntB l k = (l.count true : Nat) := by
  unfold cntB
  rw [List.take_of_length_le (by omega)]
theorem wpList_indexA {ops : Array Oper} {rest : List Oper} {op : Oper} {a : Act} {w : World} {Q : Exit → Act → World → Prop} (hgd : op.guard = none) (ty : TypeId) (x y : Operand) (ho : op.op = .index ty x y)
    (xv yv v : Value) (hx : a.eval x = xv) (hy : a.eval y = yv) (hr : (Instr.index ty xv yv).run Try.prog w = .ok v w)
    (h : wpList Try.prog ops Q rest (a.put op.dst v) w) : wpList Try.prog ops Q (op :: rest) a w :=
  wpList_plain hgd fun K hK => by
    unfold Oper.wp execOp
    simp only [ho, hx, hy]
    simp only [Sem.run_bind, hr, Result.andThen_ok, Sem.run_pure]
    exact hK _ _ h
theorem drewQ_below (w : World) (n : Nat) : Below w.heap.size w (w.drewN n) := ⟨rfl, rfl, rfl, Nat.le_refl _, fun _ _ => rfl⟩

set_option maxRecDepth 100000 in
set_option maxHeartbeats 8000000 in
theorem mgmtQuiet_from (HDef : CDefM) (HAns : CAnsM) (HKno : CKnoM) (HPer : CPerM) (c : Cf) (hc : ((0 ≤ c.cl ∧ c.cl < 18446744073709551616) ∧ ∀ x ∈ [c.po, c.dm, c.p1, c.p2, c.qc, c.qa, c.qv, c.la, c.ls, c.ld, c.tm, c.md, c.kp, c.ki, c.st, c.ut, c.fl, c.og], -9223372036854775808 ≤ x ∧ x ≤ 9223372036854775807)) (ac id : Int) (data : List UInt8) (w : World) :
    Calls Try.prog 6 #[.agg (cfL c).toArray, .int .i64 ac, .int .i64 id, .string ⟨data.toArray⟩] w fun e w' => e = .returned (.bool true) ∧ Below w.heap.size w w' := by
  have z0 := bnew w (Obj.cells (cfK.enc c).toArray 28)
  have C := Box.new w (cfK.enc c) 28
  have hb := z0
  clear z0
  go_enter Try.func6, Try.ntmps6
  go_upto_region 1 with fail
  change Code.wp Try.prog _ _ _ (w.alloc (Obj.cells (cfK.enc c).toArray 28))
  generalize (w.alloc (Obj.cells (cfK.enc c).toArray 28)) = W at *
  generalize hG : w.heap.size = G at *
  rw [← hG] at hb
  have l_C : w.heap.size ≤ G := by omega
  go_wp2_with (guard_target =~ wpList _ _ _ (⟨some 18, _, _, _, _, _⟩ :: _) _ _; refine cfT.load (op := ⟨some 18, .load _ _, _, _, _, _⟩) (by rfl) _ (by rfl) G 0 (by rfl) (c) C.rangeK ?_)
  refine (refChk10_any c W).mono ?_
  rintro e w1 ⟨rfl, bq⟩
  replace C := C.below bq
  replace hb := bnext hb bq
  clear bq
  by_cases hok : CfOk c
  case neg =>
    have hE : checkE c = 15 := if_neg hok
    rw [hE]
    clear hE hok
    go_wp2_with fail
    refine (awake22_from HDef HAns HKno HPer _).mono ?_
    rintro e wz ⟨rfl, bz⟩
    go_wp2_with fail
    go_ret
    exact ⟨rfl, bnext hb bz⟩
  have hE : checkE c = 0 := if_pos hok
  rw [hE]
  clear hE
  by_cases hl : data.length ≤ 300
  case neg =>
    have hlI : ¬ (data.length : Int) ≤ 300 := by omega
    have hlJ : (300 : Int) < (data.length : Int) := by omega
    go_wp2_with fail
    refine (awake22_from HDef HAns HKno HPer _).mono ?_
    rintro e wz ⟨rfl, bz⟩
    go_wp2_with fail
    go_ret
    exact ⟨rfl, bnext hb bz⟩
  have hlI : (data.length : Int) ≤ 300 := by omega
  have hin := vw0_in hok hc.1
  have HA := fun w => HAns (vw0 c) ac id data w hin hl
  have hT := ans_turns (vw0 c) ac id data
  obtain ⟨A, hA⟩ : ∃ A : An, ansP (vw0 c) ac id data = A := ⟨_, rfl⟩
  rw [hA] at HA hT
  obtain ⟨⟨s, d, e⟩, hAe⟩ : ∃ B : An, A = B := ⟨_, rfl⟩
  subst hAe
  have hTT := hid (hT d e rfl rfl)
  replace HA := hid HA
  clear hA hT hin hok hl
  go_wp2_with (first | (guard_target =~ wpList _ _ _ (⟨some 28, _, _, _, _, _⟩ :: _) _ _; refine cfT.load (op := ⟨some 28, .load _ _, _, _, _, _⟩) (by rfl) _ (by rfl) G 0 (by rfl) (c) C.rangeK ?_) | (guard_target =~ wpList _ _ _ (⟨some 29, _, _, _, _, _⟩ :: _) _ _; refine wpList_build_any (op := ⟨some 29, .build _ _, _, _, _, _⟩) (by rfl) _ _ (by rfl) _ (by rfl) (vwL (vw0 c)).toArray (by kernel_rfl) ?_))
  refine (HA.out w1).mono ?_
  rintro e w2 ⟨rfl, bq⟩
  replace C := C.below bq
  replace hb := bnext hb bq
  clear bq
  have hn1 := bnew w2 (Obj.cells (cfK.enc (zeroC)).toArray 28)
  have hM0 := Box.new w2 (cfK.enc (zeroC)) 28
  go_upto_region 4 with (guard_target =~ wpList _ _ _ (⟨none, _, _, _, _, _⟩ :: _) _ _; refine cfT.store (op := ⟨none, .store _ _ _, _, _, _, _⟩) (by rfl) _ _ (by rfl) (w2.heap.size) (d) (zeroC) _ (by rfl) (by rfl) hM0 ?_)
  have n_C_D : G ≠ w2.heap.size := by have h1 := C.lt; have h2 := Nat.le_refl w2.heap.size; omega
  have l_D : w.heap.size ≤ w2.heap.size := Nat.le_trans hb.size (Nat.le_refl w2.heap.size)
  have D := hM0.rowK (cfK.enc (d))
  replace C := (C.below hn1).rowK_other (k := w2.heap.size) n_C_D (cfK.enc (d)).toArray
  have hW := below_setRow hn1 (Nat.le_refl _) (cfK.enc (d)).toArray
  replace hb := bnext hb hW
  change Code.wp Try.prog _ _ _ ((w2.alloc (Obj.cells (cfK.enc (zeroC)).toArray 28)).setRow w2.heap.size (cfK.enc (d)).toArray)
  generalize (w2.alloc (Obj.cells (cfK.enc (zeroC)).toArray 28)).setRow w2.heap.size (cfK.enc (d)).toArray = w3 at *
  clear hn1 hM0 hW
  generalize w2.heap.size = g1 at *
  go_wp2_with (first | (guard_target =~ wpList _ _ _ (⟨some 38, _, _, _, _, _⟩ :: _) _ _; refine cfT.load (op := ⟨some 38, .load _ _, _, _, _, _⟩) (by rfl) _ (by rfl) G 0 (by rfl) (c) C.rangeK ?_) | (guard_target =~ wpList _ _ _ (⟨some 39, _, _, _, _, _⟩ :: _) _ _; refine wpList_build_any (op := ⟨some 39, .build _ _, _, _, _, _⟩) (by rfl) _ _ (by rfl) _ (by rfl) (vwL (vw0 c)).toArray (by kernel_rfl) ?_))
  refine (HA.out w3).mono ?_
  rintro e w4 ⟨rfl, bq⟩
  replace C := C.below bq
  replace D := D.below bq
  replace hb := bnext hb bq
  clear bq
  have hn1 := bnew w4 (Obj.cells (cfK.enc (zeroC)).toArray 28)
  have hM0 := Box.new w4 (cfK.enc (zeroC)) 28
  go_upto_region 5 with (guard_target =~ wpList _ _ _ (⟨none, _, _, _, _, _⟩ :: _) _ _; refine cfT.store (op := ⟨none, .store _ _ _, _, _, _, _⟩) (by rfl) _ _ (by rfl) (w4.heap.size) (d) (zeroC) _ (by rfl) (by rfl) hM0 ?_)
  have n_C_E : G ≠ w4.heap.size := by have h1 := C.lt; have h2 := Nat.le_refl w4.heap.size; omega
  have n_D_E : g1 ≠ w4.heap.size := by have h1 := D.lt; have h2 := Nat.le_refl w4.heap.size; omega
  have l_E : w.heap.size ≤ w4.heap.size := Nat.le_trans hb.size (Nat.le_refl w4.heap.size)
  have E := hM0.rowK (cfK.enc (d))
  replace C := (C.below hn1).rowK_other (k := w4.heap.size) n_C_E (cfK.enc (d)).toArray
  replace D := (D.below hn1).rowK_other (k := w4.heap.size) n_D_E (cfK.enc (d)).toArray
  have hW := below_setRow hn1 (Nat.le_refl _) (cfK.enc (d)).toArray
  replace hb := bnext hb hW
  change Code.wp Try.prog _ _ _ ((w4.alloc (Obj.cells (cfK.enc (zeroC)).toArray 28)).setRow w4.heap.size (cfK.enc (d)).toArray)
  generalize (w4.alloc (Obj.cells (cfK.enc (zeroC)).toArray 28)).setRow w4.heap.size (cfK.enc (d)).toArray = w5 at *
  clear hn1 hM0 hW
  generalize w4.heap.size = g2 at *
  obtain ⟨⟨hs_cl, hs_po, hs_md, ⟨hs_ut, hs_fl, hs_og⟩, hs_pe, hs_os, hs_tr, hs_kp, hs_qc, hs_qv⟩, hN1, hN2⟩ := hTT.out
  replace hs_cl : d.cl = c.cl := hs_cl
  replace hs_po : d.po = c.po := hs_po
  replace hs_md : d.md = c.md := hs_md
  replace hs_ut : d.ut = c.ut := hs_ut
  replace hs_fl : d.fl = c.fl := hs_fl
  replace hs_og : d.og = c.og := hs_og
  replace hs_pe : d.pe = c.pe := hs_pe
  replace hs_os : d.os = c.os := hs_os
  replace hs_tr : d.tr = c.tr := hs_tr
  replace hs_kp : d.kp = c.kp := hs_kp
  replace hs_qc : d.qc = c.qc := hs_qc
  replace hs_qv : d.qv = c.qv := hs_qv
  replace hN1 : (turnsL d c).count true ≤ 1 := hN1
  replace hN2 : (turnsL d c).count true ≠ 0 → ac = 1 ∧ e = 0 := hN2
  have k0 : w5.cell? ⟨G, 0, none⟩ = some (.int .u64 c.cl) := C.cell 0 _ rfl
  have k1 : w5.cell? ⟨G, 1, none⟩ = some (.int .i64 c.po) := C.cell 1 _ rfl
  have k2 : w5.cell? ⟨G, 2, none⟩ = some (.int .i64 c.dm) := C.cell 2 _ rfl
  have k3 : w5.cell? ⟨G, 3, none⟩ = some (.int .i64 c.p1) := C.cell 3 _ rfl
  have k4 : w5.cell? ⟨G, 4, none⟩ = some (.int .i64 c.p2) := C.cell 4 _ rfl
  have k5 : w5.cell? ⟨G, 5, none⟩ = some (.int .i64 c.qc) := C.cell 5 _ rfl
  have k6 : w5.cell? ⟨G, 6, none⟩ = some (.int .i64 c.qa) := C.cell 6 _ rfl
  have k7 : w5.cell? ⟨G, 7, none⟩ = some (.int .i64 c.qv) := C.cell 7 _ rfl
  have k8 : w5.cell? ⟨G, 8, none⟩ = some (.bool c.so) := C.cell 8 _ rfl
  have k9 : w5.cell? ⟨G, 9, none⟩ = some (.int .i64 c.la) := C.cell 9 _ rfl
  have k10 : w5.cell? ⟨G, 10, none⟩ = some (.int .i64 c.ls) := C.cell 10 _ rfl
  have k12 : w5.cell? ⟨G, 12, none⟩ = some (.int .i64 c.tm) := C.cell 12 _ rfl
  have k13 : w5.cell? ⟨G, 13, none⟩ = some (.bool c.pe) := C.cell 13 _ rfl
  have k14 : w5.cell? ⟨G, 14, none⟩ = some (.bool c.os) := C.cell 14 _ rfl
  have k15 : w5.cell? ⟨G, 15, none⟩ = some (.int .i64 c.md) := C.cell 15 _ rfl
  have k16 : w5.cell? ⟨G, 16, none⟩ = some (.int .i64 c.kp) := C.cell 16 _ rfl
  have k19 : w5.cell? ⟨G, 19, none⟩ = some (.int .i64 c.ut) := C.cell 19 _ rfl
  have k20 : w5.cell? ⟨G, 20, none⟩ = some (.int .i64 c.fl) := C.cell 20 _ rfl
  have k21 : w5.cell? ⟨G, 21, none⟩ = some (.int .i64 c.og) := C.cell 21 _ rfl
  have k22 : w5.cell? ⟨G, 22, none⟩ = some (.bool c.tr) := C.cell 22 _ rfl
  have m0 : w5.cell? ⟨g1, 0, none⟩ = some (.int .u64 c.cl) := D.cell 0 _ (by show some (Value.int .u64 d.cl) = some (Value.int .u64 c.cl); rw [hs_cl])
  have m1 : w5.cell? ⟨g1, 1, none⟩ = some (.int .i64 c.po) := D.cell 1 _ (by show some (Value.int .i64 d.po) = some (Value.int .i64 c.po); rw [hs_po])
  have m2 : w5.cell? ⟨g1, 2, none⟩ = some (.int .i64 d.dm) := D.cell 2 _ rfl
  have m3 : w5.cell? ⟨g1, 3, none⟩ = some (.int .i64 d.p1) := D.cell 3 _ rfl
  have m4 : w5.cell? ⟨g1, 4, none⟩ = some (.int .i64 d.p2) := D.cell 4 _ rfl
  have m5 : w5.cell? ⟨g1, 5, none⟩ = some (.int .i64 c.qc) := D.cell 5 _ (by show some (Value.int .i64 d.qc) = some (Value.int .i64 c.qc); rw [hs_qc])
  have m6 : w5.cell? ⟨g1, 6, none⟩ = some (.int .i64 d.qa) := D.cell 6 _ rfl
  have m7 : w5.cell? ⟨g1, 7, none⟩ = some (.int .i64 c.qv) := D.cell 7 _ (by show some (Value.int .i64 d.qv) = some (Value.int .i64 c.qv); rw [hs_qv])
  have m8 : w5.cell? ⟨g1, 8, none⟩ = some (.bool d.so) := D.cell 8 _ rfl
  have m9 : w5.cell? ⟨g1, 9, none⟩ = some (.int .i64 d.la) := D.cell 9 _ rfl
  have m10 : w5.cell? ⟨g1, 10, none⟩ = some (.int .i64 d.ls) := D.cell 10 _ rfl
  have m12 : w5.cell? ⟨g1, 12, none⟩ = some (.int .i64 d.tm) := D.cell 12 _ rfl
  have m13 : w5.cell? ⟨g1, 13, none⟩ = some (.bool c.pe) := D.cell 13 _ (by show some (Value.bool d.pe) = some (Value.bool c.pe); rw [hs_pe])
  have m14 : w5.cell? ⟨g1, 14, none⟩ = some (.bool c.os) := D.cell 14 _ (by show some (Value.bool d.os) = some (Value.bool c.os); rw [hs_os])
  have m15 : w5.cell? ⟨g1, 15, none⟩ = some (.int .i64 c.md) := D.cell 15 _ (by show some (Value.int .i64 d.md) = some (Value.int .i64 c.md); rw [hs_md])
  have m16 : w5.cell? ⟨g1, 16, none⟩ = some (.int .i64 c.kp) := D.cell 16 _ (by show some (Value.int .i64 d.kp) = some (Value.int .i64 c.kp); rw [hs_kp])
  have m19 : w5.cell? ⟨g1, 19, none⟩ = some (.int .i64 c.ut) := D.cell 19 _ (by show some (Value.int .i64 d.ut) = some (Value.int .i64 c.ut); rw [hs_ut])
  have m20 : w5.cell? ⟨g1, 20, none⟩ = some (.int .i64 c.fl) := D.cell 20 _ (by show some (Value.int .i64 d.fl) = some (Value.int .i64 c.fl); rw [hs_fl])
  have m21 : w5.cell? ⟨g1, 21, none⟩ = some (.int .i64 c.og) := D.cell 21 _ (by show some (Value.int .i64 d.og) = some (Value.int .i64 c.og); rw [hs_og])
  have m22 : w5.cell? ⟨g1, 22, none⟩ = some (.bool c.tr) := D.cell 22 _ (by show some (Value.bool d.tr) = some (Value.bool c.tr); rw [hs_tr])
  clear hs_cl hs_po hs_md hs_ut hs_fl hs_og hs_pe hs_os hs_tr hs_kp hs_qc hs_qv hTT
  have sm := same_cf d
  go_upto_region 6 with (first | (guard_target =~ wpList _ _ _ (⟨some 51, _, _, _, _, _⟩ :: _) _ _; refine cfT.load_g (op := ⟨some 51, .load _ _, _, _, _, _⟩) (by rfl) _ (by rfl) g1 0 (by rfl) (d) D.rangeK ?_) | (guard_target =~ wpList _ _ _ (⟨some 52, _, _, _, _, _⟩ :: _) _ _; refine cfT.load_g (op := ⟨some 52, .load _ _, _, _, _, _⟩) (by rfl) _ (by rfl) g2 0 (by rfl) (d) E.rangeK ?_))
  unfold turnsL at hN1 hN2
  obtain ⟨b0, hb0⟩ : ∃ b, (d.p1 != c.p1) = b := ⟨_, rfl⟩
  obtain ⟨b1, hb1⟩ : ∃ b, (d.p2 != c.p2) = b := ⟨_, rfl⟩
  obtain ⟨b2, hb2⟩ : ∃ b, (d.dm != c.dm) = b := ⟨_, rfl⟩
  obtain ⟨b3, hb3⟩ : ∃ b, (d.so != c.so) = b := ⟨_, rfl⟩
  obtain ⟨b4, hb4⟩ : ∃ b, (d.la != c.la) = b := ⟨_, rfl⟩
  obtain ⟨b5, hb5⟩ : ∃ b, (d.tm != c.tm) = b := ⟨_, rfl⟩
  obtain ⟨b6, hb6⟩ : ∃ b, (d.ls != c.ls) = b := ⟨_, rfl⟩
  obtain ⟨b7, hb7⟩ : ∃ b, (d.qa != c.qa) = b := ⟨_, rfl⟩
  rw [hb0, hb1, hb2, hb3, hb4, hb5, hb6, hb7] at hN1 hN2
  have HN1 := hid hN1
  have HN2 := hid hN2
  clear hN1 hN2
  have hb3b : (!(d.so == c.so)) = b3 := hb3
  have hb7b : (!(d.qa == c.qa)) = b7 := hb7
  have hq := fun wx => equal_qa c.qc c.qv d.qa c.qa wx
  have hbu := fun wx => built8 b0 b1 b2 b3 b4 b5 b6 b7 wx
  go_upto_region 8 with fail
  go_quiet (fail)
  have hd := drewQ_below w5 nq
  generalize w5.drewN nq = wq at *
  replace hb := bnext hb hd
  clear hd hbu hq hb7b hb3b sm hb0 hb1 hb2 hb3 hb4 hb5 hb6 hb7 D C E k0 m0 k1 m1 k2 m2 k3 m3 k4 m4 k5 m5 k6 m6 k7 m7 k8 m8 k9 m9 k10 m10 k12 m12 k13 m13 k14 m14 k15 m15 k16 m16 k19 m19 k20 m20 k21 m21 k22 m22
  go_wp2_with fail
  go_loopw [15, 17, 157] (fun nv _ iv wr => ∃ k : Nat, k ≤ 8 ∧ iv = .int .i64 (k : Int) ∧ nv = .int .i64 (cntB [b0, b1, b2, b3, b4, b5, b6, b7] k) ∧ Below w.heap.size w wr) (fun _ _ iv _ => 8 - (intOf iv).toNat)
  case atStart => exact ⟨0, by decide, rfl, rfl, hb⟩
  case round =>
    clear hb
    obtain ⟨k, hk, rfl, rfl, hb⟩ := hrel
    rcases (by omega : k = 0 ∨ k = 1 ∨ k = 2 ∨ k = 3 ∨ k = 4 ∨ k = 5 ∨ k = 6 ∨ k = 7 ∨ k = 8) with rfl | rfl | rfl | rfl | rfl | rfl | rfl | rfl | rfl
    · rw [show ((0 : Nat) : Int) = 0 from rfl]
      have e1 := hid (cntB_step (l := [b0, b1, b2, b3, b4, b5, b6, b7]) (k := 0) (b := b0) rfl)
      obtain ⟨r0, r1⟩ := cntB_in [b0, b1, b2, b3, b4, b5, b6, b7] 0
      generalize cntB [b0, b1, b2, b3, b4, b5, b6, b7] 0 = N at *
      clear hk
      cases b0
      · skip
        go_wp2_with (guard_target =~ wpList _ _ _ (⟨some 159, _, _, _, _, _⟩ :: _) _ _; refine @wpList_indexA _ _ ⟨some 159, .index 49 (.tmp 156) (.tmp 157), _, _, _, _⟩ _ _ _ (by rfl) 49 _ _ (by rfl) (.agg #[.bool false, .bool b1, .bool b2, .bool b3, .bool b4, .bool b5, .bool b6, .bool b7]) (.int .i64 0) (.bool false) (by rfl) (by rfl) (by kernel_rfl) ?_)
        go_roundw
        case rel => exact ⟨0 + 1, by decide, rfl, by rw [e1.out]; simp [bitI], hb⟩
        case measure => simp [intOf]
      · skip
        go_wp2_with (guard_target =~ wpList _ _ _ (⟨some 159, _, _, _, _, _⟩ :: _) _ _; refine @wpList_indexA _ _ ⟨some 159, .index 49 (.tmp 156) (.tmp 157), _, _, _, _⟩ _ _ _ (by rfl) 49 _ _ (by rfl) (.agg #[.bool true, .bool b1, .bool b2, .bool b3, .bool b4, .bool b5, .bool b6, .bool b7]) (.int .i64 0) (.bool true) (by rfl) (by rfl) (by kernel_rfl) ?_)
        go_roundw
        case rel => exact ⟨0 + 1, by decide, rfl, by rw [e1.out]; rfl, hb⟩
        case measure => simp [intOf]
    · rw [show ((1 : Nat) : Int) = 1 from rfl]
      have e1 := hid (cntB_step (l := [b0, b1, b2, b3, b4, b5, b6, b7]) (k := 1) (b := b1) rfl)
      obtain ⟨r0, r1⟩ := cntB_in [b0, b1, b2, b3, b4, b5, b6, b7] 1
      generalize cntB [b0, b1, b2, b3, b4, b5, b6, b7] 1 = N at *
      clear hk
      cases b1
      · skip
        go_wp2_with (guard_target =~ wpList _ _ _ (⟨some 159, _, _, _, _, _⟩ :: _) _ _; refine @wpList_indexA _ _ ⟨some 159, .index 49 (.tmp 156) (.tmp 157), _, _, _, _⟩ _ _ _ (by rfl) 49 _ _ (by rfl) (.agg #[.bool b0, .bool false, .bool b2, .bool b3, .bool b4, .bool b5, .bool b6, .bool b7]) (.int .i64 1) (.bool false) (by rfl) (by rfl) (by kernel_rfl) ?_)
        go_roundw
        case rel => exact ⟨1 + 1, by decide, rfl, by rw [e1.out]; simp [bitI], hb⟩
        case measure => simp [intOf]
      · skip
        go_wp2_with (guard_target =~ wpList _ _ _ (⟨some 159, _, _, _, _, _⟩ :: _) _ _; refine @wpList_indexA _ _ ⟨some 159, .index 49 (.tmp 156) (.tmp 157), _, _, _, _⟩ _ _ _ (by rfl) 49 _ _ (by rfl) (.agg #[.bool b0, .bool true, .bool b2, .bool b3, .bool b4, .bool b5, .bool b6, .bool b7]) (.int .i64 1) (.bool true) (by rfl) (by rfl) (by kernel_rfl) ?_)
        go_roundw
        case rel => exact ⟨1 + 1, by decide, rfl, by rw [e1.out]; rfl, hb⟩
        case measure => simp [intOf]
    · rw [show ((2 : Nat) : Int) = 2 from rfl]
      have e1 := hid (cntB_step (l := [b0, b1, b2, b3, b4, b5, b6, b7]) (k := 2) (b := b2) rfl)
      obtain ⟨r0, r1⟩ := cntB_in [b0, b1, b2, b3, b4, b5, b6, b7] 2
      generalize cntB [b0, b1, b2, b3, b4, b5, b6, b7] 2 = N at *
      clear hk
      cases b2
      · skip
        go_wp2_with (guard_target =~ wpList _ _ _ (⟨some 159, _, _, _, _, _⟩ :: _) _ _; refine @wpList_indexA _ _ ⟨some 159, .index 49 (.tmp 156) (.tmp 157), _, _, _, _⟩ _ _ _ (by rfl) 49 _ _ (by rfl) (.agg #[.bool b0, .bool b1, .bool false, .bool b3, .bool b4, .bool b5, .bool b6, .bool b7]) (.int .i64 2) (.bool false) (by rfl) (by rfl) (by kernel_rfl) ?_)
        go_roundw
        case rel => exact ⟨2 + 1, by decide, rfl, by rw [e1.out]; simp [bitI], hb⟩
        case measure => simp [intOf]
      · skip
        go_wp2_with (guard_target =~ wpList _ _ _ (⟨some 159, _, _, _, _, _⟩ :: _) _ _; refine @wpList_indexA _ _ ⟨some 159, .index 49 (.tmp 156) (.tmp 157), _, _, _, _⟩ _ _ _ (by rfl) 49 _ _ (by rfl) (.agg #[.bool b0, .bool b1, .bool true, .bool b3, .bool b4, .bool b5, .bool b6, .bool b7]) (.int .i64 2) (.bool true) (by rfl) (by rfl) (by kernel_rfl) ?_)
        go_roundw
        case rel => exact ⟨2 + 1, by decide, rfl, by rw [e1.out]; rfl, hb⟩
        case measure => simp [intOf]
    · rw [show ((3 : Nat) : Int) = 3 from rfl]
      have e1 := hid (cntB_step (l := [b0, b1, b2, b3, b4, b5, b6, b7]) (k := 3) (b := b3) rfl)
      obtain ⟨r0, r1⟩ := cntB_in [b0, b1, b2, b3, b4, b5, b6, b7] 3
      generalize cntB [b0, b1, b2, b3, b4, b5, b6, b7] 3 = N at *
      clear hk
      cases b3
      · skip
        go_wp2_with (guard_target =~ wpList _ _ _ (⟨some 159, _, _, _, _, _⟩ :: _) _ _; refine @wpList_indexA _ _ ⟨some 159, .index 49 (.tmp 156) (.tmp 157), _, _, _, _⟩ _ _ _ (by rfl) 49 _ _ (by rfl) (.agg #[.bool b0, .bool b1, .bool b2, .bool false, .bool b4, .bool b5, .bool b6, .bool b7]) (.int .i64 3) (.bool false) (by rfl) (by rfl) (by kernel_rfl) ?_)
        go_roundw
        case rel => exact ⟨3 + 1, by decide, rfl, by rw [e1.out]; simp [bitI], hb⟩
        case measure => simp [intOf]
      · skip
        go_wp2_with (guard_target =~ wpList _ _ _ (⟨some 159, _, _, _, _, _⟩ :: _) _ _; refine @wpList_indexA _ _ ⟨some 159, .index 49 (.tmp 156) (.tmp 157), _, _, _, _⟩ _ _ _ (by rfl) 49 _ _ (by rfl) (.agg #[.bool b0, .bool b1, .bool b2, .bool true, .bool b4, .bool b5, .bool b6, .bool b7]) (.int .i64 3) (.bool true) (by rfl) (by rfl) (by kernel_rfl) ?_)
        go_roundw
        case rel => exact ⟨3 + 1, by decide, rfl, by rw [e1.out]; rfl, hb⟩
        case measure => simp [intOf]
    · rw [show ((4 : Nat) : Int) = 4 from rfl]
      have e1 := hid (cntB_step (l := [b0, b1, b2, b3, b4, b5, b6, b7]) (k := 4) (b := b4) rfl)
      obtain ⟨r0, r1⟩ := cntB_in [b0, b1, b2, b3, b4, b5, b6, b7] 4
      generalize cntB [b0, b1, b2, b3, b4, b5, b6, b7] 4 = N at *
      clear hk
      cases b4
      · skip
        go_wp2_with (guard_target =~ wpList _ _ _ (⟨some 159, _, _, _, _, _⟩ :: _) _ _; refine @wpList_indexA _ _ ⟨some 159, .index 49 (.tmp 156) (.tmp 157), _, _, _, _⟩ _ _ _ (by rfl) 49 _ _ (by rfl) (.agg #[.bool b0, .bool b1, .bool b2, .bool b3, .bool false, .bool b5, .bool b6, .bool b7]) (.int .i64 4) (.bool false) (by rfl) (by rfl) (by kernel_rfl) ?_)
        go_roundw
        case rel => exact ⟨4 + 1, by decide, rfl, by rw [e1.out]; simp [bitI], hb⟩
        case measure => simp [intOf]
      · skip
        go_wp2_with (guard_target =~ wpList _ _ _ (⟨some 159, _, _, _, _, _⟩ :: _) _ _; refine @wpList_indexA _ _ ⟨some 159, .index 49 (.tmp 156) (.tmp 157), _, _, _, _⟩ _ _ _ (by rfl) 49 _ _ (by rfl) (.agg #[.bool b0, .bool b1, .bool b2, .bool b3, .bool true, .bool b5, .bool b6, .bool b7]) (.int .i64 4) (.bool true) (by rfl) (by rfl) (by kernel_rfl) ?_)
        go_roundw
        case rel => exact ⟨4 + 1, by decide, rfl, by rw [e1.out]; rfl, hb⟩
        case measure => simp [intOf]
    · rw [show ((5 : Nat) : Int) = 5 from rfl]
      have e1 := hid (cntB_step (l := [b0, b1, b2, b3, b4, b5, b6, b7]) (k := 5) (b := b5) rfl)
      obtain ⟨r0, r1⟩ := cntB_in [b0, b1, b2, b3, b4, b5, b6, b7] 5
      generalize cntB [b0, b1, b2, b3, b4, b5, b6, b7] 5 = N at *
      clear hk
      cases b5
      · skip
        go_wp2_with (guard_target =~ wpList _ _ _ (⟨some 159, _, _, _, _, _⟩ :: _) _ _; refine @wpList_indexA _ _ ⟨some 159, .index 49 (.tmp 156) (.tmp 157), _, _, _, _⟩ _ _ _ (by rfl) 49 _ _ (by rfl) (.agg #[.bool b0, .bool b1, .bool b2, .bool b3, .bool b4, .bool false, .bool b6, .bool b7]) (.int .i64 5) (.bool false) (by rfl) (by rfl) (by kernel_rfl) ?_)
        go_roundw
        case rel => exact ⟨5 + 1, by decide, rfl, by rw [e1.out]; simp [bitI], hb⟩
        case measure => simp [intOf]
      · skip
        go_wp2_with (guard_target =~ wpList _ _ _ (⟨some 159, _, _, _, _, _⟩ :: _) _ _; refine @wpList_indexA _ _ ⟨some 159, .index 49 (.tmp 156) (.tmp 157), _, _, _, _⟩ _ _ _ (by rfl) 49 _ _ (by rfl) (.agg #[.bool b0, .bool b1, .bool b2, .bool b3, .bool b4, .bool true, .bool b6, .bool b7]) (.int .i64 5) (.bool true) (by rfl) (by rfl) (by kernel_rfl) ?_)
        go_roundw
        case rel => exact ⟨5 + 1, by decide, rfl, by rw [e1.out]; rfl, hb⟩
        case measure => simp [intOf]
    · rw [show ((6 : Nat) : Int) = 6 from rfl]
      have e1 := hid (cntB_step (l := [b0, b1, b2, b3, b4, b5, b6, b7]) (k := 6) (b := b6) rfl)
      obtain ⟨r0, r1⟩ := cntB_in [b0, b1, b2, b3, b4, b5, b6, b7] 6
      generalize cntB [b0, b1, b2, b3, b4, b5, b6, b7] 6 = N at *
      clear hk
      cases b6
      · skip
        go_wp2_with (guard_target =~ wpList _ _ _ (⟨some 159, _, _, _, _, _⟩ :: _) _ _; refine @wpList_indexA _ _ ⟨some 159, .index 49 (.tmp 156) (.tmp 157), _, _, _, _⟩ _ _ _ (by rfl) 49 _ _ (by rfl) (.agg #[.bool b0, .bool b1, .bool b2, .bool b3, .bool b4, .bool b5, .bool false, .bool b7]) (.int .i64 6) (.bool false) (by rfl) (by rfl) (by kernel_rfl) ?_)
        go_roundw
        case rel => exact ⟨6 + 1, by decide, rfl, by rw [e1.out]; simp [bitI], hb⟩
        case measure => simp [intOf]
      · skip
        go_wp2_with (guard_target =~ wpList _ _ _ (⟨some 159, _, _, _, _, _⟩ :: _) _ _; refine @wpList_indexA _ _ ⟨some 159, .index 49 (.tmp 156) (.tmp 157), _, _, _, _⟩ _ _ _ (by rfl) 49 _ _ (by rfl) (.agg #[.bool b0, .bool b1, .bool b2, .bool b3, .bool b4, .bool b5, .bool true, .bool b7]) (.int .i64 6) (.bool true) (by rfl) (by rfl) (by kernel_rfl) ?_)
        go_roundw
        case rel => exact ⟨6 + 1, by decide, rfl, by rw [e1.out]; rfl, hb⟩
        case measure => simp [intOf]
    · rw [show ((7 : Nat) : Int) = 7 from rfl]
      have e1 := hid (cntB_step (l := [b0, b1, b2, b3, b4, b5, b6, b7]) (k := 7) (b := b7) rfl)
      obtain ⟨r0, r1⟩ := cntB_in [b0, b1, b2, b3, b4, b5, b6, b7] 7
      generalize cntB [b0, b1, b2, b3, b4, b5, b6, b7] 7 = N at *
      clear hk
      cases b7
      · skip
        go_wp2_with (guard_target =~ wpList _ _ _ (⟨some 159, _, _, _, _, _⟩ :: _) _ _; refine @wpList_indexA _ _ ⟨some 159, .index 49 (.tmp 156) (.tmp 157), _, _, _, _⟩ _ _ _ (by rfl) 49 _ _ (by rfl) (.agg #[.bool b0, .bool b1, .bool b2, .bool b3, .bool b4, .bool b5, .bool b6, .bool false]) (.int .i64 7) (.bool false) (by rfl) (by rfl) (by kernel_rfl) ?_)
        go_roundw
        case rel => exact ⟨7 + 1, by decide, rfl, by rw [e1.out]; simp [bitI], hb⟩
        case measure => simp [intOf]
      · skip
        go_wp2_with (guard_target =~ wpList _ _ _ (⟨some 159, _, _, _, _, _⟩ :: _) _ _; refine @wpList_indexA _ _ ⟨some 159, .index 49 (.tmp 156) (.tmp 157), _, _, _, _⟩ _ _ _ (by rfl) 49 _ _ (by rfl) (.agg #[.bool b0, .bool b1, .bool b2, .bool b3, .bool b4, .bool b5, .bool b6, .bool true]) (.int .i64 7) (.bool true) (by rfl) (by rfl) (by kernel_rfl) ?_)
        go_roundw
        case rel => exact ⟨7 + 1, by decide, rfl, by rw [e1.out]; rfl, hb⟩
        case measure => simp [intOf]
    · have e1 := cntB_all (l := [b0, b1, b2, b3, b4, b5, b6, b7]) (k := 8) rfl
      rw [e1]
      clear e1 hk
      have h1 := HN1.out
      have h2 := HN2.out
      generalize [b0, b1, b2, b3, b4, b5, b6, b7].count true = N at *
      rcases (by omega : N = 0 ∨ N = 1) with rfl | rfl
      · clear h1 h2 HN1 HN2
        go_wp2_with fail
        refine (awake22_from HDef HAns HKno HPer _).mono ?_
        rintro e wz ⟨rfl, bz⟩
        go_wp2_with fail
        go_ret
        exact ⟨rfl, bnext hb bz⟩
      · obtain ⟨rfl, rfl⟩ := h2 (by decide)
        clear h1 HN1 HN2
        go_wp2_with fail
        refine (awake22_from HDef HAns HKno HPer _).mono ?_
        rintro e wz ⟨rfl, bz⟩
        go_wp2_with fail
        go_ret
        exact ⟨rfl, bnext hb bz⟩

end Go.Proofs.Ytgjffmhlehcoiaa
