/- body.Get (gen_bodyget2.py). -/
import Derived.Test.YtohgpnlihfcecaaBodyGet
import Derived.Test.YtohgpnlihfcecaaB1
namespace Go.Proofs.Ytohgpnlihfcecaa
open Go.RowKit Go.Proofs
set_option maxRecDepth 50000
set_option linter.unusedVariables false
set_option linter.unusedSimpArgs false

set_option maxRecDepth 100000 in
set_option maxHeartbeats 4000000 in
theorem bodyGet_neg (v : Value) (l : List UInt8) (h : Hd) (d : Bd) (at' : Int) (w : World) (hn : at' < 0) :
    Calls Try.prog 29 #[.agg (msgF h d).toArray, v, .int .i64 at'] w fun e w' => e = .returned (.tuple #[.agg (msgL hd0 zr).toArray, .int .i64 0, .int .i64 2]) ∧ Below w.heap.size w w' := by
  go_enter Try.func29, Try.ntmps29
  go_wp2_with fail
  have hM : Box ((w.alloc (Obj.cells (msgF h d).toArray 28)).alloc (Obj.cells (msgL hd0 zr).toArray 28)) w.heap.size (msgF h d) 28 := (Box.new w _ _).below (bnew _ _)
  have hA : Box ((w.alloc (Obj.cells (msgF h d).toArray 28)).alloc (Obj.cells (msgL hd0 zr).toArray 28)) (w.heap.size + 1) (msgL hd0 zr) 28 := heap_alloc2_new w _ _
  have hb := bnew2 w (Obj.cells (msgF h d).toArray 28) (Obj.cells (msgL hd0 zr).toArray 28)
  have hG : w.heap.size ≤ w.heap.size + 1 := by omega
  have hne : w.heap.size + 1 ≠ w.heap.size := by omega
  change Code.wp Try.prog _ _ _ ((w.alloc (Obj.cells (msgF h d).toArray 28)).alloc (Obj.cells (msgL hd0 zr).toArray 28))
  generalize ((w.alloc (Obj.cells (msgF h d).toArray 28)).alloc (Obj.cells (msgL hd0 zr).toArray 28)) = W at *
  generalize w.heap.size + 1 = G at *
  have c0 := hM.cell 0 _ rfl
  refine wp_scope_hop ?_
  intro Q' hret hgo
  go_wp2_with fail
  refine (partsOf_any h.ty _).mono ?_
  rintro e w1 ⟨rfl, hb1⟩
  replace hM := hM.below hb1
  replace hA := hA.below hb1
  replace hb := bnext hb hb1
  clear hb1 c0
  unfold partsV
  go_upto_region 2 with fail
  have hnb := bnew w1 (Obj.cells ([Value.bool (stB h.ty), Value.bool (tgB h.ty), Value.int IntKind.i64 (ownI h.ty)] : List Value).toArray 83)
  replace hA := hA.below hnb
  replace hb := bnext hb hnb
  clear hnb hM
  generalize w1.alloc _ = W2 at *
  go_wp2_with fail
  go_step3
  refine hgo 0 _ _ _ rfl ?_
  have hZ := hb
  go_wp2_with (guard_target =~ wpList _ _ _ (⟨none, _, _, _, _, _⟩ :: _) _ _; refine wpList_store_msg (op := ⟨none, .store _ _ _, _, _, _, _⟩) (by rfl) _ _ (by rfl) G (msgL hd0 zr) (msgL hd0 zr) _ (by rfl) (by rfl) hA (msgL_length _ _ zr_length) (msgL_length _ _ zr_length) (msgL_one _ _ zr_one) ?_)
  rw [Exit.noGoto_ret]
  refine bodyPost_ret (v := .tuple #[.agg (msgL hd0 zr).toArray, .int .i64 0, .int .i64 2]) ?_ rfl ⟨rfl, below_setRow hb hG _⟩
  exact results_msg_3 (p := 6) (u := 7) (u' := 8) rfl _ _ G _ (msgL hd0 zr) rfl (hA.row _) (msgL_length _ _ zr_length)

set_option maxRecDepth 100000 in
set_option maxHeartbeats 4000000 in
theorem bodyGet_short (v : Value) (l : List UInt8) (h : Hd) (d : Bd) (at' : Int) (w : World) (hB : Bytes w v l) (hl : l.length ≤ 140737488355328) (h0 : 0 ≤ at') (h1 : at' ≤ 9223372036854775807) (hs : (l.length : Int) - at' < lenI h.ty) :
    Calls Try.prog 29 #[.agg (msgF h d).toArray, v, .int .i64 at'] w fun e w' => e = .returned (.tuple #[.agg (msgL hd0 zr).toArray, .int .i64 0, .int .i64 2]) ∧ Below w.heap.size w w' := by
  obtain ⟨p, cap, rfl, -, -, -⟩ := hB
  have hlen := lenI_in h.ty
  obtain ⟨hlen0, hlen1⟩ := hlen
  go_enter Try.func29, Try.ntmps29
  go_wp2_with fail
  have hM : Box ((w.alloc (Obj.cells (msgF h d).toArray 28)).alloc (Obj.cells (msgL hd0 zr).toArray 28)) w.heap.size (msgF h d) 28 := (Box.new w _ _).below (bnew _ _)
  have hA : Box ((w.alloc (Obj.cells (msgF h d).toArray 28)).alloc (Obj.cells (msgL hd0 zr).toArray 28)) (w.heap.size + 1) (msgL hd0 zr) 28 := heap_alloc2_new w _ _
  have hb := bnew2 w (Obj.cells (msgF h d).toArray 28) (Obj.cells (msgL hd0 zr).toArray 28)
  have hG : w.heap.size ≤ w.heap.size + 1 := by omega
  have hne : w.heap.size + 1 ≠ w.heap.size := by omega
  change Code.wp Try.prog _ _ _ ((w.alloc (Obj.cells (msgF h d).toArray 28)).alloc (Obj.cells (msgL hd0 zr).toArray 28))
  generalize ((w.alloc (Obj.cells (msgF h d).toArray 28)).alloc (Obj.cells (msgL hd0 zr).toArray 28)) = W at *
  generalize w.heap.size + 1 = G at *
  have c0 := hM.cell 0 _ rfl
  refine wp_scope_hop ?_
  intro Q' hret hgo
  go_wp2_with fail
  refine (partsOf_any h.ty _).mono ?_
  rintro e w1 ⟨rfl, hb1⟩
  replace hM := hM.below hb1
  replace hA := hA.below hb1
  replace hb := bnext hb hb1
  clear hb1 c0
  unfold partsV
  go_upto_region 2 with fail
  have hnb := bnew w1 (Obj.cells ([Value.bool (stB h.ty), Value.bool (tgB h.ty), Value.int IntKind.i64 (ownI h.ty)] : List Value).toArray 83)
  replace hA := hA.below hnb
  replace hM := hM.below hnb
  replace hb := bnext hb hnb
  clear hnb
  generalize w1.alloc _ = W2 at *
  have c0 := hM.cell 0 _ rfl
  go_wp2_with fail
  refine (len_any _ _).mono ?_
  rintro e w2 ⟨rfl, hb2⟩
  replace hA := hA.below hb2
  replace hb := bnext hb hb2
  clear hb2 c0 hM
  go_wp2_with fail
  go_step3
  refine hgo 0 _ _ _ rfl ?_
  have hZ := hb
  go_wp2_with (guard_target =~ wpList _ _ _ (⟨none, _, _, _, _, _⟩ :: _) _ _; refine wpList_store_msg (op := ⟨none, .store _ _ _, _, _, _, _⟩) (by rfl) _ _ (by rfl) G (msgL hd0 zr) (msgL hd0 zr) _ (by rfl) (by rfl) hA (msgL_length _ _ zr_length) (msgL_length _ _ zr_length) (msgL_one _ _ zr_one) ?_)
  rw [Exit.noGoto_ret]
  refine bodyPost_ret (v := .tuple #[.agg (msgL hd0 zr).toArray, .int .i64 0, .int .i64 2]) ?_ rfl ⟨rfl, below_setRow hb hG _⟩
  exact results_msg_3 (p := 6) (u := 7) (u' := 8) rfl _ _ G _ (msgL hd0 zr) rfl (hA.row _) (msgL_length _ _ zr_length)

set_option maxRecDepth 100000 in
set_option maxHeartbeats 4000000 in
theorem bodyGet_S (v : Value) (l : List UInt8) (h : Hd) (d : Bd) (A : Nat) (w : World) (hB : Bytes w v l) (hl : l.length ≤ 140737488355328) (hA : (A : Int) + lenI h.ty ≤ l.length) (hgb : getB l A = true) (hs : stB h.ty = true) (hg : tgB h.ty = false) (h11 : h.ty ≠ 11) (h13 : h.ty ≠ 13) :
    Calls Try.prog 29 #[.agg (msgF h d).toArray, v, .int .i64 (A : Int)] w fun e w' => e = .returned (.tuple #[.agg (msgF h (⟨getV l A, d.tc, d.tp, d.ut, d.p1, d.qc, d.qa, d.qv, d.p2, d.gr, d.sr, d.og, d.sh, d.hp, d.ac⟩)).toArray, .int .i64 ((A : Int) + lenI h.ty), .int .i64 0]) ∧ Below w.heap.size w w' := by
  have e11 : (h.ty == 11) = false := by rw [beq_eq_false_iff_ne]; omega
  have e13 : (h.ty == 13) = false := by rw [beq_eq_false_iff_ne]; omega
  have hlen := lenI_in h.ty
  obtain ⟨hlen0, hlen1⟩ := hlen
  have hown := ownI_in h.ty
  obtain ⟨hown0, hown1⟩ := hown
  have hE : lenI h.ty = 10 + ownI h.ty := by unfold lenI; rw [hs, hg]; simp
  have HB := hid fun (w' : World) (h : Below w.heap.size w w') => hB.below h
  obtain ⟨p, cap, rfl, -, -, -⟩ := hB
  have hAI : A ≤ l.length := by omega
  have hns : lenI h.ty ≤ (l.length : Int) - (A : Int) := by omega
  have hE2 : (A : Int) + lenI h.ty = (A : Int) + 10 + ownI h.ty := by omega
  have HE := hid hE2
  clear hE hE2 hA h11 h13
  have Hgb := hid hgb
  clear hgb
  have Hns := hid hns
  have HAI := hid hAI
  clear hns hAI
  go_enter Try.func29, Try.ntmps29
  go_wp2_with fail
  have hM : Box ((w.alloc (Obj.cells (msgF h d).toArray 28)).alloc (Obj.cells (msgL hd0 zr).toArray 28)) w.heap.size (msgF h d) 28 := (Box.new w _ _).below (bnew _ _)
  have hA : Box ((w.alloc (Obj.cells (msgF h d).toArray 28)).alloc (Obj.cells (msgL hd0 zr).toArray 28)) (w.heap.size + 1) (msgL hd0 zr) 28 := heap_alloc2_new w _ _
  have hb := bnew2 w (Obj.cells (msgF h d).toArray 28) (Obj.cells (msgL hd0 zr).toArray 28)
  have hG : w.heap.size ≤ w.heap.size + 1 := by omega
  have hne : w.heap.size + 1 ≠ w.heap.size := by omega
  change Code.wp Try.prog _ _ _ ((w.alloc (Obj.cells (msgF h d).toArray 28)).alloc (Obj.cells (msgL hd0 zr).toArray 28))
  generalize ((w.alloc (Obj.cells (msgF h d).toArray 28)).alloc (Obj.cells (msgL hd0 zr).toArray 28)) = W at *
  generalize w.heap.size + 1 = G at *
  have c0 := hM.cell 0 _ rfl
  refine wp_scope_hop ?_
  intro Q' hret hgo
  go_wp2_with fail
  refine (partsOf_any h.ty _).mono ?_
  rintro e w1 ⟨rfl, hb1⟩
  replace hM := hM.below hb1
  replace hA := hA.below hb1
  replace hb := bnext hb hb1
  clear hb1 c0
  unfold partsV
  rw [hs, hg]
  go_upto_region 2 with fail
  have hP := Box.new w1 [Value.bool true, Value.bool false, Value.int IntKind.i64 (ownI h.ty)] 83
  have hnp : w1.heap.size ≠ w.heap.size := by have := hM.lt; omega
  have hng : w1.heap.size ≠ G := by have := hA.lt; omega
  have hnb := bnew w1 (Obj.cells ([Value.bool true, Value.bool false, Value.int IntKind.i64 (ownI h.ty)] : List Value).toArray 83)
  replace hM := hM.below hnb
  replace hA := hA.below hnb
  replace hb := bnext hb hnb
  clear hnb
  generalize w1.alloc _ = W2 at *
  generalize w1.heap.size = GP at *
  have c0 := hM.cell 0 _ rfl
  go_wp2_with fail
  refine (len_any _ _).mono ?_
  rintro e w2 ⟨rfl, hb2⟩
  replace hM := hM.below hb2
  replace hA := hA.below hb2
  replace hP := hP.below hb2
  replace hb := bnext hb hb2
  clear hb2 c0
  have hns := Hns.out
  have c0 := hM.cell 0 _ rfl
  have p0 := hP.cell 0 _ rfl
  have p1 := hP.cell 1 _ rfl
  go_wp2_with fail
  refine (stampGet_wide _ l _ _ (HB.out _ hb) hl (by have := HAI.out; omega)).mono ?_
  rintro e w' ⟨rfl, rfl⟩
  rw [Hgb.out]
  have hAI := HAI.out
  have hc8 := hM.cell 8 _ rfl
  have hf8 := hM.free 8
  clear hns
  go_upto_region 6 with fail
  replace hA := (hA.other hne 8 (.int .i64 (getV l A)))
  replace hP := (hP.other hnp 8 (.int .i64 (getV l A)))
  replace hb := (hb.setCell (p := ⟨w.heap.size, 8, none⟩) (Nat.le_refl _) (.int .i64 (getV l A)))
  replace hM : Box _ w.heap.size (msgF h ⟨getV l A, d.tc, d.tp, d.ut, d.p1, d.qc, d.qa, d.qv, d.p2, d.gr, d.sr, d.og, d.sh, d.hp, d.ac⟩) _ := (hM.set 8 (.int .i64 (getV l A)))
  clear c0 p0 p1 hc8 hf8
  generalize World.setCell _ _ _ = W at *
  have c0 := hM.cell 0 _ rfl
  have p0 := hP.cell 0 _ rfl
  have p1 := hP.cell 1 _ rfl
  go_wp2_with fail
  go_step3
  go_wp2_with fail
  go_step3
  refine hgo 2 _ _ _ rfl ?_
  go_upto_region 17 with fail
  clear c0 p0 p1
  have hsum : IntKind.i64.wrap ((A : Int) + 10 + ownI h.ty) = (A : Int) + 10 + ownI h.ty := by have := HAI.out; rw [IntKind.wrap_i64]; omega
  have hsum2 : wrap64 ((A : Int) + 10 + ownI h.ty) = (A : Int) + 10 + ownI h.ty := by have := HAI.out; unfold wrap64; omega
  refine wp_region_held_drew (S := fun w' => Box w' w.heap.size (msgF h (⟨getV l A, d.tc, d.tp, d.ut, d.p1, d.qc, d.qa, d.qv, d.p2, d.gr, d.sr, d.og, d.sh, d.hp, d.ac⟩)) 28 ∧ Box w' GP [Value.bool true, Value.bool false, Value.int IntKind.i64 (ownI h.ty)] 83) (by kernel_rfl) ⟨hM.below (Below.drew (Below.refl _ _)), hP.below (Below.drew (Below.refl _ _))⟩ ?_
  intro hS
  clear hM hP
  replace hA := hA.below (Below.drew (Below.refl W.heap.size W))
  replace hb := bnext hb (Below.drew (Below.refl W.heap.size W))
  generalize W.drew = W at *
  refine rtake 0 rfl (by rfl) (by kernel_rfl) (by kernel_rfl) (by kernel_rfl) (fun _ _ _ h => h) hS (fun wx hwx => exec_load_msg _ rfl w.heap.size rfl (msgF h (⟨getV l A, d.tc, d.tp, d.ut, d.p1, d.qc, d.qa, d.qv, d.p2, d.gr, d.sr, d.og, d.sh, d.hp, d.ac⟩)) _ hwx.1 (msgF_length _ _)) ?_
  try simp only [Act.put, List.setIfInBounds_toArray, List.set_cons_zero, List.set_cons_succ]
  refine rtake 1 rfl (by rfl) (by kernel_rfl) (by kernel_rfl) (by kernel_rfl) (fun _ _ _ h => h) hS (fun wx hwx => by go_simp; try with_reducible rfl) ?_
  try simp only [Act.put, List.setIfInBounds_toArray, List.set_cons_zero, List.set_cons_succ]
  refine rtake 2 rfl (by rfl) (by kernel_rfl) (by kernel_rfl) (by kernel_rfl) (fun _ _ _ h => h) hS (fun wx hwx => by go_simp; try with_reducible rfl) ?_
  try simp only [Act.put, List.setIfInBounds_toArray, List.set_cons_zero, List.set_cons_succ]
  refine rtake 3 rfl (by rfl) (by kernel_rfl) (by kernel_rfl) (by kernel_rfl) (fun _ _ _ h => h) hS (fun wx hwx => by have hc2 := hwx.2.cell 2 _ rfl; go_simp; try with_reducible rfl) ?_
  try simp only [Act.put, List.setIfInBounds_toArray, List.set_cons_zero, List.set_cons_succ]
  refine rtake 4 rfl (by rfl) (by kernel_rfl) (by kernel_rfl) (by kernel_rfl) (fun _ _ _ h => h) hS (fun wx hwx => by go_simp; try with_reducible rfl) ?_
  try simp only [Act.put, List.setIfInBounds_toArray, List.set_cons_zero, List.set_cons_succ]
  refine rcall 5 rfl (by kernel_rfl) (by rfl) (fun K hK => ?_)
  refine op_store_msg (op := ⟨none, .store _ _ _, _, _, _, _⟩) _ _ rfl G (msgF h (⟨getV l A, d.tc, d.tp, d.ut, d.p1, d.qc, d.qa, d.qv, d.p2, d.gr, d.sr, d.og, d.sh, d.hp, d.ac⟩)) (msgL hd0 zr) _ rfl rfl hA (msgF_length _ _) (msgL_length _ _ zr_length) (msgL_one _ _ (bdL_one _)) ?_
  have hS2 := And.intro (hS.1.row_other hne.symm (msgF h (⟨getV l A, d.tc, d.tp, d.ut, d.p1, d.qc, d.qa, d.qv, d.p2, d.gr, d.sr, d.og, d.sh, d.hp, d.ac⟩)).toArray) (hS.2.row_other hng (msgF h (⟨getV l A, d.tc, d.tp, d.ut, d.p1, d.qc, d.qa, d.qv, d.p2, d.gr, d.sr, d.og, d.sh, d.hp, d.ac⟩)).toArray)
  replace hA := hA.row (msgF h (⟨getV l A, d.tc, d.tp, d.ut, d.p1, d.qc, d.qa, d.qv, d.p2, d.gr, d.sr, d.og, d.sh, d.hp, d.ac⟩))
  replace hb := below_setRow hb hG (msgF h (⟨getV l A, d.tc, d.tp, d.ut, d.p1, d.qc, d.qa, d.qv, d.p2, d.gr, d.sr, d.og, d.sh, d.hp, d.ac⟩)).toArray
  refine hK.out _ _ hS2 ?_
  clear hK K hS
  generalize World.setRow _ _ _ = W at *
  try simp only [Act.put, List.setIfInBounds_toArray, List.set_cons_zero, List.set_cons_succ]
  refine rtake 6 rfl (by rfl) (by kernel_rfl) (by kernel_rfl) (by kernel_rfl) (fun _ _ _ h => h) hS2 (fun wx hwx => by go_simp; try with_reducible rfl) ?_
  try simp only [Act.put, List.setIfInBounds_toArray, List.set_cons_zero, List.set_cons_succ]
  refine rtake 7 rfl (by rfl) (by kernel_rfl) (by kernel_rfl) (by kernel_rfl) (fun _ _ _ h => h) hS2 (fun wx hwx => by go_simp; try with_reducible rfl) ?_
  try simp only [Act.put, List.setIfInBounds_toArray, List.set_cons_zero, List.set_cons_succ]
  refine wpAnyH_done (by kernel_rfl) ?_ _
  clear hsum hsum2
  go_wp2_with fail
  rw [Exit.noGoto_ret]
  refine bodyPost_ret (v := .tuple #[.agg (msgF h (⟨getV l A, d.tc, d.tp, d.ut, d.p1, d.qc, d.qa, d.qv, d.p2, d.gr, d.sr, d.og, d.sh, d.hp, d.ac⟩)).toArray, .int .i64 ((A : Int) + 10 + ownI h.ty), .int .i64 0]) ?_ rfl ⟨by rw [HE.out], hb⟩
  exact results_msg_3 (p := 6) (u := 7) (u' := 8) rfl _ _ G _ (msgF h (⟨getV l A, d.tc, d.tp, d.ut, d.p1, d.qc, d.qa, d.qv, d.p2, d.gr, d.sr, d.og, d.sh, d.hp, d.ac⟩)) rfl hA (msgF_length _ _)

set_option maxRecDepth 100000 in
set_option maxHeartbeats 4000000 in
theorem bodyGet_B (v : Value) (l : List UInt8) (h : Hd) (d : Bd) (A : Nat) (w : World) (hB : Bytes w v l) (hl : l.length ≤ 140737488355328) (hA : (A : Int) + lenI h.ty ≤ l.length) (hgb : getB l A = true) (hs : stB h.ty = true) (hg : tgB h.ty = true) (h11 : h.ty ≠ 11) (h13 : h.ty ≠ 13) :
    Calls Try.prog 29 #[.agg (msgF h d).toArray, v, .int .i64 (A : Int)] w fun e w' => e = .returned (.tuple #[.agg (msgF h (⟨getV l A, (numAt l (A + 10) 8 : Nat), (numAt l ((A + 10) + 8) 2 : Nat), d.ut, d.p1, d.qc, d.qa, d.qv, d.p2, d.gr, d.sr, d.og, d.sh, d.hp, d.ac⟩)).toArray, .int .i64 ((A : Int) + lenI h.ty), .int .i64 0]) ∧ Below w.heap.size w w' := by
  have e11 : (h.ty == 11) = false := by rw [beq_eq_false_iff_ne]; omega
  have e13 : (h.ty == 13) = false := by rw [beq_eq_false_iff_ne]; omega
  have hlen := lenI_in h.ty
  obtain ⟨hlen0, hlen1⟩ := hlen
  have hown := ownI_in h.ty
  obtain ⟨hown0, hown1⟩ := hown
  have hE : lenI h.ty = 20 + ownI h.ty := by unfold lenI; rw [hs, hg]; simp
  have HB := hid fun (w' : World) (h : Below w.heap.size w w') => hB.below h
  obtain ⟨p, cap, rfl, -, -, -⟩ := hB
  have hAI : A ≤ l.length := by omega
  have hns : lenI h.ty ≤ (l.length : Int) - (A : Int) := by omega
  have HS : Hid (standB l.length ((A : Int) + 10) 10 = true) := hid (standB_true (by omega) (by decide) (by omega))
  have HT : Hid (((A : Int) + 10).toNat = (A + 10)) := hid (by omega)
  have hE2 : (A : Int) + lenI h.ty = (A : Int) + 10 + 10 + ownI h.ty := by omega
  have HE := hid hE2
  clear hE hE2 hA h11 h13
  have Hgb := hid hgb
  clear hgb
  have Hns := hid hns
  have HAI := hid hAI
  clear hns hAI
  go_enter Try.func29, Try.ntmps29
  go_wp2_with fail
  have hM : Box ((w.alloc (Obj.cells (msgF h d).toArray 28)).alloc (Obj.cells (msgL hd0 zr).toArray 28)) w.heap.size (msgF h d) 28 := (Box.new w _ _).below (bnew _ _)
  have hA : Box ((w.alloc (Obj.cells (msgF h d).toArray 28)).alloc (Obj.cells (msgL hd0 zr).toArray 28)) (w.heap.size + 1) (msgL hd0 zr) 28 := heap_alloc2_new w _ _
  have hb := bnew2 w (Obj.cells (msgF h d).toArray 28) (Obj.cells (msgL hd0 zr).toArray 28)
  have hG : w.heap.size ≤ w.heap.size + 1 := by omega
  have hne : w.heap.size + 1 ≠ w.heap.size := by omega
  change Code.wp Try.prog _ _ _ ((w.alloc (Obj.cells (msgF h d).toArray 28)).alloc (Obj.cells (msgL hd0 zr).toArray 28))
  generalize ((w.alloc (Obj.cells (msgF h d).toArray 28)).alloc (Obj.cells (msgL hd0 zr).toArray 28)) = W at *
  generalize w.heap.size + 1 = G at *
  have c0 := hM.cell 0 _ rfl
  apply wp_scope_straight
  go_wp2_with fail
  refine (partsOf_any h.ty _).mono ?_
  rintro e w1 ⟨rfl, hb1⟩
  replace hM := hM.below hb1
  replace hA := hA.below hb1
  replace hb := bnext hb hb1
  clear hb1 c0
  unfold partsV
  rw [hs, hg]
  go_upto_region 2 with fail
  have hP := Box.new w1 [Value.bool true, Value.bool true, Value.int IntKind.i64 (ownI h.ty)] 83
  have hnp : w1.heap.size ≠ w.heap.size := by have := hM.lt; omega
  have hng : w1.heap.size ≠ G := by have := hA.lt; omega
  have hnb := bnew w1 (Obj.cells ([Value.bool true, Value.bool true, Value.int IntKind.i64 (ownI h.ty)] : List Value).toArray 83)
  replace hM := hM.below hnb
  replace hA := hA.below hnb
  replace hb := bnext hb hnb
  clear hnb
  generalize w1.alloc _ = W2 at *
  generalize w1.heap.size = GP at *
  have c0 := hM.cell 0 _ rfl
  go_wp2_with fail
  refine (len_any _ _).mono ?_
  rintro e w2 ⟨rfl, hb2⟩
  replace hM := hM.below hb2
  replace hA := hA.below hb2
  replace hP := hP.below hb2
  replace hb := bnext hb hb2
  clear hb2 c0
  have hns := Hns.out
  have c0 := hM.cell 0 _ rfl
  have p0 := hP.cell 0 _ rfl
  have p1 := hP.cell 1 _ rfl
  go_wp2_with fail
  refine (stampGet_wide _ l _ _ (HB.out _ hb) hl (by have := HAI.out; omega)).mono ?_
  rintro e w' ⟨rfl, rfl⟩
  rw [Hgb.out]
  have hAI := HAI.out
  have hc8 := hM.cell 8 _ rfl
  have hf8 := hM.free 8
  clear hns
  go_upto_region 6 with fail
  replace hA := (hA.other hne 8 (.int .i64 (getV l A)))
  replace hP := (hP.other hnp 8 (.int .i64 (getV l A)))
  replace hb := (hb.setCell (p := ⟨w.heap.size, 8, none⟩) (Nat.le_refl _) (.int .i64 (getV l A)))
  replace hM : Box _ w.heap.size (msgF h ⟨getV l A, d.tc, d.tp, d.ut, d.p1, d.qc, d.qa, d.qv, d.p2, d.gr, d.sr, d.og, d.sh, d.hp, d.ac⟩) _ := (hM.set 8 (.int .i64 (getV l A)))
  clear c0 p0 p1 hc8 hf8
  generalize World.setCell _ _ _ = W at *
  have c0 := hM.cell 0 _ rfl
  have p0 := hP.cell 0 _ rfl
  have p1 := hP.cell 1 _ rfl
  go_wp2_with fail
  go_step3
  go_wp2_with fail
  refine (identGet_any _ l _ _ (HB.out _ hb) (by omega) (by have := HAI.out; omega)).mono ?_
  rintro e wi ⟨rfl, hbi⟩
  rw [gotC_yes HS.out, gotP_yes HS.out, HT.out]
  replace hM := hM.below hbi
  replace hA := hA.below hbi
  replace hP := hP.below hbi
  replace hb := bnext hb hbi
  clear hbi c0 p0 p1
  have c0 := hM.cell 0 _ rfl
  have p0 := hP.cell 0 _ rfl
  have p1 := hP.cell 1 _ rfl
  have hc9 := hM.cell 9 _ rfl
  have hf9 := hM.free 9
  have hc10 := hM.cell 10 _ rfl
  have hf10 := hM.free 10
  go_upto_region 11 with fail
  replace hA := ((hA.other hne 9 (.int .u64 ((numAt l (A + 10) 8 : Nat)))).other hne 10 (.int .i64 ((numAt l ((A + 10) + 8) 2 : Nat))))
  replace hP := ((hP.other hnp 9 (.int .u64 ((numAt l (A + 10) 8 : Nat)))).other hnp 10 (.int .i64 ((numAt l ((A + 10) + 8) 2 : Nat))))
  replace hb := ((hb.setCell (p := ⟨w.heap.size, 9, none⟩) (Nat.le_refl _) (.int .u64 ((numAt l (A + 10) 8 : Nat)))).setCell (p := ⟨w.heap.size, 10, none⟩) (Nat.le_refl _) (.int .i64 ((numAt l ((A + 10) + 8) 2 : Nat))))
  replace hM : Box _ w.heap.size (msgF h ⟨getV l A, (numAt l (A + 10) 8 : Nat), (numAt l ((A + 10) + 8) 2 : Nat), d.ut, d.p1, d.qc, d.qa, d.qv, d.p2, d.gr, d.sr, d.og, d.sh, d.hp, d.ac⟩) _ := ((hM.set 9 (.int .u64 ((numAt l (A + 10) 8 : Nat)))).set 10 (.int .i64 ((numAt l ((A + 10) + 8) 2 : Nat))))
  clear c0 p0 p1 hc9 hf9 hc10 hf10
  generalize World.setCell _ _ _ = W at *
  have c0 := hM.cell 0 _ rfl
  have p0 := hP.cell 0 _ rfl
  have p1 := hP.cell 1 _ rfl
  go_wp2_with fail
  go_step3
  go_upto_region 17 with fail
  clear c0 p0 p1
  have hsum : IntKind.i64.wrap ((A : Int) + 10 + 10 + ownI h.ty) = (A : Int) + 10 + 10 + ownI h.ty := by have := HAI.out; rw [IntKind.wrap_i64]; omega
  have hsum2 : wrap64 ((A : Int) + 10 + 10 + ownI h.ty) = (A : Int) + 10 + 10 + ownI h.ty := by have := HAI.out; unfold wrap64; omega
  refine wp_region_held_drew (S := fun w' => Box w' w.heap.size (msgF h (⟨getV l A, (numAt l (A + 10) 8 : Nat), (numAt l ((A + 10) + 8) 2 : Nat), d.ut, d.p1, d.qc, d.qa, d.qv, d.p2, d.gr, d.sr, d.og, d.sh, d.hp, d.ac⟩)) 28 ∧ Box w' GP [Value.bool true, Value.bool true, Value.int IntKind.i64 (ownI h.ty)] 83) (by kernel_rfl) ⟨hM.below (Below.drew (Below.refl _ _)), hP.below (Below.drew (Below.refl _ _))⟩ ?_
  intro hS
  clear hM hP
  replace hA := hA.below (Below.drew (Below.refl W.heap.size W))
  replace hb := bnext hb (Below.drew (Below.refl W.heap.size W))
  generalize W.drew = W at *
  refine rtake 0 rfl (by rfl) (by kernel_rfl) (by kernel_rfl) (by kernel_rfl) (fun _ _ _ h => h) hS (fun wx hwx => exec_load_msg _ rfl w.heap.size rfl (msgF h (⟨getV l A, (numAt l (A + 10) 8 : Nat), (numAt l ((A + 10) + 8) 2 : Nat), d.ut, d.p1, d.qc, d.qa, d.qv, d.p2, d.gr, d.sr, d.og, d.sh, d.hp, d.ac⟩)) _ hwx.1 (msgF_length _ _)) ?_
  try simp only [Act.put, List.setIfInBounds_toArray, List.set_cons_zero, List.set_cons_succ]
  refine rtake 1 rfl (by rfl) (by kernel_rfl) (by kernel_rfl) (by kernel_rfl) (fun _ _ _ h => h) hS (fun wx hwx => by go_simp; try with_reducible rfl) ?_
  try simp only [Act.put, List.setIfInBounds_toArray, List.set_cons_zero, List.set_cons_succ]
  refine rtake 2 rfl (by rfl) (by kernel_rfl) (by kernel_rfl) (by kernel_rfl) (fun _ _ _ h => h) hS (fun wx hwx => by go_simp; try with_reducible rfl) ?_
  try simp only [Act.put, List.setIfInBounds_toArray, List.set_cons_zero, List.set_cons_succ]
  refine rtake 3 rfl (by rfl) (by kernel_rfl) (by kernel_rfl) (by kernel_rfl) (fun _ _ _ h => h) hS (fun wx hwx => by have hc2 := hwx.2.cell 2 _ rfl; go_simp; try with_reducible rfl) ?_
  try simp only [Act.put, List.setIfInBounds_toArray, List.set_cons_zero, List.set_cons_succ]
  refine rtake 4 rfl (by rfl) (by kernel_rfl) (by kernel_rfl) (by kernel_rfl) (fun _ _ _ h => h) hS (fun wx hwx => by go_simp; try with_reducible rfl) ?_
  try simp only [Act.put, List.setIfInBounds_toArray, List.set_cons_zero, List.set_cons_succ]
  refine rcall 5 rfl (by kernel_rfl) (by rfl) (fun K hK => ?_)
  refine op_store_msg (op := ⟨none, .store _ _ _, _, _, _, _⟩) _ _ rfl G (msgF h (⟨getV l A, (numAt l (A + 10) 8 : Nat), (numAt l ((A + 10) + 8) 2 : Nat), d.ut, d.p1, d.qc, d.qa, d.qv, d.p2, d.gr, d.sr, d.og, d.sh, d.hp, d.ac⟩)) (msgL hd0 zr) _ rfl rfl hA (msgF_length _ _) (msgL_length _ _ zr_length) (msgL_one _ _ (bdL_one _)) ?_
  have hS2 := And.intro (hS.1.row_other hne.symm (msgF h (⟨getV l A, (numAt l (A + 10) 8 : Nat), (numAt l ((A + 10) + 8) 2 : Nat), d.ut, d.p1, d.qc, d.qa, d.qv, d.p2, d.gr, d.sr, d.og, d.sh, d.hp, d.ac⟩)).toArray) (hS.2.row_other hng (msgF h (⟨getV l A, (numAt l (A + 10) 8 : Nat), (numAt l ((A + 10) + 8) 2 : Nat), d.ut, d.p1, d.qc, d.qa, d.qv, d.p2, d.gr, d.sr, d.og, d.sh, d.hp, d.ac⟩)).toArray)
  replace hA := hA.row (msgF h (⟨getV l A, (numAt l (A + 10) 8 : Nat), (numAt l ((A + 10) + 8) 2 : Nat), d.ut, d.p1, d.qc, d.qa, d.qv, d.p2, d.gr, d.sr, d.og, d.sh, d.hp, d.ac⟩))
  replace hb := below_setRow hb hG (msgF h (⟨getV l A, (numAt l (A + 10) 8 : Nat), (numAt l ((A + 10) + 8) 2 : Nat), d.ut, d.p1, d.qc, d.qa, d.qv, d.p2, d.gr, d.sr, d.og, d.sh, d.hp, d.ac⟩)).toArray
  refine hK.out _ _ hS2 ?_
  clear hK K hS
  generalize World.setRow _ _ _ = W at *
  try simp only [Act.put, List.setIfInBounds_toArray, List.set_cons_zero, List.set_cons_succ]
  refine rtake 6 rfl (by rfl) (by kernel_rfl) (by kernel_rfl) (by kernel_rfl) (fun _ _ _ h => h) hS2 (fun wx hwx => by go_simp; try with_reducible rfl) ?_
  try simp only [Act.put, List.setIfInBounds_toArray, List.set_cons_zero, List.set_cons_succ]
  refine rtake 7 rfl (by rfl) (by kernel_rfl) (by kernel_rfl) (by kernel_rfl) (fun _ _ _ h => h) hS2 (fun wx hwx => by go_simp; try with_reducible rfl) ?_
  try simp only [Act.put, List.setIfInBounds_toArray, List.set_cons_zero, List.set_cons_succ]
  refine wpAnyH_done (by kernel_rfl) ?_ _
  clear hsum hsum2
  go_wp2_with fail
  rw [Exit.noGoto_ret]
  refine bodyPost_ret (v := .tuple #[.agg (msgF h (⟨getV l A, (numAt l (A + 10) 8 : Nat), (numAt l ((A + 10) + 8) 2 : Nat), d.ut, d.p1, d.qc, d.qa, d.qv, d.p2, d.gr, d.sr, d.og, d.sh, d.hp, d.ac⟩)).toArray, .int .i64 ((A : Int) + 10 + 10 + ownI h.ty), .int .i64 0]) ?_ rfl ⟨by rw [HE.out], hb⟩
  exact results_msg_3 (p := 6) (u := 7) (u' := 8) rfl _ _ G _ (msgF h (⟨getV l A, (numAt l (A + 10) 8 : Nat), (numAt l ((A + 10) + 8) 2 : Nat), d.ut, d.p1, d.qc, d.qa, d.qv, d.p2, d.gr, d.sr, d.og, d.sh, d.hp, d.ac⟩)) rfl hA (msgF_length _ _)

set_option maxRecDepth 100000 in
set_option maxHeartbeats 4000000 in
theorem bodyGet_A (v : Value) (l : List UInt8) (h : Hd) (d : Bd) (A : Nat) (w : World) (hB : Bytes w v l) (hl : l.length ≤ 140737488355328) (hA : (A : Int) + lenI h.ty ≤ l.length) (hgb : getB l A = true) (h11 : h.ty = 11) :
    Calls Try.prog 29 #[.agg (msgF h d).toArray, v, .int .i64 (A : Int)] w fun e w' => e = .returned (.tuple #[.agg (msgF h (gotAnn ⟨getV l A, d.tc, d.tp, d.ut, d.p1, d.qc, d.qa, d.qv, d.p2, d.gr, d.sr, d.og, d.sh, d.hp, d.ac⟩ l (A + 10))).toArray, .int .i64 ((A : Int) + lenI h.ty), .int .i64 0]) ∧ Below w.heap.size w w' := by
  have hs : stB h.ty = true := by rw [h11]; decide
  have hg : tgB h.ty = false := by rw [h11]; decide
  have h13 : h.ty ≠ 13 := by omega
  have e11 : (h.ty == 11) = true := by rw [beq_iff_eq]; omega
  have e13 : (h.ty == 13) = false := by rw [beq_eq_false_iff_ne]; omega
  have hlen := lenI_in h.ty
  obtain ⟨hlen0, hlen1⟩ := hlen
  have hown := ownI_in h.ty
  obtain ⟨hown0, hown1⟩ := hown
  have hE : lenI h.ty = 10 + ownI h.ty := by unfold lenI; rw [hs, hg]; simp
  have hO : ownI h.ty = 20 := by rw [h11]; rfl
  have HB := hid fun (w' : World) (h : Below w.heap.size w w') => hB.below h
  obtain ⟨p, cap, rfl, -, -, -⟩ := hB
  have hAI : A ≤ l.length := by omega
  have hns : lenI h.ty ≤ (l.length : Int) - (A : Int) := by omega
  have HX : Hid (A + 10 + 20 ≤ l.length) := hid (by omega)
  have hE2 : (A : Int) + lenI h.ty = (A : Int) + 10 + ownI h.ty := by omega
  have HE := hid hE2
  clear hE hE2 hA h11 h13 hO
  have Hgb := hid hgb
  clear hgb
  have Hns := hid hns
  have HAI := hid hAI
  clear hns hAI
  go_enter Try.func29, Try.ntmps29
  go_wp2_with fail
  have hM : Box ((w.alloc (Obj.cells (msgF h d).toArray 28)).alloc (Obj.cells (msgL hd0 zr).toArray 28)) w.heap.size (msgF h d) 28 := (Box.new w _ _).below (bnew _ _)
  have hA : Box ((w.alloc (Obj.cells (msgF h d).toArray 28)).alloc (Obj.cells (msgL hd0 zr).toArray 28)) (w.heap.size + 1) (msgL hd0 zr) 28 := heap_alloc2_new w _ _
  have hb := bnew2 w (Obj.cells (msgF h d).toArray 28) (Obj.cells (msgL hd0 zr).toArray 28)
  have hG : w.heap.size ≤ w.heap.size + 1 := by omega
  have hne : w.heap.size + 1 ≠ w.heap.size := by omega
  change Code.wp Try.prog _ _ _ ((w.alloc (Obj.cells (msgF h d).toArray 28)).alloc (Obj.cells (msgL hd0 zr).toArray 28))
  generalize ((w.alloc (Obj.cells (msgF h d).toArray 28)).alloc (Obj.cells (msgL hd0 zr).toArray 28)) = W at *
  generalize w.heap.size + 1 = G at *
  have c0 := hM.cell 0 _ rfl
  refine wp_scope_hop ?_
  intro Q' hret hgo
  go_wp2_with fail
  refine (partsOf_any h.ty _).mono ?_
  rintro e w1 ⟨rfl, hb1⟩
  replace hM := hM.below hb1
  replace hA := hA.below hb1
  replace hb := bnext hb hb1
  clear hb1 c0
  unfold partsV
  rw [hs, hg]
  go_upto_region 2 with fail
  have hP := Box.new w1 [Value.bool true, Value.bool false, Value.int IntKind.i64 (ownI h.ty)] 83
  have hnp : w1.heap.size ≠ w.heap.size := by have := hM.lt; omega
  have hng : w1.heap.size ≠ G := by have := hA.lt; omega
  have hnb := bnew w1 (Obj.cells ([Value.bool true, Value.bool false, Value.int IntKind.i64 (ownI h.ty)] : List Value).toArray 83)
  replace hM := hM.below hnb
  replace hA := hA.below hnb
  replace hb := bnext hb hnb
  clear hnb
  generalize w1.alloc _ = W2 at *
  generalize w1.heap.size = GP at *
  have c0 := hM.cell 0 _ rfl
  go_wp2_with fail
  refine (len_any _ _).mono ?_
  rintro e w2 ⟨rfl, hb2⟩
  replace hM := hM.below hb2
  replace hA := hA.below hb2
  replace hP := hP.below hb2
  replace hb := bnext hb hb2
  clear hb2 c0
  have hns := Hns.out
  have c0 := hM.cell 0 _ rfl
  have p0 := hP.cell 0 _ rfl
  have p1 := hP.cell 1 _ rfl
  go_wp2_with fail
  refine (stampGet_wide _ l _ _ (HB.out _ hb) hl (by have := HAI.out; omega)).mono ?_
  rintro e w' ⟨rfl, rfl⟩
  rw [Hgb.out]
  have hAI := HAI.out
  have hc8 := hM.cell 8 _ rfl
  have hf8 := hM.free 8
  clear hns
  go_upto_region 6 with fail
  replace hA := (hA.other hne 8 (.int .i64 (getV l A)))
  replace hP := (hP.other hnp 8 (.int .i64 (getV l A)))
  replace hb := (hb.setCell (p := ⟨w.heap.size, 8, none⟩) (Nat.le_refl _) (.int .i64 (getV l A)))
  replace hM : Box _ w.heap.size (msgF h ⟨getV l A, d.tc, d.tp, d.ut, d.p1, d.qc, d.qa, d.qv, d.p2, d.gr, d.sr, d.og, d.sh, d.hp, d.ac⟩) _ := (hM.set 8 (.int .i64 (getV l A)))
  clear c0 p0 p1 hc8 hf8
  generalize World.setCell _ _ _ = W at *
  have c0 := hM.cell 0 _ rfl
  have p0 := hP.cell 0 _ rfl
  have p1 := hP.cell 1 _ rfl
  go_wp2_with fail
  go_step3
  go_wp2_with fail
  go_step3
  refine hgo 2 _ _ _ rfl ?_
  go_wp2_with (guard_target =~ wpList _ _ _ (⟨some 59, _, _, _, _, _⟩ :: _) _ _; refine wpList_load_msg (op := ⟨some 59, .load _ _, _, _, _, _⟩) (by rfl) _ (by rfl) w.heap.size (by rfl) (msgF h ⟨getV l A, d.tc, d.tp, d.ut, d.p1, d.qc, d.qa, d.qv, d.p2, d.gr, d.sr, d.og, d.sh, d.hp, d.ac⟩) _ hM (msgF_length _ _) ?_)
  have hpos : (A : Int) + 10 = ((A + 10 : Nat) : Int) := by omega
  have hcall := getAnn_any _ l h ⟨getV l A, d.tc, d.tp, d.ut, d.p1, d.qc, d.qa, d.qv, d.p2, d.gr, d.sr, d.og, d.sh, d.hp, d.ac⟩ (A + 10) _ (HB.out _ hb) hl HX.out
  rw [← hpos] at hcall
  clear hpos
  refine hcall.mono ?_
  rintro e w5 ⟨rfl, hb5⟩
  clear hcall
  replace hM := hM.below hb5
  replace hA := hA.below hb5
  replace hP := hP.below hb5
  replace hb := bnext hb hb5
  clear hb5 c0 p0 p1
  go_upto_region 17 with (guard_target =~ wpList _ _ _ (⟨none, _, _, _, _, _⟩ :: _) _ _; refine wpList_store_msg (op := ⟨none, .store _ _ _, _, _, _, _⟩) (by rfl) _ _ (by rfl) w.heap.size (msgF h (gotAnn ⟨getV l A, d.tc, d.tp, d.ut, d.p1, d.qc, d.qa, d.qv, d.p2, d.gr, d.sr, d.og, d.sh, d.hp, d.ac⟩ l (A + 10))) (msgF h ⟨getV l A, d.tc, d.tp, d.ut, d.p1, d.qc, d.qa, d.qv, d.p2, d.gr, d.sr, d.og, d.sh, d.hp, d.ac⟩) _ (by rfl) (by rfl) hM (msgF_length _ _) (msgF_length _ _) (msgL_one _ _ (bdL_one _)) ?_)
  replace hA := hA.row_other hne (msgF h (gotAnn ⟨getV l A, d.tc, d.tp, d.ut, d.p1, d.qc, d.qa, d.qv, d.p2, d.gr, d.sr, d.og, d.sh, d.hp, d.ac⟩ l (A + 10))).toArray
  replace hP := hP.row_other hnp (msgF h (gotAnn ⟨getV l A, d.tc, d.tp, d.ut, d.p1, d.qc, d.qa, d.qv, d.p2, d.gr, d.sr, d.og, d.sh, d.hp, d.ac⟩ l (A + 10))).toArray
  replace hM := hM.row (msgF h (gotAnn ⟨getV l A, d.tc, d.tp, d.ut, d.p1, d.qc, d.qa, d.qv, d.p2, d.gr, d.sr, d.og, d.sh, d.hp, d.ac⟩ l (A + 10)))
  replace hb := below_setRow hb (Nat.le_refl _) (msgF h (gotAnn ⟨getV l A, d.tc, d.tp, d.ut, d.p1, d.qc, d.qa, d.qv, d.p2, d.gr, d.sr, d.og, d.sh, d.hp, d.ac⟩ l (A + 10))).toArray
  change Code.wp _ _ _ _ (w5.setRow w.heap.size (msgF h (gotAnn ⟨getV l A, d.tc, d.tp, d.ut, d.p1, d.qc, d.qa, d.qv, d.p2, d.gr, d.sr, d.og, d.sh, d.hp, d.ac⟩ l (A + 10))).toArray)
  generalize w5.setRow w.heap.size _ = W at *
  have hsum : IntKind.i64.wrap ((A : Int) + 10 + ownI h.ty) = (A : Int) + 10 + ownI h.ty := by have := HAI.out; rw [IntKind.wrap_i64]; omega
  have hsum2 : wrap64 ((A : Int) + 10 + ownI h.ty) = (A : Int) + 10 + ownI h.ty := by have := HAI.out; unfold wrap64; omega
  refine wp_region_held_drew (S := fun w' => Box w' w.heap.size (msgF h (gotAnn ⟨getV l A, d.tc, d.tp, d.ut, d.p1, d.qc, d.qa, d.qv, d.p2, d.gr, d.sr, d.og, d.sh, d.hp, d.ac⟩ l (A + 10))) 28 ∧ Box w' GP [Value.bool true, Value.bool false, Value.int IntKind.i64 (ownI h.ty)] 83) (by kernel_rfl) ⟨hM.below (Below.drew (Below.refl _ _)), hP.below (Below.drew (Below.refl _ _))⟩ ?_
  intro hS
  clear hM hP
  replace hA := hA.below (Below.drew (Below.refl W.heap.size W))
  replace hb := bnext hb (Below.drew (Below.refl W.heap.size W))
  generalize W.drew = W at *
  refine rtake 0 rfl (by rfl) (by kernel_rfl) (by kernel_rfl) (by kernel_rfl) (fun _ _ _ h => h) hS (fun wx hwx => exec_load_msg _ rfl w.heap.size rfl (msgF h (gotAnn ⟨getV l A, d.tc, d.tp, d.ut, d.p1, d.qc, d.qa, d.qv, d.p2, d.gr, d.sr, d.og, d.sh, d.hp, d.ac⟩ l (A + 10))) _ hwx.1 (msgF_length _ _)) ?_
  try simp only [Act.put, List.setIfInBounds_toArray, List.set_cons_zero, List.set_cons_succ]
  refine rtake 1 rfl (by rfl) (by kernel_rfl) (by kernel_rfl) (by kernel_rfl) (fun _ _ _ h => h) hS (fun wx hwx => by go_simp; try with_reducible rfl) ?_
  try simp only [Act.put, List.setIfInBounds_toArray, List.set_cons_zero, List.set_cons_succ]
  refine rtake 2 rfl (by rfl) (by kernel_rfl) (by kernel_rfl) (by kernel_rfl) (fun _ _ _ h => h) hS (fun wx hwx => by go_simp; try with_reducible rfl) ?_
  try simp only [Act.put, List.setIfInBounds_toArray, List.set_cons_zero, List.set_cons_succ]
  refine rtake 3 rfl (by rfl) (by kernel_rfl) (by kernel_rfl) (by kernel_rfl) (fun _ _ _ h => h) hS (fun wx hwx => by have hc2 := hwx.2.cell 2 _ rfl; go_simp; try with_reducible rfl) ?_
  try simp only [Act.put, List.setIfInBounds_toArray, List.set_cons_zero, List.set_cons_succ]
  refine rtake 4 rfl (by rfl) (by kernel_rfl) (by kernel_rfl) (by kernel_rfl) (fun _ _ _ h => h) hS (fun wx hwx => by go_simp; try with_reducible rfl) ?_
  try simp only [Act.put, List.setIfInBounds_toArray, List.set_cons_zero, List.set_cons_succ]
  refine rcall 5 rfl (by kernel_rfl) (by rfl) (fun K hK => ?_)
  refine op_store_msg (op := ⟨none, .store _ _ _, _, _, _, _⟩) _ _ rfl G (msgF h (gotAnn ⟨getV l A, d.tc, d.tp, d.ut, d.p1, d.qc, d.qa, d.qv, d.p2, d.gr, d.sr, d.og, d.sh, d.hp, d.ac⟩ l (A + 10))) (msgL hd0 zr) _ rfl rfl hA (msgF_length _ _) (msgL_length _ _ zr_length) (msgL_one _ _ (bdL_one _)) ?_
  have hS2 := And.intro (hS.1.row_other hne.symm (msgF h (gotAnn ⟨getV l A, d.tc, d.tp, d.ut, d.p1, d.qc, d.qa, d.qv, d.p2, d.gr, d.sr, d.og, d.sh, d.hp, d.ac⟩ l (A + 10))).toArray) (hS.2.row_other hng (msgF h (gotAnn ⟨getV l A, d.tc, d.tp, d.ut, d.p1, d.qc, d.qa, d.qv, d.p2, d.gr, d.sr, d.og, d.sh, d.hp, d.ac⟩ l (A + 10))).toArray)
  replace hA := hA.row (msgF h (gotAnn ⟨getV l A, d.tc, d.tp, d.ut, d.p1, d.qc, d.qa, d.qv, d.p2, d.gr, d.sr, d.og, d.sh, d.hp, d.ac⟩ l (A + 10)))
  replace hb := below_setRow hb hG (msgF h (gotAnn ⟨getV l A, d.tc, d.tp, d.ut, d.p1, d.qc, d.qa, d.qv, d.p2, d.gr, d.sr, d.og, d.sh, d.hp, d.ac⟩ l (A + 10))).toArray
  refine hK.out _ _ hS2 ?_
  clear hK K hS
  generalize World.setRow _ _ _ = W at *
  try simp only [Act.put, List.setIfInBounds_toArray, List.set_cons_zero, List.set_cons_succ]
  refine rtake 6 rfl (by rfl) (by kernel_rfl) (by kernel_rfl) (by kernel_rfl) (fun _ _ _ h => h) hS2 (fun wx hwx => by go_simp; try with_reducible rfl) ?_
  try simp only [Act.put, List.setIfInBounds_toArray, List.set_cons_zero, List.set_cons_succ]
  refine rtake 7 rfl (by rfl) (by kernel_rfl) (by kernel_rfl) (by kernel_rfl) (fun _ _ _ h => h) hS2 (fun wx hwx => by go_simp; try with_reducible rfl) ?_
  try simp only [Act.put, List.setIfInBounds_toArray, List.set_cons_zero, List.set_cons_succ]
  refine wpAnyH_done (by kernel_rfl) ?_ _
  clear hsum hsum2
  go_wp2_with fail
  rw [Exit.noGoto_ret]
  refine bodyPost_ret (v := .tuple #[.agg (msgF h (gotAnn ⟨getV l A, d.tc, d.tp, d.ut, d.p1, d.qc, d.qa, d.qv, d.p2, d.gr, d.sr, d.og, d.sh, d.hp, d.ac⟩ l (A + 10))).toArray, .int .i64 ((A : Int) + 10 + ownI h.ty), .int .i64 0]) ?_ rfl ⟨by rw [HE.out], hb⟩
  exact results_msg_3 (p := 6) (u := 7) (u' := 8) rfl _ _ G _ (msgF h (gotAnn ⟨getV l A, d.tc, d.tp, d.ut, d.p1, d.qc, d.qa, d.qv, d.p2, d.gr, d.sr, d.og, d.sh, d.hp, d.ac⟩ l (A + 10))) rfl hA (msgF_length _ _)

set_option maxRecDepth 100000 in
set_option maxHeartbeats 4000000 in
theorem bodyGet_G (v : Value) (l : List UInt8) (h : Hd) (d : Bd) (A : Nat) (w : World) (hB : Bytes w v l) (hl : l.length ≤ 140737488355328) (hA : (A : Int) + lenI h.ty ≤ l.length) (hs : stB h.ty = false) (hg : tgB h.ty = true) (h11 : h.ty ≠ 11) (h13 : h.ty ≠ 13) :
    Calls Try.prog 29 #[.agg (msgF h d).toArray, v, .int .i64 (A : Int)] w fun e w' => e = .returned (.tuple #[.agg (msgF h (⟨d.st, (numAt l A 8 : Nat), (numAt l (A + 8) 2 : Nat), d.ut, d.p1, d.qc, d.qa, d.qv, d.p2, d.gr, d.sr, d.og, d.sh, d.hp, d.ac⟩)).toArray, .int .i64 ((A : Int) + lenI h.ty), .int .i64 0]) ∧ Below w.heap.size w w' := by
  have e11 : (h.ty == 11) = false := by rw [beq_eq_false_iff_ne]; omega
  have e13 : (h.ty == 13) = false := by rw [beq_eq_false_iff_ne]; omega
  have hlen := lenI_in h.ty
  obtain ⟨hlen0, hlen1⟩ := hlen
  have hown := ownI_in h.ty
  obtain ⟨hown0, hown1⟩ := hown
  have hE : lenI h.ty = 10 + ownI h.ty := by unfold lenI; rw [hs, hg]; simp
  have HB := hid fun (w' : World) (h : Below w.heap.size w w') => hB.below h
  obtain ⟨p, cap, rfl, -, -, -⟩ := hB
  have hAI : A ≤ l.length := by omega
  have hns : lenI h.ty ≤ (l.length : Int) - (A : Int) := by omega
  have HS : Hid (standB l.length ((A : Int)) 10 = true) := hid (standB_true (by omega) (by decide) (by omega))
  have HT : Hid (((A : Int)).toNat = A) := hid (by omega)
  have hE2 : (A : Int) + lenI h.ty = (A : Int) + 10 + ownI h.ty := by omega
  have HE := hid hE2
  clear hE hE2 hA h11 h13
  have Hns := hid hns
  have HAI := hid hAI
  clear hns hAI
  go_enter Try.func29, Try.ntmps29
  go_wp2_with fail
  have hM : Box ((w.alloc (Obj.cells (msgF h d).toArray 28)).alloc (Obj.cells (msgL hd0 zr).toArray 28)) w.heap.size (msgF h d) 28 := (Box.new w _ _).below (bnew _ _)
  have hA : Box ((w.alloc (Obj.cells (msgF h d).toArray 28)).alloc (Obj.cells (msgL hd0 zr).toArray 28)) (w.heap.size + 1) (msgL hd0 zr) 28 := heap_alloc2_new w _ _
  have hb := bnew2 w (Obj.cells (msgF h d).toArray 28) (Obj.cells (msgL hd0 zr).toArray 28)
  have hG : w.heap.size ≤ w.heap.size + 1 := by omega
  have hne : w.heap.size + 1 ≠ w.heap.size := by omega
  change Code.wp Try.prog _ _ _ ((w.alloc (Obj.cells (msgF h d).toArray 28)).alloc (Obj.cells (msgL hd0 zr).toArray 28))
  generalize ((w.alloc (Obj.cells (msgF h d).toArray 28)).alloc (Obj.cells (msgL hd0 zr).toArray 28)) = W at *
  generalize w.heap.size + 1 = G at *
  have c0 := hM.cell 0 _ rfl
  refine wp_scope_hop ?_
  intro Q' hret hgo
  go_wp2_with fail
  refine (partsOf_any h.ty _).mono ?_
  rintro e w1 ⟨rfl, hb1⟩
  replace hM := hM.below hb1
  replace hA := hA.below hb1
  replace hb := bnext hb hb1
  clear hb1 c0
  unfold partsV
  rw [hs, hg]
  go_upto_region 2 with fail
  have hP := Box.new w1 [Value.bool false, Value.bool true, Value.int IntKind.i64 (ownI h.ty)] 83
  have hnp : w1.heap.size ≠ w.heap.size := by have := hM.lt; omega
  have hng : w1.heap.size ≠ G := by have := hA.lt; omega
  have hnb := bnew w1 (Obj.cells ([Value.bool false, Value.bool true, Value.int IntKind.i64 (ownI h.ty)] : List Value).toArray 83)
  replace hM := hM.below hnb
  replace hA := hA.below hnb
  replace hb := bnext hb hnb
  clear hnb
  generalize w1.alloc _ = W2 at *
  generalize w1.heap.size = GP at *
  have c0 := hM.cell 0 _ rfl
  go_wp2_with fail
  refine (len_any _ _).mono ?_
  rintro e w2 ⟨rfl, hb2⟩
  replace hM := hM.below hb2
  replace hA := hA.below hb2
  replace hP := hP.below hb2
  replace hb := bnext hb hb2
  clear hb2 c0
  have hns := Hns.out
  have c0 := hM.cell 0 _ rfl
  have p0 := hP.cell 0 _ rfl
  have p1 := hP.cell 1 _ rfl
  go_wp2_with fail
  go_step3
  refine hgo 1 _ _ _ rfl ?_
  go_wp2_with fail
  refine (identGet_any _ l _ _ (HB.out _ hb) (by omega) (by have := HAI.out; omega)).mono ?_
  rintro e wi ⟨rfl, hbi⟩
  rw [gotC_yes HS.out, gotP_yes HS.out, HT.out]
  replace hM := hM.below hbi
  replace hA := hA.below hbi
  replace hP := hP.below hbi
  replace hb := bnext hb hbi
  clear hbi c0 p0 p1
  have c0 := hM.cell 0 _ rfl
  have p0 := hP.cell 0 _ rfl
  have p1 := hP.cell 1 _ rfl
  clear hns
  have hAI := HAI.out
  have hc9 := hM.cell 9 _ rfl
  have hf9 := hM.free 9
  have hc10 := hM.cell 10 _ rfl
  have hf10 := hM.free 10
  go_upto_region 11 with fail
  replace hA := ((hA.other hne 9 (.int .u64 ((numAt l A 8 : Nat)))).other hne 10 (.int .i64 ((numAt l (A + 8) 2 : Nat))))
  replace hP := ((hP.other hnp 9 (.int .u64 ((numAt l A 8 : Nat)))).other hnp 10 (.int .i64 ((numAt l (A + 8) 2 : Nat))))
  replace hb := ((hb.setCell (p := ⟨w.heap.size, 9, none⟩) (Nat.le_refl _) (.int .u64 ((numAt l A 8 : Nat)))).setCell (p := ⟨w.heap.size, 10, none⟩) (Nat.le_refl _) (.int .i64 ((numAt l (A + 8) 2 : Nat))))
  replace hM : Box _ w.heap.size (msgF h ⟨d.st, (numAt l A 8 : Nat), (numAt l (A + 8) 2 : Nat), d.ut, d.p1, d.qc, d.qa, d.qv, d.p2, d.gr, d.sr, d.og, d.sh, d.hp, d.ac⟩) _ := ((hM.set 9 (.int .u64 ((numAt l A 8 : Nat)))).set 10 (.int .i64 ((numAt l (A + 8) 2 : Nat))))
  clear c0 p0 p1 hc9 hf9 hc10 hf10
  generalize World.setCell _ _ _ = W at *
  have c0 := hM.cell 0 _ rfl
  have p0 := hP.cell 0 _ rfl
  have p1 := hP.cell 1 _ rfl
  go_wp2_with fail
  go_step3
  go_upto_region 17 with fail
  clear c0 p0 p1
  have hsum : IntKind.i64.wrap ((A : Int) + 10 + ownI h.ty) = (A : Int) + 10 + ownI h.ty := by have := HAI.out; rw [IntKind.wrap_i64]; omega
  have hsum2 : wrap64 ((A : Int) + 10 + ownI h.ty) = (A : Int) + 10 + ownI h.ty := by have := HAI.out; unfold wrap64; omega
  refine wp_region_held_drew (S := fun w' => Box w' w.heap.size (msgF h (⟨d.st, (numAt l A 8 : Nat), (numAt l (A + 8) 2 : Nat), d.ut, d.p1, d.qc, d.qa, d.qv, d.p2, d.gr, d.sr, d.og, d.sh, d.hp, d.ac⟩)) 28 ∧ Box w' GP [Value.bool false, Value.bool true, Value.int IntKind.i64 (ownI h.ty)] 83) (by kernel_rfl) ⟨hM.below (Below.drew (Below.refl _ _)), hP.below (Below.drew (Below.refl _ _))⟩ ?_
  intro hS
  clear hM hP
  replace hA := hA.below (Below.drew (Below.refl W.heap.size W))
  replace hb := bnext hb (Below.drew (Below.refl W.heap.size W))
  generalize W.drew = W at *
  refine rtake 0 rfl (by rfl) (by kernel_rfl) (by kernel_rfl) (by kernel_rfl) (fun _ _ _ h => h) hS (fun wx hwx => exec_load_msg _ rfl w.heap.size rfl (msgF h (⟨d.st, (numAt l A 8 : Nat), (numAt l (A + 8) 2 : Nat), d.ut, d.p1, d.qc, d.qa, d.qv, d.p2, d.gr, d.sr, d.og, d.sh, d.hp, d.ac⟩)) _ hwx.1 (msgF_length _ _)) ?_
  try simp only [Act.put, List.setIfInBounds_toArray, List.set_cons_zero, List.set_cons_succ]
  refine rtake 1 rfl (by rfl) (by kernel_rfl) (by kernel_rfl) (by kernel_rfl) (fun _ _ _ h => h) hS (fun wx hwx => by go_simp; try with_reducible rfl) ?_
  try simp only [Act.put, List.setIfInBounds_toArray, List.set_cons_zero, List.set_cons_succ]
  refine rtake 2 rfl (by rfl) (by kernel_rfl) (by kernel_rfl) (by kernel_rfl) (fun _ _ _ h => h) hS (fun wx hwx => by go_simp; try with_reducible rfl) ?_
  try simp only [Act.put, List.setIfInBounds_toArray, List.set_cons_zero, List.set_cons_succ]
  refine rtake 3 rfl (by rfl) (by kernel_rfl) (by kernel_rfl) (by kernel_rfl) (fun _ _ _ h => h) hS (fun wx hwx => by have hc2 := hwx.2.cell 2 _ rfl; go_simp; try with_reducible rfl) ?_
  try simp only [Act.put, List.setIfInBounds_toArray, List.set_cons_zero, List.set_cons_succ]
  refine rtake 4 rfl (by rfl) (by kernel_rfl) (by kernel_rfl) (by kernel_rfl) (fun _ _ _ h => h) hS (fun wx hwx => by go_simp; try with_reducible rfl) ?_
  try simp only [Act.put, List.setIfInBounds_toArray, List.set_cons_zero, List.set_cons_succ]
  refine rcall 5 rfl (by kernel_rfl) (by rfl) (fun K hK => ?_)
  refine op_store_msg (op := ⟨none, .store _ _ _, _, _, _, _⟩) _ _ rfl G (msgF h (⟨d.st, (numAt l A 8 : Nat), (numAt l (A + 8) 2 : Nat), d.ut, d.p1, d.qc, d.qa, d.qv, d.p2, d.gr, d.sr, d.og, d.sh, d.hp, d.ac⟩)) (msgL hd0 zr) _ rfl rfl hA (msgF_length _ _) (msgL_length _ _ zr_length) (msgL_one _ _ (bdL_one _)) ?_
  have hS2 := And.intro (hS.1.row_other hne.symm (msgF h (⟨d.st, (numAt l A 8 : Nat), (numAt l (A + 8) 2 : Nat), d.ut, d.p1, d.qc, d.qa, d.qv, d.p2, d.gr, d.sr, d.og, d.sh, d.hp, d.ac⟩)).toArray) (hS.2.row_other hng (msgF h (⟨d.st, (numAt l A 8 : Nat), (numAt l (A + 8) 2 : Nat), d.ut, d.p1, d.qc, d.qa, d.qv, d.p2, d.gr, d.sr, d.og, d.sh, d.hp, d.ac⟩)).toArray)
  replace hA := hA.row (msgF h (⟨d.st, (numAt l A 8 : Nat), (numAt l (A + 8) 2 : Nat), d.ut, d.p1, d.qc, d.qa, d.qv, d.p2, d.gr, d.sr, d.og, d.sh, d.hp, d.ac⟩))
  replace hb := below_setRow hb hG (msgF h (⟨d.st, (numAt l A 8 : Nat), (numAt l (A + 8) 2 : Nat), d.ut, d.p1, d.qc, d.qa, d.qv, d.p2, d.gr, d.sr, d.og, d.sh, d.hp, d.ac⟩)).toArray
  refine hK.out _ _ hS2 ?_
  clear hK K hS
  generalize World.setRow _ _ _ = W at *
  try simp only [Act.put, List.setIfInBounds_toArray, List.set_cons_zero, List.set_cons_succ]
  refine rtake 6 rfl (by rfl) (by kernel_rfl) (by kernel_rfl) (by kernel_rfl) (fun _ _ _ h => h) hS2 (fun wx hwx => by go_simp; try with_reducible rfl) ?_
  try simp only [Act.put, List.setIfInBounds_toArray, List.set_cons_zero, List.set_cons_succ]
  refine rtake 7 rfl (by rfl) (by kernel_rfl) (by kernel_rfl) (by kernel_rfl) (fun _ _ _ h => h) hS2 (fun wx hwx => by go_simp; try with_reducible rfl) ?_
  try simp only [Act.put, List.setIfInBounds_toArray, List.set_cons_zero, List.set_cons_succ]
  refine wpAnyH_done (by kernel_rfl) ?_ _
  clear hsum hsum2
  go_wp2_with fail
  rw [Exit.noGoto_ret]
  refine bodyPost_ret (v := .tuple #[.agg (msgF h (⟨d.st, (numAt l A 8 : Nat), (numAt l (A + 8) 2 : Nat), d.ut, d.p1, d.qc, d.qa, d.qv, d.p2, d.gr, d.sr, d.og, d.sh, d.hp, d.ac⟩)).toArray, .int .i64 ((A : Int) + 10 + ownI h.ty), .int .i64 0]) ?_ rfl ⟨by rw [HE.out], hb⟩
  exact results_msg_3 (p := 6) (u := 7) (u' := 8) rfl _ _ G _ (msgF h (⟨d.st, (numAt l A 8 : Nat), (numAt l (A + 8) 2 : Nat), d.ut, d.p1, d.qc, d.qa, d.qv, d.p2, d.gr, d.sr, d.og, d.sh, d.hp, d.ac⟩)) rfl hA (msgF_length _ _)

set_option maxRecDepth 100000 in
set_option maxHeartbeats 4000000 in
theorem bodyGet_M (v : Value) (l : List UInt8) (h : Hd) (d : Bd) (A : Nat) (w : World) (hB : Bytes w v l) (hl : l.length ≤ 140737488355328) (hA : (A : Int) + lenI h.ty ≤ l.length) (h13 : h.ty = 13) :
    Calls Try.prog 29 #[.agg (msgF h d).toArray, v, .int .i64 (A : Int)] w fun e w' => e = .returned (.tuple #[.agg (msgF h (gotMan ⟨d.st, (numAt l A 8 : Nat), (numAt l (A + 8) 2 : Nat), d.ut, d.p1, d.qc, d.qa, d.qv, d.p2, d.gr, d.sr, d.og, d.sh, d.hp, d.ac⟩ l (A + 10))).toArray, .int .i64 ((A : Int) + lenI h.ty), .int .i64 0]) ∧ Below w.heap.size w w' := by
  have hs : stB h.ty = false := by rw [h13]; decide
  have hg : tgB h.ty = true := by rw [h13]; decide
  have h11 : h.ty ≠ 11 := by omega
  have e11 : (h.ty == 11) = false := by rw [beq_eq_false_iff_ne]; omega
  have e13 : (h.ty == 13) = true := by rw [beq_iff_eq]; omega
  have hlen := lenI_in h.ty
  obtain ⟨hlen0, hlen1⟩ := hlen
  have hown := ownI_in h.ty
  obtain ⟨hown0, hown1⟩ := hown
  have hE : lenI h.ty = 10 + ownI h.ty := by unfold lenI; rw [hs, hg]; simp
  have hO : ownI h.ty = 4 := by rw [h13]; rfl
  have HB := hid fun (w' : World) (h : Below w.heap.size w w') => hB.below h
  obtain ⟨p, cap, rfl, -, -, -⟩ := hB
  have hAI : A ≤ l.length := by omega
  have hns : lenI h.ty ≤ (l.length : Int) - (A : Int) := by omega
  have HS : Hid (standB l.length ((A : Int)) 10 = true) := hid (standB_true (by omega) (by decide) (by omega))
  have HT : Hid (((A : Int)).toNat = A) := hid (by omega)
  have HX : Hid (A + 10 + 4 ≤ l.length) := hid (by omega)
  have hE2 : (A : Int) + lenI h.ty = (A : Int) + 10 + ownI h.ty := by omega
  have HE := hid hE2
  clear hE hE2 hA h11 h13 hO
  have Hns := hid hns
  have HAI := hid hAI
  clear hns hAI
  go_enter Try.func29, Try.ntmps29
  go_wp2_with fail
  have hM : Box ((w.alloc (Obj.cells (msgF h d).toArray 28)).alloc (Obj.cells (msgL hd0 zr).toArray 28)) w.heap.size (msgF h d) 28 := (Box.new w _ _).below (bnew _ _)
  have hA : Box ((w.alloc (Obj.cells (msgF h d).toArray 28)).alloc (Obj.cells (msgL hd0 zr).toArray 28)) (w.heap.size + 1) (msgL hd0 zr) 28 := heap_alloc2_new w _ _
  have hb := bnew2 w (Obj.cells (msgF h d).toArray 28) (Obj.cells (msgL hd0 zr).toArray 28)
  have hG : w.heap.size ≤ w.heap.size + 1 := by omega
  have hne : w.heap.size + 1 ≠ w.heap.size := by omega
  change Code.wp Try.prog _ _ _ ((w.alloc (Obj.cells (msgF h d).toArray 28)).alloc (Obj.cells (msgL hd0 zr).toArray 28))
  generalize ((w.alloc (Obj.cells (msgF h d).toArray 28)).alloc (Obj.cells (msgL hd0 zr).toArray 28)) = W at *
  generalize w.heap.size + 1 = G at *
  have c0 := hM.cell 0 _ rfl
  refine wp_scope_hop ?_
  intro Q' hret hgo
  go_wp2_with fail
  refine (partsOf_any h.ty _).mono ?_
  rintro e w1 ⟨rfl, hb1⟩
  replace hM := hM.below hb1
  replace hA := hA.below hb1
  replace hb := bnext hb hb1
  clear hb1 c0
  unfold partsV
  rw [hs, hg]
  go_upto_region 2 with fail
  have hP := Box.new w1 [Value.bool false, Value.bool true, Value.int IntKind.i64 (ownI h.ty)] 83
  have hnp : w1.heap.size ≠ w.heap.size := by have := hM.lt; omega
  have hng : w1.heap.size ≠ G := by have := hA.lt; omega
  have hnb := bnew w1 (Obj.cells ([Value.bool false, Value.bool true, Value.int IntKind.i64 (ownI h.ty)] : List Value).toArray 83)
  replace hM := hM.below hnb
  replace hA := hA.below hnb
  replace hb := bnext hb hnb
  clear hnb
  generalize w1.alloc _ = W2 at *
  generalize w1.heap.size = GP at *
  have c0 := hM.cell 0 _ rfl
  go_wp2_with fail
  refine (len_any _ _).mono ?_
  rintro e w2 ⟨rfl, hb2⟩
  replace hM := hM.below hb2
  replace hA := hA.below hb2
  replace hP := hP.below hb2
  replace hb := bnext hb hb2
  clear hb2 c0
  have hns := Hns.out
  have c0 := hM.cell 0 _ rfl
  have p0 := hP.cell 0 _ rfl
  have p1 := hP.cell 1 _ rfl
  go_wp2_with fail
  go_step3
  refine hgo 1 _ _ _ rfl ?_
  go_wp2_with fail
  refine (identGet_any _ l _ _ (HB.out _ hb) (by omega) (by have := HAI.out; omega)).mono ?_
  rintro e wi ⟨rfl, hbi⟩
  rw [gotC_yes HS.out, gotP_yes HS.out, HT.out]
  replace hM := hM.below hbi
  replace hA := hA.below hbi
  replace hP := hP.below hbi
  replace hb := bnext hb hbi
  clear hbi c0 p0 p1
  have c0 := hM.cell 0 _ rfl
  have p0 := hP.cell 0 _ rfl
  have p1 := hP.cell 1 _ rfl
  clear hns
  have hAI := HAI.out
  have hc9 := hM.cell 9 _ rfl
  have hf9 := hM.free 9
  have hc10 := hM.cell 10 _ rfl
  have hf10 := hM.free 10
  go_upto_region 11 with fail
  replace hA := ((hA.other hne 9 (.int .u64 ((numAt l A 8 : Nat)))).other hne 10 (.int .i64 ((numAt l (A + 8) 2 : Nat))))
  replace hP := ((hP.other hnp 9 (.int .u64 ((numAt l A 8 : Nat)))).other hnp 10 (.int .i64 ((numAt l (A + 8) 2 : Nat))))
  replace hb := ((hb.setCell (p := ⟨w.heap.size, 9, none⟩) (Nat.le_refl _) (.int .u64 ((numAt l A 8 : Nat)))).setCell (p := ⟨w.heap.size, 10, none⟩) (Nat.le_refl _) (.int .i64 ((numAt l (A + 8) 2 : Nat))))
  replace hM : Box _ w.heap.size (msgF h ⟨d.st, (numAt l A 8 : Nat), (numAt l (A + 8) 2 : Nat), d.ut, d.p1, d.qc, d.qa, d.qv, d.p2, d.gr, d.sr, d.og, d.sh, d.hp, d.ac⟩) _ := ((hM.set 9 (.int .u64 ((numAt l A 8 : Nat)))).set 10 (.int .i64 ((numAt l (A + 8) 2 : Nat))))
  clear c0 p0 p1 hc9 hf9 hc10 hf10
  generalize World.setCell _ _ _ = W at *
  have c0 := hM.cell 0 _ rfl
  have p0 := hP.cell 0 _ rfl
  have p1 := hP.cell 1 _ rfl
  go_wp2_with fail
  go_step3
  go_wp2_with (guard_target =~ wpList _ _ _ (⟨some 65, _, _, _, _, _⟩ :: _) _ _; refine wpList_load_msg (op := ⟨some 65, .load _ _, _, _, _, _⟩) (by rfl) _ (by rfl) w.heap.size (by rfl) (msgF h ⟨d.st, (numAt l A 8 : Nat), (numAt l (A + 8) 2 : Nat), d.ut, d.p1, d.qc, d.qa, d.qv, d.p2, d.gr, d.sr, d.og, d.sh, d.hp, d.ac⟩) _ hM (msgF_length _ _) ?_)
  have hpos : (A : Int) + 10 = ((A + 10 : Nat) : Int) := by omega
  have hcall := getMan_any _ l h ⟨d.st, (numAt l A 8 : Nat), (numAt l (A + 8) 2 : Nat), d.ut, d.p1, d.qc, d.qa, d.qv, d.p2, d.gr, d.sr, d.og, d.sh, d.hp, d.ac⟩ (A + 10) _ (HB.out _ hb) hl HX.out
  rw [← hpos] at hcall
  clear hpos
  refine hcall.mono ?_
  rintro e w5 ⟨rfl, hb5⟩
  clear hcall
  replace hM := hM.below hb5
  replace hA := hA.below hb5
  replace hP := hP.below hb5
  replace hb := bnext hb hb5
  clear hb5 c0 p0 p1
  go_upto_region 17 with (guard_target =~ wpList _ _ _ (⟨none, _, _, _, _, _⟩ :: _) _ _; refine wpList_store_msg (op := ⟨none, .store _ _ _, _, _, _, _⟩) (by rfl) _ _ (by rfl) w.heap.size (msgF h (gotMan ⟨d.st, (numAt l A 8 : Nat), (numAt l (A + 8) 2 : Nat), d.ut, d.p1, d.qc, d.qa, d.qv, d.p2, d.gr, d.sr, d.og, d.sh, d.hp, d.ac⟩ l (A + 10))) (msgF h ⟨d.st, (numAt l A 8 : Nat), (numAt l (A + 8) 2 : Nat), d.ut, d.p1, d.qc, d.qa, d.qv, d.p2, d.gr, d.sr, d.og, d.sh, d.hp, d.ac⟩) _ (by rfl) (by rfl) hM (msgF_length _ _) (msgF_length _ _) (msgL_one _ _ (bdL_one _)) ?_)
  replace hA := hA.row_other hne (msgF h (gotMan ⟨d.st, (numAt l A 8 : Nat), (numAt l (A + 8) 2 : Nat), d.ut, d.p1, d.qc, d.qa, d.qv, d.p2, d.gr, d.sr, d.og, d.sh, d.hp, d.ac⟩ l (A + 10))).toArray
  replace hP := hP.row_other hnp (msgF h (gotMan ⟨d.st, (numAt l A 8 : Nat), (numAt l (A + 8) 2 : Nat), d.ut, d.p1, d.qc, d.qa, d.qv, d.p2, d.gr, d.sr, d.og, d.sh, d.hp, d.ac⟩ l (A + 10))).toArray
  replace hM := hM.row (msgF h (gotMan ⟨d.st, (numAt l A 8 : Nat), (numAt l (A + 8) 2 : Nat), d.ut, d.p1, d.qc, d.qa, d.qv, d.p2, d.gr, d.sr, d.og, d.sh, d.hp, d.ac⟩ l (A + 10)))
  replace hb := below_setRow hb (Nat.le_refl _) (msgF h (gotMan ⟨d.st, (numAt l A 8 : Nat), (numAt l (A + 8) 2 : Nat), d.ut, d.p1, d.qc, d.qa, d.qv, d.p2, d.gr, d.sr, d.og, d.sh, d.hp, d.ac⟩ l (A + 10))).toArray
  change Code.wp _ _ _ _ (w5.setRow w.heap.size (msgF h (gotMan ⟨d.st, (numAt l A 8 : Nat), (numAt l (A + 8) 2 : Nat), d.ut, d.p1, d.qc, d.qa, d.qv, d.p2, d.gr, d.sr, d.og, d.sh, d.hp, d.ac⟩ l (A + 10))).toArray)
  generalize w5.setRow w.heap.size _ = W at *
  have hsum : IntKind.i64.wrap ((A : Int) + 10 + ownI h.ty) = (A : Int) + 10 + ownI h.ty := by have := HAI.out; rw [IntKind.wrap_i64]; omega
  have hsum2 : wrap64 ((A : Int) + 10 + ownI h.ty) = (A : Int) + 10 + ownI h.ty := by have := HAI.out; unfold wrap64; omega
  refine wp_region_held_drew (S := fun w' => Box w' w.heap.size (msgF h (gotMan ⟨d.st, (numAt l A 8 : Nat), (numAt l (A + 8) 2 : Nat), d.ut, d.p1, d.qc, d.qa, d.qv, d.p2, d.gr, d.sr, d.og, d.sh, d.hp, d.ac⟩ l (A + 10))) 28 ∧ Box w' GP [Value.bool false, Value.bool true, Value.int IntKind.i64 (ownI h.ty)] 83) (by kernel_rfl) ⟨hM.below (Below.drew (Below.refl _ _)), hP.below (Below.drew (Below.refl _ _))⟩ ?_
  intro hS
  clear hM hP
  replace hA := hA.below (Below.drew (Below.refl W.heap.size W))
  replace hb := bnext hb (Below.drew (Below.refl W.heap.size W))
  generalize W.drew = W at *
  refine rtake 0 rfl (by rfl) (by kernel_rfl) (by kernel_rfl) (by kernel_rfl) (fun _ _ _ h => h) hS (fun wx hwx => exec_load_msg _ rfl w.heap.size rfl (msgF h (gotMan ⟨d.st, (numAt l A 8 : Nat), (numAt l (A + 8) 2 : Nat), d.ut, d.p1, d.qc, d.qa, d.qv, d.p2, d.gr, d.sr, d.og, d.sh, d.hp, d.ac⟩ l (A + 10))) _ hwx.1 (msgF_length _ _)) ?_
  try simp only [Act.put, List.setIfInBounds_toArray, List.set_cons_zero, List.set_cons_succ]
  refine rtake 1 rfl (by rfl) (by kernel_rfl) (by kernel_rfl) (by kernel_rfl) (fun _ _ _ h => h) hS (fun wx hwx => by go_simp; try with_reducible rfl) ?_
  try simp only [Act.put, List.setIfInBounds_toArray, List.set_cons_zero, List.set_cons_succ]
  refine rtake 2 rfl (by rfl) (by kernel_rfl) (by kernel_rfl) (by kernel_rfl) (fun _ _ _ h => h) hS (fun wx hwx => by go_simp; try with_reducible rfl) ?_
  try simp only [Act.put, List.setIfInBounds_toArray, List.set_cons_zero, List.set_cons_succ]
  refine rtake 3 rfl (by rfl) (by kernel_rfl) (by kernel_rfl) (by kernel_rfl) (fun _ _ _ h => h) hS (fun wx hwx => by have hc2 := hwx.2.cell 2 _ rfl; go_simp; try with_reducible rfl) ?_
  try simp only [Act.put, List.setIfInBounds_toArray, List.set_cons_zero, List.set_cons_succ]
  refine rtake 4 rfl (by rfl) (by kernel_rfl) (by kernel_rfl) (by kernel_rfl) (fun _ _ _ h => h) hS (fun wx hwx => by go_simp; try with_reducible rfl) ?_
  try simp only [Act.put, List.setIfInBounds_toArray, List.set_cons_zero, List.set_cons_succ]
  refine rcall 5 rfl (by kernel_rfl) (by rfl) (fun K hK => ?_)
  refine op_store_msg (op := ⟨none, .store _ _ _, _, _, _, _⟩) _ _ rfl G (msgF h (gotMan ⟨d.st, (numAt l A 8 : Nat), (numAt l (A + 8) 2 : Nat), d.ut, d.p1, d.qc, d.qa, d.qv, d.p2, d.gr, d.sr, d.og, d.sh, d.hp, d.ac⟩ l (A + 10))) (msgL hd0 zr) _ rfl rfl hA (msgF_length _ _) (msgL_length _ _ zr_length) (msgL_one _ _ (bdL_one _)) ?_
  have hS2 := And.intro (hS.1.row_other hne.symm (msgF h (gotMan ⟨d.st, (numAt l A 8 : Nat), (numAt l (A + 8) 2 : Nat), d.ut, d.p1, d.qc, d.qa, d.qv, d.p2, d.gr, d.sr, d.og, d.sh, d.hp, d.ac⟩ l (A + 10))).toArray) (hS.2.row_other hng (msgF h (gotMan ⟨d.st, (numAt l A 8 : Nat), (numAt l (A + 8) 2 : Nat), d.ut, d.p1, d.qc, d.qa, d.qv, d.p2, d.gr, d.sr, d.og, d.sh, d.hp, d.ac⟩ l (A + 10))).toArray)
  replace hA := hA.row (msgF h (gotMan ⟨d.st, (numAt l A 8 : Nat), (numAt l (A + 8) 2 : Nat), d.ut, d.p1, d.qc, d.qa, d.qv, d.p2, d.gr, d.sr, d.og, d.sh, d.hp, d.ac⟩ l (A + 10)))
  replace hb := below_setRow hb hG (msgF h (gotMan ⟨d.st, (numAt l A 8 : Nat), (numAt l (A + 8) 2 : Nat), d.ut, d.p1, d.qc, d.qa, d.qv, d.p2, d.gr, d.sr, d.og, d.sh, d.hp, d.ac⟩ l (A + 10))).toArray
  refine hK.out _ _ hS2 ?_
  clear hK K hS
  generalize World.setRow _ _ _ = W at *
  try simp only [Act.put, List.setIfInBounds_toArray, List.set_cons_zero, List.set_cons_succ]
  refine rtake 6 rfl (by rfl) (by kernel_rfl) (by kernel_rfl) (by kernel_rfl) (fun _ _ _ h => h) hS2 (fun wx hwx => by go_simp; try with_reducible rfl) ?_
  try simp only [Act.put, List.setIfInBounds_toArray, List.set_cons_zero, List.set_cons_succ]
  refine rtake 7 rfl (by rfl) (by kernel_rfl) (by kernel_rfl) (by kernel_rfl) (fun _ _ _ h => h) hS2 (fun wx hwx => by go_simp; try with_reducible rfl) ?_
  try simp only [Act.put, List.setIfInBounds_toArray, List.set_cons_zero, List.set_cons_succ]
  refine wpAnyH_done (by kernel_rfl) ?_ _
  clear hsum hsum2
  go_wp2_with fail
  rw [Exit.noGoto_ret]
  refine bodyPost_ret (v := .tuple #[.agg (msgF h (gotMan ⟨d.st, (numAt l A 8 : Nat), (numAt l (A + 8) 2 : Nat), d.ut, d.p1, d.qc, d.qa, d.qv, d.p2, d.gr, d.sr, d.og, d.sh, d.hp, d.ac⟩ l (A + 10))).toArray, .int .i64 ((A : Int) + 10 + ownI h.ty), .int .i64 0]) ?_ rfl ⟨by rw [HE.out], hb⟩
  exact results_msg_3 (p := 6) (u := 7) (u' := 8) rfl _ _ G _ (msgF h (gotMan ⟨d.st, (numAt l A 8 : Nat), (numAt l (A + 8) 2 : Nat), d.ut, d.p1, d.qc, d.qa, d.qv, d.p2, d.gr, d.sr, d.og, d.sh, d.hp, d.ac⟩ l (A + 10))) rfl hA (msgF_length _ _)

end Go.Proofs.Ytohgpnlihfcecaa