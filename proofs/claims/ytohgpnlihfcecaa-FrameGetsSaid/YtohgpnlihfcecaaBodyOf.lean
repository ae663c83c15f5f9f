/- body.ofType (gen_body.py). -/
import Derived.Test.YtohgpnlihfcecaaBody
namespace Go.Proofs.Ytohgpnlihfcecaa
open Go.RowKit Go.Proofs
set_option maxRecDepth 50000
set_option linter.unusedVariables false
set_option linter.unusedSimpArgs false

set_option maxRecDepth 100000 in
set_option maxHeartbeats 4000000 in
theorem ofType_N (h : Hd) (d : Bd) (w : World) (hs : stB h.ty = false) (hg : tgB h.ty = false) (h11 : h.ty ≠ 11) (h13 : h.ty ≠ 13) :
    Calls Try.prog 74 #[.agg (msgF h d).toArray] w fun e w' => e = .returned (.agg (msgF h (ofB h.ty d)).toArray) ∧ Below w.heap.size w w' := by
  have eB : ofB h.ty d = ⟨0, 0, 0, 0, 0, 0, 0, 0, 0, 0, 0, 0, 0, 0, 0⟩ := by unfold ofB; simp [hs, hg, h11, h13]
  rw [eB]
  clear eB
  have e11 : (h.ty == 11) = false := by rw [beq_eq_false_iff_ne]; omega
  have e13 : (h.ty == 13) = false := by rw [beq_eq_false_iff_ne]; omega
  clear h11 h13
  go_enter Try.func74, Try.ntmps74
  go_upto_region 1 with fail
  have hM : Box ((w.alloc (Obj.cells (msgF h d).toArray 28)).alloc (Obj.cells (msgL hd0 zr).toArray 28)) w.heap.size (msgF h d) 28 := (Box.new w _ _).below (bnew _ _)
  have hA : Box ((w.alloc (Obj.cells (msgF h d).toArray 28)).alloc (Obj.cells (msgL hd0 zr).toArray 28)) (w.heap.size + 1) (msgL hd0 zr) 28 := heap_alloc2_new w _ _
  have hb := bnew2 w (Obj.cells (msgF h d).toArray 28) (Obj.cells (msgL hd0 zr).toArray 28)
  have hG : w.heap.size ≤ w.heap.size + 1 := by omega
  have hne : w.heap.size + 1 ≠ w.heap.size := by omega
  change Code.wp Try.prog _ _ _ ((w.alloc (Obj.cells (msgF h d).toArray 28)).alloc (Obj.cells (msgL hd0 zr).toArray 28))
  generalize ((w.alloc (Obj.cells (msgF h d).toArray 28)).alloc (Obj.cells (msgL hd0 zr).toArray 28)) = W at *
  generalize w.heap.size + 1 = G at *
  have c0 := hM.cell 0 _ rfl
  go_wp2_with fail
  refine (partsOf_any h.ty _).mono ?_
  rintro e w1 ⟨rfl, hb1⟩
  replace hM := hM.below hb1
  replace hA := hA.below hb1
  replace hb := bnext hb hb1
  clear hb1 c0
  unfold partsV
  rw [hs, hg]
  go_upto_region 2 with fail
  have hP := Box.new w1 [Value.bool false, Value.bool false, Value.int IntKind.i64 (ownI h.ty)] 83
  have hnp : w1.heap.size ≠ w.heap.size := by have := hM.lt; omega
  have hnb := bnew w1 (Obj.cells ([Value.bool false, Value.bool false, Value.int IntKind.i64 (ownI h.ty)] : List Value).toArray 83)
  replace hM := hM.below hnb
  replace hA := hA.below hnb
  replace hb := bnext hb hnb
  clear hnb
  generalize w1.alloc _ = W2 at *
  generalize w1.heap.size = GP at *
  have p0 := hP.cell 0 _ rfl
  have p1 := hP.cell 1 _ rfl
  have c0 := hM.cell 0 _ rfl
  go_upto_region 3 with fail
  have hc8 := hM.cell 8 _ rfl
  have hf8 := hM.free 8
  go_upto_region 4 with fail
  replace hA := (hA.other hne 8 (.int .i64 0))
  replace hP := (hP.other hnp 8 (.int .i64 0))
  replace hb := (hb.setCell (p := ⟨w.heap.size, 8, none⟩) (Nat.le_refl _) (.int .i64 0))
  replace hM : Box _ w.heap.size (msgF h ⟨0, d.tc, d.tp, d.ut, d.p1, d.qc, d.qa, d.qv, d.p2, d.gr, d.sr, d.og, d.sh, d.hp, d.ac⟩) _ := (hM.set 8 (.int .i64 0))
  clear c0 p0 p1 hc8 hf8
  generalize World.setCell _ _ _ = W3 at *
  have p0 := hP.cell 0 _ rfl
  have p1 := hP.cell 1 _ rfl
  have c0 := hM.cell 0 _ rfl
  go_upto_region 5 with fail
  have hc9 := hM.cell 9 _ rfl
  have hf9 := hM.free 9
  have hc10 := hM.cell 10 _ rfl
  have hf10 := hM.free 10
  go_upto_region 6 with fail
  replace hA := ((hA.other hne 9 (.int .u64 0)).other hne 10 (.int .i64 0))
  replace hP := ((hP.other hnp 9 (.int .u64 0)).other hnp 10 (.int .i64 0))
  replace hb := ((hb.setCell (p := ⟨w.heap.size, 9, none⟩) (Nat.le_refl _) (.int .u64 0)).setCell (p := ⟨w.heap.size, 10, none⟩) (Nat.le_refl _) (.int .i64 0))
  replace hM : Box _ w.heap.size (msgF h ⟨0, 0, 0, d.ut, d.p1, d.qc, d.qa, d.qv, d.p2, d.gr, d.sr, d.og, d.sh, d.hp, d.ac⟩) _ := ((hM.set 9 (.int .u64 0)).set 10 (.int .i64 0))
  clear c0 p0 p1 hc9 hf9 hc10 hf10
  generalize World.setCell _ _ _ = W4 at *
  have p0 := hP.cell 0 _ rfl
  have p1 := hP.cell 1 _ rfl
  have c0 := hM.cell 0 _ rfl
  go_upto_region 7 with fail
  have hc11 := hM.cell 11 _ rfl
  have hf11 := hM.free 11
  have hc12 := hM.cell 12 _ rfl
  have hf12 := hM.free 12
  have hc13 := hM.cell 13 _ rfl
  have hf13 := hM.free 13
  have hc14 := hM.cell 14 _ rfl
  have hf14 := hM.free 14
  have hc15 := hM.cell 15 _ rfl
  have hf15 := hM.free 15
  have hc16 := hM.cell 16 _ rfl
  have hf16 := hM.free 16
  go_upto_region 8 with fail
  replace hA := ((((((hA.other hne 11 (.int .i64 0)).other hne 12 (.int .i64 0)).other hne 13 (.int .i64 0)).other hne 14 (.int .i64 0)).other hne 15 (.int .i64 0)).other hne 16 (.int .i64 0))
  replace hP := ((((((hP.other hnp 11 (.int .i64 0)).other hnp 12 (.int .i64 0)).other hnp 13 (.int .i64 0)).other hnp 14 (.int .i64 0)).other hnp 15 (.int .i64 0)).other hnp 16 (.int .i64 0))
  replace hb := ((((((hb.setCell (p := ⟨w.heap.size, 11, none⟩) (Nat.le_refl _) (.int .i64 0)).setCell (p := ⟨w.heap.size, 12, none⟩) (Nat.le_refl _) (.int .i64 0)).setCell (p := ⟨w.heap.size, 13, none⟩) (Nat.le_refl _) (.int .i64 0)).setCell (p := ⟨w.heap.size, 14, none⟩) (Nat.le_refl _) (.int .i64 0)).setCell (p := ⟨w.heap.size, 15, none⟩) (Nat.le_refl _) (.int .i64 0)).setCell (p := ⟨w.heap.size, 16, none⟩) (Nat.le_refl _) (.int .i64 0))
  replace hM : Box _ w.heap.size (msgF h ⟨0, 0, 0, 0, 0, 0, 0, 0, 0, d.gr, d.sr, d.og, d.sh, d.hp, d.ac⟩) _ := ((((((hM.set 11 (.int .i64 0)).set 12 (.int .i64 0)).set 13 (.int .i64 0)).set 14 (.int .i64 0)).set 15 (.int .i64 0)).set 16 (.int .i64 0))
  clear c0 p0 p1 hc11 hf11 hc12 hf12 hc13 hf13 hc14 hf14 hc15 hf15 hc16 hf16
  generalize World.setCell _ _ _ = W5 at *
  have p0 := hP.cell 0 _ rfl
  have p1 := hP.cell 1 _ rfl
  have c0 := hM.cell 0 _ rfl
  have hc17 := hM.cell 17 _ rfl
  have hf17 := hM.free 17
  have hc18 := hM.cell 18 _ rfl
  have hf18 := hM.free 18
  have hc19 := hM.cell 19 _ rfl
  have hf19 := hM.free 19
  go_upto_region 9 with fail
  replace hA := (((hA.other hne 17 (.int .u64 0)).other hne 18 (.int .i64 0)).other hne 19 (.int .i64 0))
  replace hP := (((hP.other hnp 17 (.int .u64 0)).other hnp 18 (.int .i64 0)).other hnp 19 (.int .i64 0))
  replace hb := (((hb.setCell (p := ⟨w.heap.size, 17, none⟩) (Nat.le_refl _) (.int .u64 0)).setCell (p := ⟨w.heap.size, 18, none⟩) (Nat.le_refl _) (.int .i64 0)).setCell (p := ⟨w.heap.size, 19, none⟩) (Nat.le_refl _) (.int .i64 0))
  replace hM : Box _ w.heap.size (msgF h ⟨0, 0, 0, 0, 0, 0, 0, 0, 0, 0, 0, 0, d.sh, d.hp, d.ac⟩) _ := (((hM.set 17 (.int .u64 0)).set 18 (.int .i64 0)).set 19 (.int .i64 0))
  clear c0 p0 p1 hc17 hf17 hc18 hf18 hc19 hf19
  generalize World.setCell _ _ _ = W6 at *
  have p0 := hP.cell 0 _ rfl
  have p1 := hP.cell 1 _ rfl
  have c0 := hM.cell 0 _ rfl
  go_upto_region 10 with fail
  have hc20 := hM.cell 20 _ rfl
  have hf20 := hM.free 20
  have hc21 := hM.cell 21 _ rfl
  have hf21 := hM.free 21
  have hc22 := hM.cell 22 _ rfl
  have hf22 := hM.free 22
  go_upto_region 11 with fail
  replace hA := (((hA.other hne 20 (.int .i64 0)).other hne 21 (.int .i64 0)).other hne 22 (.int .i64 0))
  replace hP := (((hP.other hnp 20 (.int .i64 0)).other hnp 21 (.int .i64 0)).other hnp 22 (.int .i64 0))
  replace hb := (((hb.setCell (p := ⟨w.heap.size, 20, none⟩) (Nat.le_refl _) (.int .i64 0)).setCell (p := ⟨w.heap.size, 21, none⟩) (Nat.le_refl _) (.int .i64 0)).setCell (p := ⟨w.heap.size, 22, none⟩) (Nat.le_refl _) (.int .i64 0))
  replace hM : Box _ w.heap.size (msgF h ⟨0, 0, 0, 0, 0, 0, 0, 0, 0, 0, 0, 0, 0, 0, 0⟩) _ := (((hM.set 20 (.int .i64 0)).set 21 (.int .i64 0)).set 22 (.int .i64 0))
  clear c0 p0 p1 hc20 hf20 hc21 hf21 hc22 hf22
  generalize World.setCell _ _ _ = W7 at *
  have p0 := hP.cell 0 _ rfl
  have p1 := hP.cell 1 _ rfl
  have c0 := hM.cell 0 _ rfl
  apply wp_region_lit
  refine wpList_load_msg (op := ⟨some 33, .load _ _, _, _, _, _⟩) rfl _ rfl w.heap.size rfl (msgF h ⟨0, 0, 0, 0, 0, 0, 0, 0, 0, 0, 0, 0, 0, 0, 0⟩) _ hM (msgF_length _ _) ?_
  refine wpList_store_msg (op := ⟨none, .store _ _ _, _, _, _, _⟩) rfl _ _ rfl G (msgF h ⟨0, 0, 0, 0, 0, 0, 0, 0, 0, 0, 0, 0, 0, 0, 0⟩) (msgL hd0 zr) _ rfl rfl hA (msgF_length _ _) (msgL_length _ _ zr_length) (msgL_one _ _ (bdL_one _)) ?_
  go_wp2_with fail
  exact bodyPost_ret (v := .agg (msgF h ⟨0, 0, 0, 0, 0, 0, 0, 0, 0, 0, 0, 0, 0, 0, 0⟩).toArray) (results_cell_row rfl _ _ G _ _ (0, 0) _ rfl (hA.row _) Try.underlying28 rfl info_msg) rfl ⟨rfl, below_setRow hb hG _⟩

set_option maxRecDepth 100000 in
set_option maxHeartbeats 4000000 in
theorem ofType_S (h : Hd) (d : Bd) (w : World) (hs : stB h.ty = true) (hg : tgB h.ty = false) (h11 : h.ty ≠ 11) (h13 : h.ty ≠ 13) :
    Calls Try.prog 74 #[.agg (msgF h d).toArray] w fun e w' => e = .returned (.agg (msgF h (ofB h.ty d)).toArray) ∧ Below w.heap.size w w' := by
  have eB : ofB h.ty d = ⟨d.st, 0, 0, 0, 0, 0, 0, 0, 0, 0, 0, 0, 0, 0, 0⟩ := by unfold ofB; simp [hs, hg, h11, h13]
  rw [eB]
  clear eB
  have e11 : (h.ty == 11) = false := by rw [beq_eq_false_iff_ne]; omega
  have e13 : (h.ty == 13) = false := by rw [beq_eq_false_iff_ne]; omega
  clear h11 h13
  go_enter Try.func74, Try.ntmps74
  go_upto_region 1 with fail
  have hM : Box ((w.alloc (Obj.cells (msgF h d).toArray 28)).alloc (Obj.cells (msgL hd0 zr).toArray 28)) w.heap.size (msgF h d) 28 := (Box.new w _ _).below (bnew _ _)
  have hA : Box ((w.alloc (Obj.cells (msgF h d).toArray 28)).alloc (Obj.cells (msgL hd0 zr).toArray 28)) (w.heap.size + 1) (msgL hd0 zr) 28 := heap_alloc2_new w _ _
  have hb := bnew2 w (Obj.cells (msgF h d).toArray 28) (Obj.cells (msgL hd0 zr).toArray 28)
  have hG : w.heap.size ≤ w.heap.size + 1 := by omega
  have hne : w.heap.size + 1 ≠ w.heap.size := by omega
  change Code.wp Try.prog _ _ _ ((w.alloc (Obj.cells (msgF h d).toArray 28)).alloc (Obj.cells (msgL hd0 zr).toArray 28))
  generalize ((w.alloc (Obj.cells (msgF h d).toArray 28)).alloc (Obj.cells (msgL hd0 zr).toArray 28)) = W at *
  generalize w.heap.size + 1 = G at *
  have c0 := hM.cell 0 _ rfl
  go_wp2_with fail
  refine (partsOf_any h.ty _).mono ?_
  rintro e w1 ⟨rfl, hb1⟩
  replace hM := hM.below hb1
  replace hA := hA.below hb1
  replace hb := bnext hb hb1
  clear hb1 c0
  unfold partsV
  rw [hs, hg]
  go_upto_region 2 with fail
  have hP := Box.new w1 [Value.bool true, Value.bool false, Value.int IntKind.i64 (ownI h.ty)] 83
  have hnp : w1.heap.size ≠ w.heap.size := by have := hM.lt; omega
  have hnb := bnew w1 (Obj.cells ([Value.bool true, Value.bool false, Value.int IntKind.i64 (ownI h.ty)] : List Value).toArray 83)
  replace hM := hM.below hnb
  replace hA := hA.below hnb
  replace hb := bnext hb hnb
  clear hnb
  generalize w1.alloc _ = W2 at *
  generalize w1.heap.size = GP at *
  have p0 := hP.cell 0 _ rfl
  have p1 := hP.cell 1 _ rfl
  have c0 := hM.cell 0 _ rfl
  go_upto_region 5 with fail
  have hc9 := hM.cell 9 _ rfl
  have hf9 := hM.free 9
  have hc10 := hM.cell 10 _ rfl
  have hf10 := hM.free 10
  go_upto_region 6 with fail
  replace hA := ((hA.other hne 9 (.int .u64 0)).other hne 10 (.int .i64 0))
  replace hP := ((hP.other hnp 9 (.int .u64 0)).other hnp 10 (.int .i64 0))
  replace hb := ((hb.setCell (p := ⟨w.heap.size, 9, none⟩) (Nat.le_refl _) (.int .u64 0)).setCell (p := ⟨w.heap.size, 10, none⟩) (Nat.le_refl _) (.int .i64 0))
  replace hM : Box _ w.heap.size (msgF h ⟨d.st, 0, 0, d.ut, d.p1, d.qc, d.qa, d.qv, d.p2, d.gr, d.sr, d.og, d.sh, d.hp, d.ac⟩) _ := ((hM.set 9 (.int .u64 0)).set 10 (.int .i64 0))
  clear c0 p0 p1 hc9 hf9 hc10 hf10
  generalize World.setCell _ _ _ = W3 at *
  have p0 := hP.cell 0 _ rfl
  have p1 := hP.cell 1 _ rfl
  have c0 := hM.cell 0 _ rfl
  go_upto_region 7 with fail
  have hc11 := hM.cell 11 _ rfl
  have hf11 := hM.free 11
  have hc12 := hM.cell 12 _ rfl
  have hf12 := hM.free 12
  have hc13 := hM.cell 13 _ rfl
  have hf13 := hM.free 13
  have hc14 := hM.cell 14 _ rfl
  have hf14 := hM.free 14
  have hc15 := hM.cell 15 _ rfl
  have hf15 := hM.free 15
  have hc16 := hM.cell 16 _ rfl
  have hf16 := hM.free 16
  go_upto_region 8 with fail
  replace hA := ((((((hA.other hne 11 (.int .i64 0)).other hne 12 (.int .i64 0)).other hne 13 (.int .i64 0)).other hne 14 (.int .i64 0)).other hne 15 (.int .i64 0)).other hne 16 (.int .i64 0))
  replace hP := ((((((hP.other hnp 11 (.int .i64 0)).other hnp 12 (.int .i64 0)).other hnp 13 (.int .i64 0)).other hnp 14 (.int .i64 0)).other hnp 15 (.int .i64 0)).other hnp 16 (.int .i64 0))
  replace hb := ((((((hb.setCell (p := ⟨w.heap.size, 11, none⟩) (Nat.le_refl _) (.int .i64 0)).setCell (p := ⟨w.heap.size, 12, none⟩) (Nat.le_refl _) (.int .i64 0)).setCell (p := ⟨w.heap.size, 13, none⟩) (Nat.le_refl _) (.int .i64 0)).setCell (p := ⟨w.heap.size, 14, none⟩) (Nat.le_refl _) (.int .i64 0)).setCell (p := ⟨w.heap.size, 15, none⟩) (Nat.le_refl _) (.int .i64 0)).setCell (p := ⟨w.heap.size, 16, none⟩) (Nat.le_refl _) (.int .i64 0))
  replace hM : Box _ w.heap.size (msgF h ⟨d.st, 0, 0, 0, 0, 0, 0, 0, 0, d.gr, d.sr, d.og, d.sh, d.hp, d.ac⟩) _ := ((((((hM.set 11 (.int .i64 0)).set 12 (.int .i64 0)).set 13 (.int .i64 0)).set 14 (.int .i64 0)).set 15 (.int .i64 0)).set 16 (.int .i64 0))
  clear c0 p0 p1 hc11 hf11 hc12 hf12 hc13 hf13 hc14 hf14 hc15 hf15 hc16 hf16
  generalize World.setCell _ _ _ = W4 at *
  have p0 := hP.cell 0 _ rfl
  have p1 := hP.cell 1 _ rfl
  have c0 := hM.cell 0 _ rfl
  have hc17 := hM.cell 17 _ rfl
  have hf17 := hM.free 17
  have hc18 := hM.cell 18 _ rfl
  have hf18 := hM.free 18
  have hc19 := hM.cell 19 _ rfl
  have hf19 := hM.free 19
  go_upto_region 9 with fail
  replace hA := (((hA.other hne 17 (.int .u64 0)).other hne 18 (.int .i64 0)).other hne 19 (.int .i64 0))
  replace hP := (((hP.other hnp 17 (.int .u64 0)).other hnp 18 (.int .i64 0)).other hnp 19 (.int .i64 0))
  replace hb := (((hb.setCell (p := ⟨w.heap.size, 17, none⟩) (Nat.le_refl _) (.int .u64 0)).setCell (p := ⟨w.heap.size, 18, none⟩) (Nat.le_refl _) (.int .i64 0)).setCell (p := ⟨w.heap.size, 19, none⟩) (Nat.le_refl _) (.int .i64 0))
  replace hM : Box _ w.heap.size (msgF h ⟨d.st, 0, 0, 0, 0, 0, 0, 0, 0, 0, 0, 0, d.sh, d.hp, d.ac⟩) _ := (((hM.set 17 (.int .u64 0)).set 18 (.int .i64 0)).set 19 (.int .i64 0))
  clear c0 p0 p1 hc17 hf17 hc18 hf18 hc19 hf19
  generalize World.setCell _ _ _ = W5 at *
  have p0 := hP.cell 0 _ rfl
  have p1 := hP.cell 1 _ rfl
  have c0 := hM.cell 0 _ rfl
  go_upto_region 10 with fail
  have hc20 := hM.cell 20 _ rfl
  have hf20 := hM.free 20
  have hc21 := hM.cell 21 _ rfl
  have hf21 := hM.free 21
  have hc22 := hM.cell 22 _ rfl
  have hf22 := hM.free 22
  go_upto_region 11 with fail
  replace hA := (((hA.other hne 20 (.int .i64 0)).other hne 21 (.int .i64 0)).other hne 22 (.int .i64 0))
  replace hP := (((hP.other hnp 20 (.int .i64 0)).other hnp 21 (.int .i64 0)).other hnp 22 (.int .i64 0))
  replace hb := (((hb.setCell (p := ⟨w.heap.size, 20, none⟩) (Nat.le_refl _) (.int .i64 0)).setCell (p := ⟨w.heap.size, 21, none⟩) (Nat.le_refl _) (.int .i64 0)).setCell (p := ⟨w.heap.size, 22, none⟩) (Nat.le_refl _) (.int .i64 0))
  replace hM : Box _ w.heap.size (msgF h ⟨d.st, 0, 0, 0, 0, 0, 0, 0, 0, 0, 0, 0, 0, 0, 0⟩) _ := (((hM.set 20 (.int .i64 0)).set 21 (.int .i64 0)).set 22 (.int .i64 0))
  clear c0 p0 p1 hc20 hf20 hc21 hf21 hc22 hf22
  generalize World.setCell _ _ _ = W6 at *
  have p0 := hP.cell 0 _ rfl
  have p1 := hP.cell 1 _ rfl
  have c0 := hM.cell 0 _ rfl
  apply wp_region_lit
  refine wpList_load_msg (op := ⟨some 33, .load _ _, _, _, _, _⟩) rfl _ rfl w.heap.size rfl (msgF h ⟨d.st, 0, 0, 0, 0, 0, 0, 0, 0, 0, 0, 0, 0, 0, 0⟩) _ hM (msgF_length _ _) ?_
  refine wpList_store_msg (op := ⟨none, .store _ _ _, _, _, _, _⟩) rfl _ _ rfl G (msgF h ⟨d.st, 0, 0, 0, 0, 0, 0, 0, 0, 0, 0, 0, 0, 0, 0⟩) (msgL hd0 zr) _ rfl rfl hA (msgF_length _ _) (msgL_length _ _ zr_length) (msgL_one _ _ (bdL_one _)) ?_
  go_wp2_with fail
  exact bodyPost_ret (v := .agg (msgF h ⟨d.st, 0, 0, 0, 0, 0, 0, 0, 0, 0, 0, 0, 0, 0, 0⟩).toArray) (results_cell_row rfl _ _ G _ _ (0, 0) _ rfl (hA.row _) Try.underlying28 rfl info_msg) rfl ⟨rfl, below_setRow hb hG _⟩

set_option maxRecDepth 100000 in
set_option maxHeartbeats 4000000 in
theorem ofType_B (h : Hd) (d : Bd) (w : World) (hs : stB h.ty = true) (hg : tgB h.ty = true) (h11 : h.ty ≠ 11) (h13 : h.ty ≠ 13) :
    Calls Try.prog 74 #[.agg (msgF h d).toArray] w fun e w' => e = .returned (.agg (msgF h (ofB h.ty d)).toArray) ∧ Below w.heap.size w w' := by
  have eB : ofB h.ty d = ⟨d.st, d.tc, d.tp, 0, 0, 0, 0, 0, 0, 0, 0, 0, 0, 0, 0⟩ := by unfold ofB; simp [hs, hg, h11, h13]
  rw [eB]
  clear eB
  have e11 : (h.ty == 11) = false := by rw [beq_eq_false_iff_ne]; omega
  have e13 : (h.ty == 13) = false := by rw [beq_eq_false_iff_ne]; omega
  clear h11 h13
  go_enter Try.func74, Try.ntmps74
  go_upto_region 1 with fail
  have hM : Box ((w.alloc (Obj.cells (msgF h d).toArray 28)).alloc (Obj.cells (msgL hd0 zr).toArray 28)) w.heap.size (msgF h d) 28 := (Box.new w _ _).below (bnew _ _)
  have hA : Box ((w.alloc (Obj.cells (msgF h d).toArray 28)).alloc (Obj.cells (msgL hd0 zr).toArray 28)) (w.heap.size + 1) (msgL hd0 zr) 28 := heap_alloc2_new w _ _
  have hb := bnew2 w (Obj.cells (msgF h d).toArray 28) (Obj.cells (msgL hd0 zr).toArray 28)
  have hG : w.heap.size ≤ w.heap.size + 1 := by omega
  have hne : w.heap.size + 1 ≠ w.heap.size := by omega
  change Code.wp Try.prog _ _ _ ((w.alloc (Obj.cells (msgF h d).toArray 28)).alloc (Obj.cells (msgL hd0 zr).toArray 28))
  generalize ((w.alloc (Obj.cells (msgF h d).toArray 28)).alloc (Obj.cells (msgL hd0 zr).toArray 28)) = W at *
  generalize w.heap.size + 1 = G at *
  have c0 := hM.cell 0 _ rfl
  go_wp2_with fail
  refine (partsOf_any h.ty _).mono ?_
  rintro e w1 ⟨rfl, hb1⟩
  replace hM := hM.below hb1
  replace hA := hA.below hb1
  replace hb := bnext hb hb1
  clear hb1 c0
  unfold partsV
  rw [hs, hg]
  go_upto_region 2 with fail
  have hP := Box.new w1 [Value.bool true, Value.bool true, Value.int IntKind.i64 (ownI h.ty)] 83
  have hnp : w1.heap.size ≠ w.heap.size := by have := hM.lt; omega
  have hnb := bnew w1 (Obj.cells ([Value.bool true, Value.bool true, Value.int IntKind.i64 (ownI h.ty)] : List Value).toArray 83)
  replace hM := hM.below hnb
  replace hA := hA.below hnb
  replace hb := bnext hb hnb
  clear hnb
  generalize w1.alloc _ = W2 at *
  generalize w1.heap.size = GP at *
  have p0 := hP.cell 0 _ rfl
  have p1 := hP.cell 1 _ rfl
  have c0 := hM.cell 0 _ rfl
  go_upto_region 7 with fail
  have hc11 := hM.cell 11 _ rfl
  have hf11 := hM.free 11
  have hc12 := hM.cell 12 _ rfl
  have hf12 := hM.free 12
  have hc13 := hM.cell 13 _ rfl
  have hf13 := hM.free 13
  have hc14 := hM.cell 14 _ rfl
  have hf14 := hM.free 14
  have hc15 := hM.cell 15 _ rfl
  have hf15 := hM.free 15
  have hc16 := hM.cell 16 _ rfl
  have hf16 := hM.free 16
  go_upto_region 8 with fail
  replace hA := ((((((hA.other hne 11 (.int .i64 0)).other hne 12 (.int .i64 0)).other hne 13 (.int .i64 0)).other hne 14 (.int .i64 0)).other hne 15 (.int .i64 0)).other hne 16 (.int .i64 0))
  replace hP := ((((((hP.other hnp 11 (.int .i64 0)).other hnp 12 (.int .i64 0)).other hnp 13 (.int .i64 0)).other hnp 14 (.int .i64 0)).other hnp 15 (.int .i64 0)).other hnp 16 (.int .i64 0))
  replace hb := ((((((hb.setCell (p := ⟨w.heap.size, 11, none⟩) (Nat.le_refl _) (.int .i64 0)).setCell (p := ⟨w.heap.size, 12, none⟩) (Nat.le_refl _) (.int .i64 0)).setCell (p := ⟨w.heap.size, 13, none⟩) (Nat.le_refl _) (.int .i64 0)).setCell (p := ⟨w.heap.size, 14, none⟩) (Nat.le_refl _) (.int .i64 0)).setCell (p := ⟨w.heap.size, 15, none⟩) (Nat.le_refl _) (.int .i64 0)).setCell (p := ⟨w.heap.size, 16, none⟩) (Nat.le_refl _) (.int .i64 0))
  replace hM : Box _ w.heap.size (msgF h ⟨d.st, d.tc, d.tp, 0, 0, 0, 0, 0, 0, d.gr, d.sr, d.og, d.sh, d.hp, d.ac⟩) _ := ((((((hM.set 11 (.int .i64 0)).set 12 (.int .i64 0)).set 13 (.int .i64 0)).set 14 (.int .i64 0)).set 15 (.int .i64 0)).set 16 (.int .i64 0))
  clear c0 p0 p1 hc11 hf11 hc12 hf12 hc13 hf13 hc14 hf14 hc15 hf15 hc16 hf16
  generalize World.setCell _ _ _ = W3 at *
  have p0 := hP.cell 0 _ rfl
  have p1 := hP.cell 1 _ rfl
  have c0 := hM.cell 0 _ rfl
  have hc17 := hM.cell 17 _ rfl
  have hf17 := hM.free 17
  have hc18 := hM.cell 18 _ rfl
  have hf18 := hM.free 18
  have hc19 := hM.cell 19 _ rfl
  have hf19 := hM.free 19
  go_upto_region 9 with fail
  replace hA := (((hA.other hne 17 (.int .u64 0)).other hne 18 (.int .i64 0)).other hne 19 (.int .i64 0))
  replace hP := (((hP.other hnp 17 (.int .u64 0)).other hnp 18 (.int .i64 0)).other hnp 19 (.int .i64 0))
  replace hb := (((hb.setCell (p := ⟨w.heap.size, 17, none⟩) (Nat.le_refl _) (.int .u64 0)).setCell (p := ⟨w.heap.size, 18, none⟩) (Nat.le_refl _) (.int .i64 0)).setCell (p := ⟨w.heap.size, 19, none⟩) (Nat.le_refl _) (.int .i64 0))
  replace hM : Box _ w.heap.size (msgF h ⟨d.st, d.tc, d.tp, 0, 0, 0, 0, 0, 0, 0, 0, 0, d.sh, d.hp, d.ac⟩) _ := (((hM.set 17 (.int .u64 0)).set 18 (.int .i64 0)).set 19 (.int .i64 0))
  clear c0 p0 p1 hc17 hf17 hc18 hf18 hc19 hf19
  generalize World.setCell _ _ _ = W4 at *
  have p0 := hP.cell 0 _ rfl
  have p1 := hP.cell 1 _ rfl
  have c0 := hM.cell 0 _ rfl
  go_upto_region 10 with fail
  have hc20 := hM.cell 20 _ rfl
  have hf20 := hM.free 20
  have hc21 := hM.cell 21 _ rfl
  have hf21 := hM.free 21
  have hc22 := hM.cell 22 _ rfl
  have hf22 := hM.free 22
  go_upto_region 11 with fail
  replace hA := (((hA.other hne 20 (.int .i64 0)).other hne 21 (.int .i64 0)).other hne 22 (.int .i64 0))
  replace hP := (((hP.other hnp 20 (.int .i64 0)).other hnp 21 (.int .i64 0)).other hnp 22 (.int .i64 0))
  replace hb := (((hb.setCell (p := ⟨w.heap.size, 20, none⟩) (Nat.le_refl _) (.int .i64 0)).setCell (p := ⟨w.heap.size, 21, none⟩) (Nat.le_refl _) (.int .i64 0)).setCell (p := ⟨w.heap.size, 22, none⟩) (Nat.le_refl _) (.int .i64 0))
  replace hM : Box _ w.heap.size (msgF h ⟨d.st, d.tc, d.tp, 0, 0, 0, 0, 0, 0, 0, 0, 0, 0, 0, 0⟩) _ := (((hM.set 20 (.int .i64 0)).set 21 (.int .i64 0)).set 22 (.int .i64 0))
  clear c0 p0 p1 hc20 hf20 hc21 hf21 hc22 hf22
  generalize World.setCell _ _ _ = W5 at *
  have p0 := hP.cell 0 _ rfl
  have p1 := hP.cell 1 _ rfl
  have c0 := hM.cell 0 _ rfl
  apply wp_region_lit
  refine wpList_load_msg (op := ⟨some 33, .load _ _, _, _, _, _⟩) rfl _ rfl w.heap.size rfl (msgF h ⟨d.st, d.tc, d.tp, 0, 0, 0, 0, 0, 0, 0, 0, 0, 0, 0, 0⟩) _ hM (msgF_length _ _) ?_
  refine wpList_store_msg (op := ⟨none, .store _ _ _, _, _, _, _⟩) rfl _ _ rfl G (msgF h ⟨d.st, d.tc, d.tp, 0, 0, 0, 0, 0, 0, 0, 0, 0, 0, 0, 0⟩) (msgL hd0 zr) _ rfl rfl hA (msgF_length _ _) (msgL_length _ _ zr_length) (msgL_one _ _ (bdL_one _)) ?_
  go_wp2_with fail
  exact bodyPost_ret (v := .agg (msgF h ⟨d.st, d.tc, d.tp, 0, 0, 0, 0, 0, 0, 0, 0, 0, 0, 0, 0⟩).toArray) (results_cell_row rfl _ _ G _ _ (0, 0) _ rfl (hA.row _) Try.underlying28 rfl info_msg) rfl ⟨rfl, below_setRow hb hG _⟩

set_option maxRecDepth 100000 in
set_option maxHeartbeats 4000000 in
theorem ofType_A (h : Hd) (d : Bd) (w : World) (h11 : h.ty = 11) :
    Calls Try.prog 74 #[.agg (msgF h d).toArray] w fun e w' => e = .returned (.agg (msgF h (ofB h.ty d)).toArray) ∧ Below w.heap.size w w' := by
  have hs : stB h.ty = true := by rw [h11]; decide
  have hg : tgB h.ty = false := by rw [h11]; decide
  have h13 : h.ty ≠ 13 := by omega
  have eB : ofB h.ty d = ⟨d.st, 0, 0, d.ut, d.p1, d.qc, d.qa, d.qv, d.p2, d.gr, d.sr, d.og, 0, 0, 0⟩ := by unfold ofB; simp [hs, hg, h11, h13, show stB 11 = true by decide, show tgB 11 = false by decide]
  rw [eB]
  clear eB
  have e11 : (h.ty == 11) = true := by rw [beq_iff_eq]; omega
  have e13 : (h.ty == 13) = false := by rw [beq_eq_false_iff_ne]; omega
  clear h11 h13
  go_enter Try.func74, Try.ntmps74
  go_upto_region 1 with fail
  have hM : Box ((w.alloc (Obj.cells (msgF h d).toArray 28)).alloc (Obj.cells (msgL hd0 zr).toArray 28)) w.heap.size (msgF h d) 28 := (Box.new w _ _).below (bnew _ _)
  have hA : Box ((w.alloc (Obj.cells (msgF h d).toArray 28)).alloc (Obj.cells (msgL hd0 zr).toArray 28)) (w.heap.size + 1) (msgL hd0 zr) 28 := heap_alloc2_new w _ _
  have hb := bnew2 w (Obj.cells (msgF h d).toArray 28) (Obj.cells (msgL hd0 zr).toArray 28)
  have hG : w.heap.size ≤ w.heap.size + 1 := by omega
  have hne : w.heap.size + 1 ≠ w.heap.size := by omega
  change Code.wp Try.prog _ _ _ ((w.alloc (Obj.cells (msgF h d).toArray 28)).alloc (Obj.cells (msgL hd0 zr).toArray 28))
  generalize ((w.alloc (Obj.cells (msgF h d).toArray 28)).alloc (Obj.cells (msgL hd0 zr).toArray 28)) = W at *
  generalize w.heap.size + 1 = G at *
  have c0 := hM.cell 0 _ rfl
  go_wp2_with fail
  refine (partsOf_any h.ty _).mono ?_
  rintro e w1 ⟨rfl, hb1⟩
  replace hM := hM.below hb1
  replace hA := hA.below hb1
  replace hb := bnext hb hb1
  clear hb1 c0
  unfold partsV
  rw [hs, hg]
  go_upto_region 2 with fail
  have hP := Box.new w1 [Value.bool true, Value.bool false, Value.int IntKind.i64 (ownI h.ty)] 83
  have hnp : w1.heap.size ≠ w.heap.size := by have := hM.lt; omega
  have hnb := bnew w1 (Obj.cells ([Value.bool true, Value.bool false, Value.int IntKind.i64 (ownI h.ty)] : List Value).toArray 83)
  replace hM := hM.below hnb
  replace hA := hA.below hnb
  replace hb := bnext hb hnb
  clear hnb
  generalize w1.alloc _ = W2 at *
  generalize w1.heap.size = GP at *
  have p0 := hP.cell 0 _ rfl
  have p1 := hP.cell 1 _ rfl
  have c0 := hM.cell 0 _ rfl
  go_upto_region 5 with fail
  have hc9 := hM.cell 9 _ rfl
  have hf9 := hM.free 9
  have hc10 := hM.cell 10 _ rfl
  have hf10 := hM.free 10
  go_upto_region 6 with fail
  replace hA := ((hA.other hne 9 (.int .u64 0)).other hne 10 (.int .i64 0))
  replace hP := ((hP.other hnp 9 (.int .u64 0)).other hnp 10 (.int .i64 0))
  replace hb := ((hb.setCell (p := ⟨w.heap.size, 9, none⟩) (Nat.le_refl _) (.int .u64 0)).setCell (p := ⟨w.heap.size, 10, none⟩) (Nat.le_refl _) (.int .i64 0))
  replace hM : Box _ w.heap.size (msgF h ⟨d.st, 0, 0, d.ut, d.p1, d.qc, d.qa, d.qv, d.p2, d.gr, d.sr, d.og, d.sh, d.hp, d.ac⟩) _ := ((hM.set 9 (.int .u64 0)).set 10 (.int .i64 0))
  clear c0 p0 p1 hc9 hf9 hc10 hf10
  generalize World.setCell _ _ _ = W3 at *
  have p0 := hP.cell 0 _ rfl
  have p1 := hP.cell 1 _ rfl
  have c0 := hM.cell 0 _ rfl
  go_upto_region 10 with fail
  have hc20 := hM.cell 20 _ rfl
  have hf20 := hM.free 20
  have hc21 := hM.cell 21 _ rfl
  have hf21 := hM.free 21
  have hc22 := hM.cell 22 _ rfl
  have hf22 := hM.free 22
  go_upto_region 11 with fail
  replace hA := (((hA.other hne 20 (.int .i64 0)).other hne 21 (.int .i64 0)).other hne 22 (.int .i64 0))
  replace hP := (((hP.other hnp 20 (.int .i64 0)).other hnp 21 (.int .i64 0)).other hnp 22 (.int .i64 0))
  replace hb := (((hb.setCell (p := ⟨w.heap.size, 20, none⟩) (Nat.le_refl _) (.int .i64 0)).setCell (p := ⟨w.heap.size, 21, none⟩) (Nat.le_refl _) (.int .i64 0)).setCell (p := ⟨w.heap.size, 22, none⟩) (Nat.le_refl _) (.int .i64 0))
  replace hM : Box _ w.heap.size (msgF h ⟨d.st, 0, 0, d.ut, d.p1, d.qc, d.qa, d.qv, d.p2, d.gr, d.sr, d.og, 0, 0, 0⟩) _ := (((hM.set 20 (.int .i64 0)).set 21 (.int .i64 0)).set 22 (.int .i64 0))
  clear c0 p0 p1 hc20 hf20 hc21 hf21 hc22 hf22
  generalize World.setCell _ _ _ = W4 at *
  have p0 := hP.cell 0 _ rfl
  have p1 := hP.cell 1 _ rfl
  have c0 := hM.cell 0 _ rfl
  apply wp_region_lit
  refine wpList_load_msg (op := ⟨some 33, .load _ _, _, _, _, _⟩) rfl _ rfl w.heap.size rfl (msgF h ⟨d.st, 0, 0, d.ut, d.p1, d.qc, d.qa, d.qv, d.p2, d.gr, d.sr, d.og, 0, 0, 0⟩) _ hM (msgF_length _ _) ?_
  refine wpList_store_msg (op := ⟨none, .store _ _ _, _, _, _, _⟩) rfl _ _ rfl G (msgF h ⟨d.st, 0, 0, d.ut, d.p1, d.qc, d.qa, d.qv, d.p2, d.gr, d.sr, d.og, 0, 0, 0⟩) (msgL hd0 zr) _ rfl rfl hA (msgF_length _ _) (msgL_length _ _ zr_length) (msgL_one _ _ (bdL_one _)) ?_
  go_wp2_with fail
  exact bodyPost_ret (v := .agg (msgF h ⟨d.st, 0, 0, d.ut, d.p1, d.qc, d.qa, d.qv, d.p2, d.gr, d.sr, d.og, 0, 0, 0⟩).toArray) (results_cell_row rfl _ _ G _ _ (0, 0) _ rfl (hA.row _) Try.underlying28 rfl info_msg) rfl ⟨rfl, below_setRow hb hG _⟩

set_option maxRecDepth 100000 in
set_option maxHeartbeats 4000000 in
theorem ofType_G (h : Hd) (d : Bd) (w : World) (hs : stB h.ty = false) (hg : tgB h.ty = true) (h11 : h.ty ≠ 11) (h13 : h.ty ≠ 13) :
    Calls Try.prog 74 #[.agg (msgF h d).toArray] w fun e w' => e = .returned (.agg (msgF h (ofB h.ty d)).toArray) ∧ Below w.heap.size w w' := by
  have eB : ofB h.ty d = ⟨0, d.tc, d.tp, 0, 0, 0, 0, 0, 0, 0, 0, 0, 0, 0, 0⟩ := by unfold ofB; simp [hs, hg, h11, h13]
  rw [eB]
  clear eB
  have e11 : (h.ty == 11) = false := by rw [beq_eq_false_iff_ne]; omega
  have e13 : (h.ty == 13) = false := by rw [beq_eq_false_iff_ne]; omega
  clear h11 h13
  go_enter Try.func74, Try.ntmps74
  go_upto_region 1 with fail
  have hM : Box ((w.alloc (Obj.cells (msgF h d).toArray 28)).alloc (Obj.cells (msgL hd0 zr).toArray 28)) w.heap.size (msgF h d) 28 := (Box.new w _ _).below (bnew _ _)
  have hA : Box ((w.alloc (Obj.cells (msgF h d).toArray 28)).alloc (Obj.cells (msgL hd0 zr).toArray 28)) (w.heap.size + 1) (msgL hd0 zr) 28 := heap_alloc2_new w _ _
  have hb := bnew2 w (Obj.cells (msgF h d).toArray 28) (Obj.cells (msgL hd0 zr).toArray 28)
  have hG : w.heap.size ≤ w.heap.size + 1 := by omega
  have hne : w.heap.size + 1 ≠ w.heap.size := by omega
  change Code.wp Try.prog _ _ _ ((w.alloc (Obj.cells (msgF h d).toArray 28)).alloc (Obj.cells (msgL hd0 zr).toArray 28))
  generalize ((w.alloc (Obj.cells (msgF h d).toArray 28)).alloc (Obj.cells (msgL hd0 zr).toArray 28)) = W at *
  generalize w.heap.size + 1 = G at *
  have c0 := hM.cell 0 _ rfl
  go_wp2_with fail
  refine (partsOf_any h.ty _).mono ?_
  rintro e w1 ⟨rfl, hb1⟩
  replace hM := hM.below hb1
  replace hA := hA.below hb1
  replace hb := bnext hb hb1
  clear hb1 c0
  unfold partsV
  rw [hs, hg]
  go_upto_region 2 with fail
  have hP := Box.new w1 [Value.bool false, Value.bool true, Value.int IntKind.i64 (ownI h.ty)] 83
  have hnp : w1.heap.size ≠ w.heap.size := by have := hM.lt; omega
  have hnb := bnew w1 (Obj.cells ([Value.bool false, Value.bool true, Value.int IntKind.i64 (ownI h.ty)] : List Value).toArray 83)
  replace hM := hM.below hnb
  replace hA := hA.below hnb
  replace hb := bnext hb hnb
  clear hnb
  generalize w1.alloc _ = W2 at *
  generalize w1.heap.size = GP at *
  have p0 := hP.cell 0 _ rfl
  have p1 := hP.cell 1 _ rfl
  have c0 := hM.cell 0 _ rfl
  go_upto_region 3 with fail
  have hc8 := hM.cell 8 _ rfl
  have hf8 := hM.free 8
  go_upto_region 4 with fail
  replace hA := (hA.other hne 8 (.int .i64 0))
  replace hP := (hP.other hnp 8 (.int .i64 0))
  replace hb := (hb.setCell (p := ⟨w.heap.size, 8, none⟩) (Nat.le_refl _) (.int .i64 0))
  replace hM : Box _ w.heap.size (msgF h ⟨0, d.tc, d.tp, d.ut, d.p1, d.qc, d.qa, d.qv, d.p2, d.gr, d.sr, d.og, d.sh, d.hp, d.ac⟩) _ := (hM.set 8 (.int .i64 0))
  clear c0 p0 p1 hc8 hf8
  generalize World.setCell _ _ _ = W3 at *
  have p0 := hP.cell 0 _ rfl
  have p1 := hP.cell 1 _ rfl
  have c0 := hM.cell 0 _ rfl
  go_upto_region 7 with fail
  have hc11 := hM.cell 11 _ rfl
  have hf11 := hM.free 11
  have hc12 := hM.cell 12 _ rfl
  have hf12 := hM.free 12
  have hc13 := hM.cell 13 _ rfl
  have hf13 := hM.free 13
  have hc14 := hM.cell 14 _ rfl
  have hf14 := hM.free 14
  have hc15 := hM.cell 15 _ rfl
  have hf15 := hM.free 15
  have hc16 := hM.cell 16 _ rfl
  have hf16 := hM.free 16
  go_upto_region 8 with fail
  replace hA := ((((((hA.other hne 11 (.int .i64 0)).other hne 12 (.int .i64 0)).other hne 13 (.int .i64 0)).other hne 14 (.int .i64 0)).other hne 15 (.int .i64 0)).other hne 16 (.int .i64 0))
  replace hP := ((((((hP.other hnp 11 (.int .i64 0)).other hnp 12 (.int .i64 0)).other hnp 13 (.int .i64 0)).other hnp 14 (.int .i64 0)).other hnp 15 (.int .i64 0)).other hnp 16 (.int .i64 0))
  replace hb := ((((((hb.setCell (p := ⟨w.heap.size, 11, none⟩) (Nat.le_refl _) (.int .i64 0)).setCell (p := ⟨w.heap.size, 12, none⟩) (Nat.le_refl _) (.int .i64 0)).setCell (p := ⟨w.heap.size, 13, none⟩) (Nat.le_refl _) (.int .i64 0)).setCell (p := ⟨w.heap.size, 14, none⟩) (Nat.le_refl _) (.int .i64 0)).setCell (p := ⟨w.heap.size, 15, none⟩) (Nat.le_refl _) (.int .i64 0)).setCell (p := ⟨w.heap.size, 16, none⟩) (Nat.le_refl _) (.int .i64 0))
  replace hM : Box _ w.heap.size (msgF h ⟨0, d.tc, d.tp, 0, 0, 0, 0, 0, 0, d.gr, d.sr, d.og, d.sh, d.hp, d.ac⟩) _ := ((((((hM.set 11 (.int .i64 0)).set 12 (.int .i64 0)).set 13 (.int .i64 0)).set 14 (.int .i64 0)).set 15 (.int .i64 0)).set 16 (.int .i64 0))
  clear c0 p0 p1 hc11 hf11 hc12 hf12 hc13 hf13 hc14 hf14 hc15 hf15 hc16 hf16
  generalize World.setCell _ _ _ = W4 at *
  have p0 := hP.cell 0 _ rfl
  have p1 := hP.cell 1 _ rfl
  have c0 := hM.cell 0 _ rfl
  have hc17 := hM.cell 17 _ rfl
  have hf17 := hM.free 17
  have hc18 := hM.cell 18 _ rfl
  have hf18 := hM.free 18
  have hc19 := hM.cell 19 _ rfl
  have hf19 := hM.free 19
  go_upto_region 9 with fail
  replace hA := (((hA.other hne 17 (.int .u64 0)).other hne 18 (.int .i64 0)).other hne 19 (.int .i64 0))
  replace hP := (((hP.other hnp 17 (.int .u64 0)).other hnp 18 (.int .i64 0)).other hnp 19 (.int .i64 0))
  replace hb := (((hb.setCell (p := ⟨w.heap.size, 17, none⟩) (Nat.le_refl _) (.int .u64 0)).setCell (p := ⟨w.heap.size, 18, none⟩) (Nat.le_refl _) (.int .i64 0)).setCell (p := ⟨w.heap.size, 19, none⟩) (Nat.le_refl _) (.int .i64 0))
  replace hM : Box _ w.heap.size (msgF h ⟨0, d.tc, d.tp, 0, 0, 0, 0, 0, 0, 0, 0, 0, d.sh, d.hp, d.ac⟩) _ := (((hM.set 17 (.int .u64 0)).set 18 (.int .i64 0)).set 19 (.int .i64 0))
  clear c0 p0 p1 hc17 hf17 hc18 hf18 hc19 hf19
  generalize World.setCell _ _ _ = W5 at *
  have p0 := hP.cell 0 _ rfl
  have p1 := hP.cell 1 _ rfl
  have c0 := hM.cell 0 _ rfl
  go_upto_region 10 with fail
  have hc20 := hM.cell 20 _ rfl
  have hf20 := hM.free 20
  have hc21 := hM.cell 21 _ rfl
  have hf21 := hM.free 21
  have hc22 := hM.cell 22 _ rfl
  have hf22 := hM.free 22
  go_upto_region 11 with fail
  replace hA := (((hA.other hne 20 (.int .i64 0)).other hne 21 (.int .i64 0)).other hne 22 (.int .i64 0))
  replace hP := (((hP.other hnp 20 (.int .i64 0)).other hnp 21 (.int .i64 0)).other hnp 22 (.int .i64 0))
  replace hb := (((hb.setCell (p := ⟨w.heap.size, 20, none⟩) (Nat.le_refl _) (.int .i64 0)).setCell (p := ⟨w.heap.size, 21, none⟩) (Nat.le_refl _) (.int .i64 0)).setCell (p := ⟨w.heap.size, 22, none⟩) (Nat.le_refl _) (.int .i64 0))
  replace hM : Box _ w.heap.size (msgF h ⟨0, d.tc, d.tp, 0, 0, 0, 0, 0, 0, 0, 0, 0, 0, 0, 0⟩) _ := (((hM.set 20 (.int .i64 0)).set 21 (.int .i64 0)).set 22 (.int .i64 0))
  clear c0 p0 p1 hc20 hf20 hc21 hf21 hc22 hf22
  generalize World.setCell _ _ _ = W6 at *
  have p0 := hP.cell 0 _ rfl
  have p1 := hP.cell 1 _ rfl
  have c0 := hM.cell 0 _ rfl
  apply wp_region_lit
  refine wpList_load_msg (op := ⟨some 33, .load _ _, _, _, _, _⟩) rfl _ rfl w.heap.size rfl (msgF h ⟨0, d.tc, d.tp, 0, 0, 0, 0, 0, 0, 0, 0, 0, 0, 0, 0⟩) _ hM (msgF_length _ _) ?_
  refine wpList_store_msg (op := ⟨none, .store _ _ _, _, _, _, _⟩) rfl _ _ rfl G (msgF h ⟨0, d.tc, d.tp, 0, 0, 0, 0, 0, 0, 0, 0, 0, 0, 0, 0⟩) (msgL hd0 zr) _ rfl rfl hA (msgF_length _ _) (msgL_length _ _ zr_length) (msgL_one _ _ (bdL_one _)) ?_
  go_wp2_with fail
  exact bodyPost_ret (v := .agg (msgF h ⟨0, d.tc, d.tp, 0, 0, 0, 0, 0, 0, 0, 0, 0, 0, 0, 0⟩).toArray) (results_cell_row rfl _ _ G _ _ (0, 0) _ rfl (hA.row _) Try.underlying28 rfl info_msg) rfl ⟨rfl, below_setRow hb hG _⟩

set_option maxRecDepth 100000 in
set_option maxHeartbeats 4000000 in
theorem ofType_M (h : Hd) (d : Bd) (w : World) (h13 : h.ty = 13) :
    Calls Try.prog 74 #[.agg (msgF h d).toArray] w fun e w' => e = .returned (.agg (msgF h (ofB h.ty d)).toArray) ∧ Below w.heap.size w w' := by
  have hs : stB h.ty = false := by rw [h13]; decide
  have hg : tgB h.ty = true := by rw [h13]; decide
  have h11 : h.ty ≠ 11 := by omega
  have eB : ofB h.ty d = ⟨0, d.tc, d.tp, 0, 0, 0, 0, 0, 0, 0, 0, 0, d.sh, d.hp, d.ac⟩ := by unfold ofB; simp [hs, hg, h11, h13, show stB 13 = false by decide, show tgB 13 = true by decide]
  rw [eB]
  clear eB
  have e11 : (h.ty == 11) = false := by rw [beq_eq_false_iff_ne]; omega
  have e13 : (h.ty == 13) = true := by rw [beq_iff_eq]; omega
  clear h11 h13
  go_enter Try.func74, Try.ntmps74
  go_upto_region 1 with fail
  have hM : Box ((w.alloc (Obj.cells (msgF h d).toArray 28)).alloc (Obj.cells (msgL hd0 zr).toArray 28)) w.heap.size (msgF h d) 28 := (Box.new w _ _).below (bnew _ _)
  have hA : Box ((w.alloc (Obj.cells (msgF h d).toArray 28)).alloc (Obj.cells (msgL hd0 zr).toArray 28)) (w.heap.size + 1) (msgL hd0 zr) 28 := heap_alloc2_new w _ _
  have hb := bnew2 w (Obj.cells (msgF h d).toArray 28) (Obj.cells (msgL hd0 zr).toArray 28)
  have hG : w.heap.size ≤ w.heap.size + 1 := by omega
  have hne : w.heap.size + 1 ≠ w.heap.size := by omega
  change Code.wp Try.prog _ _ _ ((w.alloc (Obj.cells (msgF h d).toArray 28)).alloc (Obj.cells (msgL hd0 zr).toArray 28))
  generalize ((w.alloc (Obj.cells (msgF h d).toArray 28)).alloc (Obj.cells (msgL hd0 zr).toArray 28)) = W at *
  generalize w.heap.size + 1 = G at *
  have c0 := hM.cell 0 _ rfl
  go_wp2_with fail
  refine (partsOf_any h.ty _).mono ?_
  rintro e w1 ⟨rfl, hb1⟩
  replace hM := hM.below hb1
  replace hA := hA.below hb1
  replace hb := bnext hb hb1
  clear hb1 c0
  unfold partsV
  rw [hs, hg]
  go_upto_region 2 with fail
  have hP := Box.new w1 [Value.bool false, Value.bool true, Value.int IntKind.i64 (ownI h.ty)] 83
  have hnp : w1.heap.size ≠ w.heap.size := by have := hM.lt; omega
  have hnb := bnew w1 (Obj.cells ([Value.bool false, Value.bool true, Value.int IntKind.i64 (ownI h.ty)] : List Value).toArray 83)
  replace hM := hM.below hnb
  replace hA := hA.below hnb
  replace hb := bnext hb hnb
  clear hnb
  generalize w1.alloc _ = W2 at *
  generalize w1.heap.size = GP at *
  have p0 := hP.cell 0 _ rfl
  have p1 := hP.cell 1 _ rfl
  have c0 := hM.cell 0 _ rfl
  go_upto_region 3 with fail
  have hc8 := hM.cell 8 _ rfl
  have hf8 := hM.free 8
  go_upto_region 4 with fail
  replace hA := (hA.other hne 8 (.int .i64 0))
  replace hP := (hP.other hnp 8 (.int .i64 0))
  replace hb := (hb.setCell (p := ⟨w.heap.size, 8, none⟩) (Nat.le_refl _) (.int .i64 0))
  replace hM : Box _ w.heap.size (msgF h ⟨0, d.tc, d.tp, d.ut, d.p1, d.qc, d.qa, d.qv, d.p2, d.gr, d.sr, d.og, d.sh, d.hp, d.ac⟩) _ := (hM.set 8 (.int .i64 0))
  clear c0 p0 p1 hc8 hf8
  generalize World.setCell _ _ _ = W3 at *
  have p0 := hP.cell 0 _ rfl
  have p1 := hP.cell 1 _ rfl
  have c0 := hM.cell 0 _ rfl
  go_upto_region 7 with fail
  have hc11 := hM.cell 11 _ rfl
  have hf11 := hM.free 11
  have hc12 := hM.cell 12 _ rfl
  have hf12 := hM.free 12
  have hc13 := hM.cell 13 _ rfl
  have hf13 := hM.free 13
  have hc14 := hM.cell 14 _ rfl
  have hf14 := hM.free 14
  have hc15 := hM.cell 15 _ rfl
  have hf15 := hM.free 15
  have hc16 := hM.cell 16 _ rfl
  have hf16 := hM.free 16
  go_upto_region 8 with fail
  replace hA := ((((((hA.other hne 11 (.int .i64 0)).other hne 12 (.int .i64 0)).other hne 13 (.int .i64 0)).other hne 14 (.int .i64 0)).other hne 15 (.int .i64 0)).other hne 16 (.int .i64 0))
  replace hP := ((((((hP.other hnp 11 (.int .i64 0)).other hnp 12 (.int .i64 0)).other hnp 13 (.int .i64 0)).other hnp 14 (.int .i64 0)).other hnp 15 (.int .i64 0)).other hnp 16 (.int .i64 0))
  replace hb := ((((((hb.setCell (p := ⟨w.heap.size, 11, none⟩) (Nat.le_refl _) (.int .i64 0)).setCell (p := ⟨w.heap.size, 12, none⟩) (Nat.le_refl _) (.int .i64 0)).setCell (p := ⟨w.heap.size, 13, none⟩) (Nat.le_refl _) (.int .i64 0)).setCell (p := ⟨w.heap.size, 14, none⟩) (Nat.le_refl _) (.int .i64 0)).setCell (p := ⟨w.heap.size, 15, none⟩) (Nat.le_refl _) (.int .i64 0)).setCell (p := ⟨w.heap.size, 16, none⟩) (Nat.le_refl _) (.int .i64 0))
  replace hM : Box _ w.heap.size (msgF h ⟨0, d.tc, d.tp, 0, 0, 0, 0, 0, 0, d.gr, d.sr, d.og, d.sh, d.hp, d.ac⟩) _ := ((((((hM.set 11 (.int .i64 0)).set 12 (.int .i64 0)).set 13 (.int .i64 0)).set 14 (.int .i64 0)).set 15 (.int .i64 0)).set 16 (.int .i64 0))
  clear c0 p0 p1 hc11 hf11 hc12 hf12 hc13 hf13 hc14 hf14 hc15 hf15 hc16 hf16
  generalize World.setCell _ _ _ = W4 at *
  have p0 := hP.cell 0 _ rfl
  have p1 := hP.cell 1 _ rfl
  have c0 := hM.cell 0 _ rfl
  have hc17 := hM.cell 17 _ rfl
  have hf17 := hM.free 17
  have hc18 := hM.cell 18 _ rfl
  have hf18 := hM.free 18
  have hc19 := hM.cell 19 _ rfl
  have hf19 := hM.free 19
  go_upto_region 9 with fail
  replace hA := (((hA.other hne 17 (.int .u64 0)).other hne 18 (.int .i64 0)).other hne 19 (.int .i64 0))
  replace hP := (((hP.other hnp 17 (.int .u64 0)).other hnp 18 (.int .i64 0)).other hnp 19 (.int .i64 0))
  replace hb := (((hb.setCell (p := ⟨w.heap.size, 17, none⟩) (Nat.le_refl _) (.int .u64 0)).setCell (p := ⟨w.heap.size, 18, none⟩) (Nat.le_refl _) (.int .i64 0)).setCell (p := ⟨w.heap.size, 19, none⟩) (Nat.le_refl _) (.int .i64 0))
  replace hM : Box _ w.heap.size (msgF h ⟨0, d.tc, d.tp, 0, 0, 0, 0, 0, 0, 0, 0, 0, d.sh, d.hp, d.ac⟩) _ := (((hM.set 17 (.int .u64 0)).set 18 (.int .i64 0)).set 19 (.int .i64 0))
  clear c0 p0 p1 hc17 hf17 hc18 hf18 hc19 hf19
  generalize World.setCell _ _ _ = W5 at *
  have p0 := hP.cell 0 _ rfl
  have p1 := hP.cell 1 _ rfl
  have c0 := hM.cell 0 _ rfl
  go_upto_region 11 with fail
  apply wp_region_lit
  refine wpList_load_msg (op := ⟨some 33, .load _ _, _, _, _, _⟩) rfl _ rfl w.heap.size rfl (msgF h ⟨0, d.tc, d.tp, 0, 0, 0, 0, 0, 0, 0, 0, 0, d.sh, d.hp, d.ac⟩) _ hM (msgF_length _ _) ?_
  refine wpList_store_msg (op := ⟨none, .store _ _ _, _, _, _, _⟩) rfl _ _ rfl G (msgF h ⟨0, d.tc, d.tp, 0, 0, 0, 0, 0, 0, 0, 0, 0, d.sh, d.hp, d.ac⟩) (msgL hd0 zr) _ rfl rfl hA (msgF_length _ _) (msgL_length _ _ zr_length) (msgL_one _ _ (bdL_one _)) ?_
  go_wp2_with fail
  exact bodyPost_ret (v := .agg (msgF h ⟨0, d.tc, d.tp, 0, 0, 0, 0, 0, 0, 0, 0, 0, d.sh, d.hp, d.ac⟩).toArray) (results_cell_row rfl _ _ G _ _ (0, 0) _ rfl (hA.row _) Try.underlying28 rfl info_msg) rfl ⟨rfl, below_setRow hb hG _⟩

theorem ofType_any (h : Hd) (d : Bd) (w : World) :
    Calls Try.prog 74 #[.agg (msgF h d).toArray] w fun e w' => e = .returned (.agg (msgF h (ofB h.ty d)).toArray) ∧ Below w.heap.size w w' := by
  rcases kinds h.ty with ⟨h1, h2, h3, h4⟩ | ⟨h1, h2, h3, h4⟩ | ⟨h1, h2, h3, h4⟩ | h1 | ⟨h1, h2, h3, h4⟩ | h1
  · exact ofType_N h d w h1 h2 h3 h4
  · exact ofType_S h d w h1 h2 h3 h4
  · exact ofType_B h d w h1 h2 h3 h4
  · exact ofType_A h d w h1
  · exact ofType_G h d w h1 h2 h3 h4
  · exact ofType_M h d w h1
end Go.Proofs.Ytohgpnlihfcecaa
