/- ConfLimits, from contracts of the program's own (gen_conflaws.py). -/
import Derived.Test.YtmcnohndgnaagaaConfLaws0
namespace Go.Proofs.Ytmcnohndgnaagaa
open Go.RowKit Go.Proofs
set_option maxRecDepth 50000
set_option linter.unusedVariables false
set_option linter.unusedSimpArgs false

/-- A function that turns a configuration in its box. -/
def Turns (n : Nat) (g : Cf → Cf) : Prop := ∀ (gB : Nat) (c : Cf) (w : World), Box w gB (cfL c) 29 →
  Calls Try.prog n #[.pointer (some ⟨gB, 0, none⟩)] w fun e w' => e = .returned (.tuple #[]) ∧ Box w' gB (cfL (g c)) 29 ∧ Below gB w w'

set_option maxRecDepth 100000 in
set_option maxHeartbeats 1600000 in
theorem turns_2 : Turns 13 (fun c => { c with po := 8 }) := by
  intro gB c w hB
  have hb := Below.refl gB w
  have f1 := hB.free 1
  have c1 := hB.cell 1 _ rfl
  go_enter Try.func13, Try.ntmps13
  go_wp2_with fail
  go_end0
  exact ⟨rfl, (hB.set 1 (.int .i64 (8))), (hb.setCell (p := ⟨gB, 1, none⟩) (Nat.le_refl _) (.int .i64 (8)))⟩

set_option maxRecDepth 100000 in
set_option maxHeartbeats 1600000 in
theorem turns_3 : Turns 14 (fun c => { c with po := 9 }) := by
  intro gB c w hB
  have hb := Below.refl gB w
  have f1 := hB.free 1
  have c1 := hB.cell 1 _ rfl
  go_enter Try.func14, Try.ntmps14
  go_wp2_with fail
  go_end0
  exact ⟨rfl, (hB.set 1 (.int .i64 (9))), (hb.setCell (p := ⟨gB, 1, none⟩) (Nat.le_refl _) (.int .i64 (9)))⟩

set_option maxRecDepth 100000 in
set_option maxHeartbeats 1600000 in
theorem turns_4 : Turns 15 (fun c => { c with po := 0 }) := by
  intro gB c w hB
  have hb := Below.refl gB w
  have f1 := hB.free 1
  have c1 := hB.cell 1 _ rfl
  go_enter Try.func15, Try.ntmps15
  go_wp2_with fail
  go_end0
  exact ⟨rfl, (hB.set 1 (.int .i64 (0))), (hb.setCell (p := ⟨gB, 1, none⟩) (Nat.le_refl _) (.int .i64 (0)))⟩

set_option maxRecDepth 100000 in
set_option maxHeartbeats 1600000 in
theorem turns_5 : Turns 16 (fun c => { c with dm := 127 }) := by
  intro gB c w hB
  have hb := Below.refl gB w
  have f2 := hB.free 2
  have c2 := hB.cell 2 _ rfl
  go_enter Try.func16, Try.ntmps16
  go_wp2_with fail
  go_end0
  exact ⟨rfl, (hB.set 2 (.int .i64 (127))), (hb.setCell (p := ⟨gB, 2, none⟩) (Nat.le_refl _) (.int .i64 (127)))⟩

set_option maxRecDepth 100000 in
set_option maxHeartbeats 1600000 in
theorem turns_6 : Turns 17 (fun c => { c with dm := 128 }) := by
  intro gB c w hB
  have hb := Below.refl gB w
  have f2 := hB.free 2
  have c2 := hB.cell 2 _ rfl
  go_enter Try.func17, Try.ntmps17
  go_wp2_with fail
  go_end0
  exact ⟨rfl, (hB.set 2 (.int .i64 (128))), (hb.setCell (p := ⟨gB, 2, none⟩) (Nat.le_refl _) (.int .i64 (128)))⟩

set_option maxRecDepth 100000 in
set_option maxHeartbeats 1600000 in
theorem turns_7 : Turns 18 (fun c => { c with la := -3 }) := by
  intro gB c w hB
  have hb := Below.refl gB w
  have f9 := hB.free 9
  have c9 := hB.cell 9 _ rfl
  go_enter Try.func18, Try.ntmps18
  go_wp2_with fail
  go_end0
  exact ⟨rfl, (hB.set 9 (.int .i64 (-3))), (hb.setCell (p := ⟨gB, 9, none⟩) (Nat.le_refl _) (.int .i64 (-3)))⟩

set_option maxRecDepth 100000 in
set_option maxHeartbeats 1600000 in
theorem turns_8 : Turns 19 (fun c => { c with la := -4 }) := by
  intro gB c w hB
  have hb := Below.refl gB w
  have f9 := hB.free 9
  have c9 := hB.cell 9 _ rfl
  go_enter Try.func19, Try.ntmps19
  go_wp2_with fail
  go_end0
  exact ⟨rfl, (hB.set 9 (.int .i64 (-4))), (hb.setCell (p := ⟨gB, 9, none⟩) (Nat.le_refl _) (.int .i64 (-4)))⟩

set_option maxRecDepth 100000 in
set_option maxHeartbeats 1600000 in
theorem turns_9 : Turns 20 (fun c => { c with ls := 4 }) := by
  intro gB c w hB
  have hb := Below.refl gB w
  have f10 := hB.free 10
  have c10 := hB.cell 10 _ rfl
  go_enter Try.func20, Try.ntmps20
  go_wp2_with fail
  go_end0
  exact ⟨rfl, (hB.set 10 (.int .i64 (4))), (hb.setCell (p := ⟨gB, 10, none⟩) (Nat.le_refl _) (.int .i64 (4)))⟩

set_option maxRecDepth 100000 in
set_option maxHeartbeats 1600000 in
theorem turns_10 : Turns 21 (fun c => { c with ls := 5 }) := by
  intro gB c w hB
  have hb := Below.refl gB w
  have f10 := hB.free 10
  have c10 := hB.cell 10 _ rfl
  go_enter Try.func21, Try.ntmps21
  go_wp2_with fail
  go_end0
  exact ⟨rfl, (hB.set 10 (.int .i64 (5))), (hb.setCell (p := ⟨gB, 10, none⟩) (Nat.le_refl _) (.int .i64 (5)))⟩

set_option maxRecDepth 100000 in
set_option maxHeartbeats 1600000 in
theorem turns_11 : Turns 22 (fun c => { c with tm := 2 }) := by
  intro gB c w hB
  have hb := Below.refl gB w
  have f12 := hB.free 12
  have c12 := hB.cell 12 _ rfl
  go_enter Try.func22, Try.ntmps22
  go_wp2_with fail
  go_end0
  exact ⟨rfl, (hB.set 12 (.int .i64 (2))), (hb.setCell (p := ⟨gB, 12, none⟩) (Nat.le_refl _) (.int .i64 (2)))⟩

set_option maxRecDepth 100000 in
set_option maxHeartbeats 1600000 in
theorem turns_12 : Turns 23 (fun c => { c with tm := 1 }) := by
  intro gB c w hB
  have hb := Below.refl gB w
  have f12 := hB.free 12
  have c12 := hB.cell 12 _ rfl
  go_enter Try.func23, Try.ntmps23
  go_wp2_with fail
  go_end0
  exact ⟨rfl, (hB.set 12 (.int .i64 (1))), (hb.setCell (p := ⟨gB, 12, none⟩) (Nat.le_refl _) (.int .i64 (1)))⟩

set_option maxRecDepth 100000 in
set_option maxHeartbeats 1600000 in
theorem turns_13 : Turns 24 (fun c => { c with tm := 11 }) := by
  intro gB c w hB
  have hb := Below.refl gB w
  have f12 := hB.free 12
  have c12 := hB.cell 12 _ rfl
  go_enter Try.func24, Try.ntmps24
  go_wp2_with fail
  go_end0
  exact ⟨rfl, (hB.set 12 (.int .i64 (11))), (hb.setCell (p := ⟨gB, 12, none⟩) (Nat.le_refl _) (.int .i64 (11)))⟩

set_option maxRecDepth 100000 in
set_option maxHeartbeats 1600000 in
theorem turns_14 : Turns 25 (fun c => { c with md := 15 }) := by
  intro gB c w hB
  have hb := Below.refl gB w
  have f15 := hB.free 15
  have c15 := hB.cell 15 _ rfl
  go_enter Try.func25, Try.ntmps25
  go_wp2_with fail
  go_end0
  exact ⟨rfl, (hB.set 15 (.int .i64 (15))), (hb.setCell (p := ⟨gB, 15, none⟩) (Nat.le_refl _) (.int .i64 (15)))⟩

set_option maxRecDepth 100000 in
set_option maxHeartbeats 1600000 in
theorem turns_15 : Turns 26 (fun c => { c with md := 16 }) := by
  intro gB c w hB
  have hb := Below.refl gB w
  have f15 := hB.free 15
  have c15 := hB.cell 15 _ rfl
  go_enter Try.func26, Try.ntmps26
  go_wp2_with fail
  go_end0
  exact ⟨rfl, (hB.set 15 (.int .i64 (16))), (hb.setCell (p := ⟨gB, 15, none⟩) (Nat.le_refl _) (.int .i64 (16)))⟩

set_option maxRecDepth 100000 in
set_option maxHeartbeats 1600000 in
theorem turns_16 : Turns 27 (fun c => { c with kp := 2000 }) := by
  intro gB c w hB
  have hb := Below.refl gB w
  have f16 := hB.free 16
  have c16 := hB.cell 16 _ rfl
  go_enter Try.func27, Try.ntmps27
  go_wp2_with fail
  go_end0
  exact ⟨rfl, (hB.set 16 (.int .i64 (2000))), (hb.setCell (p := ⟨gB, 16, none⟩) (Nat.le_refl _) (.int .i64 (2000)))⟩

set_option maxRecDepth 100000 in
set_option maxHeartbeats 1600000 in
theorem turns_17 : Turns 28 (fun c => { c with ki := 2001 }) := by
  intro gB c w hB
  have hb := Below.refl gB w
  have f17 := hB.free 17
  have c17 := hB.cell 17 _ rfl
  go_enter Try.func28, Try.ntmps28
  go_wp2_with fail
  go_end0
  exact ⟨rfl, (hB.set 17 (.int .i64 (2001))), (hb.setCell (p := ⟨gB, 17, none⟩) (Nat.le_refl _) (.int .i64 (2001)))⟩

set_option maxRecDepth 100000 in
set_option maxHeartbeats 1600000 in
theorem turns_18 : Turns 29 (fun c => { c with st := 1000000000 }) := by
  intro gB c w hB
  have hb := Below.refl gB w
  have f18 := hB.free 18
  have c18 := hB.cell 18 _ rfl
  go_enter Try.func29, Try.ntmps29
  go_wp2_with fail
  go_end0
  exact ⟨rfl, (hB.set 18 (.int .i64 (1000000000))), (hb.setCell (p := ⟨gB, 18, none⟩) (Nat.le_refl _) (.int .i64 (1000000000)))⟩

set_option maxRecDepth 100000 in
set_option maxHeartbeats 1600000 in
theorem turns_19 : Turns 30 (fun c => { c with st := 1000000001 }) := by
  intro gB c w hB
  have hb := Below.refl gB w
  have f18 := hB.free 18
  have c18 := hB.cell 18 _ rfl
  go_enter Try.func30, Try.ntmps30
  go_wp2_with fail
  go_end0
  exact ⟨rfl, (hB.set 18 (.int .i64 (1000000001))), (hb.setCell (p := ⟨gB, 18, none⟩) (Nat.le_refl _) (.int .i64 (1000000001)))⟩

set_option maxRecDepth 100000 in
set_option maxHeartbeats 1600000 in
theorem turns_20 : Turns 31 (fun c => { c with fl := 63 }) := by
  intro gB c w hB
  have hb := Below.refl gB w
  have f20 := hB.free 20
  have c20 := hB.cell 20 _ rfl
  go_enter Try.func31, Try.ntmps31
  go_wp2_with fail
  go_end0
  exact ⟨rfl, (hB.set 20 (.int .i64 (63))), (hb.setCell (p := ⟨gB, 20, none⟩) (Nat.le_refl _) (.int .i64 (63)))⟩

set_option maxRecDepth 100000 in
set_option maxHeartbeats 1600000 in
theorem turns_21 : Turns 32 (fun c => { c with fl := 64 }) := by
  intro gB c w hB
  have hb := Below.refl gB w
  have f20 := hB.free 20
  have c20 := hB.cell 20 _ rfl
  go_enter Try.func32, Try.ntmps32
  go_wp2_with fail
  go_end0
  exact ⟨rfl, (hB.set 20 (.int .i64 (64))), (hb.setCell (p := ⟨gB, 20, none⟩) (Nat.le_refl _) (.int .i64 (64)))⟩

set_option maxRecDepth 100000 in
set_option maxHeartbeats 1600000 in
theorem turns_22 : Turns 33 (fun c => { c with so := true }) := by
  intro gB c w hB
  have hb := Below.refl gB w
  have f8 := hB.free 8
  have c8 := hB.cell 8 _ rfl
  go_enter Try.func33, Try.ntmps33
  go_wp2_with fail
  go_end0
  exact ⟨rfl, (hB.set 8 (.bool true)), (hb.setCell (p := ⟨gB, 8, none⟩) (Nat.le_refl _) (.bool true))⟩

set_option maxRecDepth 100000 in
set_option maxHeartbeats 1600000 in
theorem turns_23 : Turns 34 (fun c => { c with so := true, qc := 255 }) := by
  intro gB c w hB
  have hb := Below.refl gB w
  have f8 := hB.free 8
  have c8 := hB.cell 8 _ rfl
  have f5 := hB.free 5
  have c5 := hB.cell 5 _ rfl
  go_enter Try.func34, Try.ntmps34
  go_wp2_with fail
  go_end0
  exact ⟨rfl, ((hB.set 8 (.bool true)).set 5 (.int .i64 255)), ((hb.setCell (p := ⟨gB, 8, none⟩) (Nat.le_refl _) (.bool true)).setCell (p := ⟨gB, 5, none⟩) (Nat.le_refl _) (.int .i64 255))⟩

set_option maxRecDepth 100000 in
set_option maxHeartbeats 1600000 in
theorem turns_24 : Turns 35 (fun c => { c with so := true, qc := 255, po := 2 }) := by
  intro gB c w hB
  have hb := Below.refl gB w
  have f8 := hB.free 8
  have c8 := hB.cell 8 _ rfl
  have f5 := hB.free 5
  have c5 := hB.cell 5 _ rfl
  have f1 := hB.free 1
  have c1 := hB.cell 1 _ rfl
  go_enter Try.func35, Try.ntmps35
  go_wp2_with fail
  go_end0
  exact ⟨rfl, (((hB.set 8 (.bool true)).set 5 (.int .i64 255)).set 1 (.int .i64 2)), (((hb.setCell (p := ⟨gB, 8, none⟩) (Nat.le_refl _) (.bool true)).setCell (p := ⟨gB, 5, none⟩) (Nat.le_refl _) (.int .i64 255)).setCell (p := ⟨gB, 1, none⟩) (Nat.le_refl _) (.int .i64 2))⟩

set_option maxRecDepth 100000 in
set_option maxHeartbeats 8000000 in
theorem turned_2 (HD : CDef) (HC : CChk) (w : World) :
    Calls Try.prog 10 #[.func (.func 13) #[] #[]] w fun e w' => e = .returned (.bool (decide (CfOk { defC 5 with po := 8 }))) ∧ Below w.heap.size w w' := by
  have hch := fun wx => HC (({ defC 5 with po := 8 } : Cf)) wx (by unfold CfIn defC; decide)
  have hb0 := Below.refl w.heap.size w
  go_enter Try.func10, Try.ntmps10
  go_wp2_with fail
  refine (HD 5 _ (by decide)).mono ?_
  rintro e w1 ⟨rfl, hb⟩
  have hgle := hb.size
  have N := Box.new w1 (cfL zeroC) 29
  have nb := bnew w1 (Obj.cells (cfL zeroC).toArray 29)
  go_upto_region 2 with (guard_target =~ wpList _ _ _ (⟨none, _, _, _, _, _⟩ :: _) _ _; refine wpList_store_conf (op := ⟨none, .store _ _ _, _, _, _, _⟩) (by rfl) _ _ (by rfl) w1.heap.size (defC 5) (zeroC) _ (by rfl) (by rfl) N ?_)
  have B1 := N.rowC (cfL (defC 5))
  replace nb := below_setRow nb (Nat.le_refl _) (cfL (defC 5)).toArray
  change Code.wp _ _ _ _ ((w1.alloc (Obj.cells (cfL zeroC).toArray 29)).setRow w1.heap.size (cfL (defC 5)).toArray)
  generalize ((w1.alloc (Obj.cells (cfL zeroC).toArray 29)).setRow w1.heap.size (cfL (defC 5)).toArray) = W1 at *
  generalize hgB1 : w1.heap.size = gB1 at *
  have nc : Below w1.heap.size w1 W1 := by rw [hgB1]; exact nb
  replace hb := bnext hb nc
  clear N nb nc
  go_wp2_with fail
  refine (turns_2 gB1 _ W1 B1).mono ?_
  rintro e w2 ⟨rfl, B2, b2⟩
  replace hb := hb.trans (b2.mono hgle)
  clear B1
  replace B2 : Box w2 gB1 (cfL (({ defC 5 with po := 8 } : Cf))) 29 := B2
  generalize hgC : ({ defC 5 with po := 8 } : Cf) = C at *
  go_wp2_with (guard_target =~ wpList _ _ _ (⟨some 7, _, _, _, _, _⟩ :: _) _ _; refine wpList_load_conf (op := ⟨some 7, .load _ _, _, _, _, _⟩) (by rfl) _ (by rfl) gB1 (by rfl) (C) _ B2 ?_)
  refine (hch _).mono ?_
  rintro e w3 ⟨rfl, b3⟩
  by_cases hC : CfOk C
  · rw [show checkE C = 0 from if_pos hC]
    go_wp2_with fail
    go_ret
    exact ⟨by show Ending.returned (.bool true) = _; rw [hgC, decide_eq_true hC], bnext hb b3⟩
  · rw [show checkE C = 15 from if_neg hC]
    go_wp2_with fail
    go_ret
    exact ⟨by show Ending.returned (.bool false) = _; rw [hgC, decide_eq_false hC], bnext hb b3⟩

set_option maxRecDepth 100000 in
set_option maxHeartbeats 8000000 in
theorem turned_3 (HD : CDef) (HC : CChk) (w : World) :
    Calls Try.prog 10 #[.func (.func 14) #[] #[]] w fun e w' => e = .returned (.bool (decide (CfOk { defC 5 with po := 9 }))) ∧ Below w.heap.size w w' := by
  have hch := fun wx => HC (({ defC 5 with po := 9 } : Cf)) wx (by unfold CfIn defC; decide)
  have hb0 := Below.refl w.heap.size w
  go_enter Try.func10, Try.ntmps10
  go_wp2_with fail
  refine (HD 5 _ (by decide)).mono ?_
  rintro e w1 ⟨rfl, hb⟩
  have hgle := hb.size
  have N := Box.new w1 (cfL zeroC) 29
  have nb := bnew w1 (Obj.cells (cfL zeroC).toArray 29)
  go_upto_region 2 with (guard_target =~ wpList _ _ _ (⟨none, _, _, _, _, _⟩ :: _) _ _; refine wpList_store_conf (op := ⟨none, .store _ _ _, _, _, _, _⟩) (by rfl) _ _ (by rfl) w1.heap.size (defC 5) (zeroC) _ (by rfl) (by rfl) N ?_)
  have B1 := N.rowC (cfL (defC 5))
  replace nb := below_setRow nb (Nat.le_refl _) (cfL (defC 5)).toArray
  change Code.wp _ _ _ _ ((w1.alloc (Obj.cells (cfL zeroC).toArray 29)).setRow w1.heap.size (cfL (defC 5)).toArray)
  generalize ((w1.alloc (Obj.cells (cfL zeroC).toArray 29)).setRow w1.heap.size (cfL (defC 5)).toArray) = W1 at *
  generalize hgB1 : w1.heap.size = gB1 at *
  have nc : Below w1.heap.size w1 W1 := by rw [hgB1]; exact nb
  replace hb := bnext hb nc
  clear N nb nc
  go_wp2_with fail
  refine (turns_3 gB1 _ W1 B1).mono ?_
  rintro e w2 ⟨rfl, B2, b2⟩
  replace hb := hb.trans (b2.mono hgle)
  clear B1
  replace B2 : Box w2 gB1 (cfL (({ defC 5 with po := 9 } : Cf))) 29 := B2
  generalize hgC : ({ defC 5 with po := 9 } : Cf) = C at *
  go_wp2_with (guard_target =~ wpList _ _ _ (⟨some 7, _, _, _, _, _⟩ :: _) _ _; refine wpList_load_conf (op := ⟨some 7, .load _ _, _, _, _, _⟩) (by rfl) _ (by rfl) gB1 (by rfl) (C) _ B2 ?_)
  refine (hch _).mono ?_
  rintro e w3 ⟨rfl, b3⟩
  by_cases hC : CfOk C
  · rw [show checkE C = 0 from if_pos hC]
    go_wp2_with fail
    go_ret
    exact ⟨by show Ending.returned (.bool true) = _; rw [hgC, decide_eq_true hC], bnext hb b3⟩
  · rw [show checkE C = 15 from if_neg hC]
    go_wp2_with fail
    go_ret
    exact ⟨by show Ending.returned (.bool false) = _; rw [hgC, decide_eq_false hC], bnext hb b3⟩

set_option maxRecDepth 100000 in
set_option maxHeartbeats 8000000 in
theorem turned_4 (HD : CDef) (HC : CChk) (w : World) :
    Calls Try.prog 10 #[.func (.func 15) #[] #[]] w fun e w' => e = .returned (.bool (decide (CfOk { defC 5 with po := 0 }))) ∧ Below w.heap.size w w' := by
  have hch := fun wx => HC (({ defC 5 with po := 0 } : Cf)) wx (by unfold CfIn defC; decide)
  have hb0 := Below.refl w.heap.size w
  go_enter Try.func10, Try.ntmps10
  go_wp2_with fail
  refine (HD 5 _ (by decide)).mono ?_
  rintro e w1 ⟨rfl, hb⟩
  have hgle := hb.size
  have N := Box.new w1 (cfL zeroC) 29
  have nb := bnew w1 (Obj.cells (cfL zeroC).toArray 29)
  go_upto_region 2 with (guard_target =~ wpList _ _ _ (⟨none, _, _, _, _, _⟩ :: _) _ _; refine wpList_store_conf (op := ⟨none, .store _ _ _, _, _, _, _⟩) (by rfl) _ _ (by rfl) w1.heap.size (defC 5) (zeroC) _ (by rfl) (by rfl) N ?_)
  have B1 := N.rowC (cfL (defC 5))
  replace nb := below_setRow nb (Nat.le_refl _) (cfL (defC 5)).toArray
  change Code.wp _ _ _ _ ((w1.alloc (Obj.cells (cfL zeroC).toArray 29)).setRow w1.heap.size (cfL (defC 5)).toArray)
  generalize ((w1.alloc (Obj.cells (cfL zeroC).toArray 29)).setRow w1.heap.size (cfL (defC 5)).toArray) = W1 at *
  generalize hgB1 : w1.heap.size = gB1 at *
  have nc : Below w1.heap.size w1 W1 := by rw [hgB1]; exact nb
  replace hb := bnext hb nc
  clear N nb nc
  go_wp2_with fail
  refine (turns_4 gB1 _ W1 B1).mono ?_
  rintro e w2 ⟨rfl, B2, b2⟩
  replace hb := hb.trans (b2.mono hgle)
  clear B1
  replace B2 : Box w2 gB1 (cfL (({ defC 5 with po := 0 } : Cf))) 29 := B2
  generalize hgC : ({ defC 5 with po := 0 } : Cf) = C at *
  go_wp2_with (guard_target =~ wpList _ _ _ (⟨some 7, _, _, _, _, _⟩ :: _) _ _; refine wpList_load_conf (op := ⟨some 7, .load _ _, _, _, _, _⟩) (by rfl) _ (by rfl) gB1 (by rfl) (C) _ B2 ?_)
  refine (hch _).mono ?_
  rintro e w3 ⟨rfl, b3⟩
  by_cases hC : CfOk C
  · rw [show checkE C = 0 from if_pos hC]
    go_wp2_with fail
    go_ret
    exact ⟨by show Ending.returned (.bool true) = _; rw [hgC, decide_eq_true hC], bnext hb b3⟩
  · rw [show checkE C = 15 from if_neg hC]
    go_wp2_with fail
    go_ret
    exact ⟨by show Ending.returned (.bool false) = _; rw [hgC, decide_eq_false hC], bnext hb b3⟩

set_option maxRecDepth 100000 in
set_option maxHeartbeats 8000000 in
theorem turned_5 (HD : CDef) (HC : CChk) (w : World) :
    Calls Try.prog 10 #[.func (.func 16) #[] #[]] w fun e w' => e = .returned (.bool (decide (CfOk { defC 5 with dm := 127 }))) ∧ Below w.heap.size w w' := by
  have hch := fun wx => HC (({ defC 5 with dm := 127 } : Cf)) wx (by unfold CfIn defC; decide)
  have hb0 := Below.refl w.heap.size w
  go_enter Try.func10, Try.ntmps10
  go_wp2_with fail
  refine (HD 5 _ (by decide)).mono ?_
  rintro e w1 ⟨rfl, hb⟩
  have hgle := hb.size
  have N := Box.new w1 (cfL zeroC) 29
  have nb := bnew w1 (Obj.cells (cfL zeroC).toArray 29)
  go_upto_region 2 with (guard_target =~ wpList _ _ _ (⟨none, _, _, _, _, _⟩ :: _) _ _; refine wpList_store_conf (op := ⟨none, .store _ _ _, _, _, _, _⟩) (by rfl) _ _ (by rfl) w1.heap.size (defC 5) (zeroC) _ (by rfl) (by rfl) N ?_)
  have B1 := N.rowC (cfL (defC 5))
  replace nb := below_setRow nb (Nat.le_refl _) (cfL (defC 5)).toArray
  change Code.wp _ _ _ _ ((w1.alloc (Obj.cells (cfL zeroC).toArray 29)).setRow w1.heap.size (cfL (defC 5)).toArray)
  generalize ((w1.alloc (Obj.cells (cfL zeroC).toArray 29)).setRow w1.heap.size (cfL (defC 5)).toArray) = W1 at *
  generalize hgB1 : w1.heap.size = gB1 at *
  have nc : Below w1.heap.size w1 W1 := by rw [hgB1]; exact nb
  replace hb := bnext hb nc
  clear N nb nc
  go_wp2_with fail
  refine (turns_5 gB1 _ W1 B1).mono ?_
  rintro e w2 ⟨rfl, B2, b2⟩
  replace hb := hb.trans (b2.mono hgle)
  clear B1
  replace B2 : Box w2 gB1 (cfL (({ defC 5 with dm := 127 } : Cf))) 29 := B2
  generalize hgC : ({ defC 5 with dm := 127 } : Cf) = C at *
  go_wp2_with (guard_target =~ wpList _ _ _ (⟨some 7, _, _, _, _, _⟩ :: _) _ _; refine wpList_load_conf (op := ⟨some 7, .load _ _, _, _, _, _⟩) (by rfl) _ (by rfl) gB1 (by rfl) (C) _ B2 ?_)
  refine (hch _).mono ?_
  rintro e w3 ⟨rfl, b3⟩
  by_cases hC : CfOk C
  · rw [show checkE C = 0 from if_pos hC]
    go_wp2_with fail
    go_ret
    exact ⟨by show Ending.returned (.bool true) = _; rw [hgC, decide_eq_true hC], bnext hb b3⟩
  · rw [show checkE C = 15 from if_neg hC]
    go_wp2_with fail
    go_ret
    exact ⟨by show Ending.returned (.bool false) = _; rw [hgC, decide_eq_false hC], bnext hb b3⟩

set_option maxRecDepth 100000 in
set_option maxHeartbeats 8000000 in
theorem turned_6 (HD : CDef) (HC : CChk) (w : World) :
    Calls Try.prog 10 #[.func (.func 17) #[] #[]] w fun e w' => e = .returned (.bool (decide (CfOk { defC 5 with dm := 128 }))) ∧ Below w.heap.size w w' := by
  have hch := fun wx => HC (({ defC 5 with dm := 128 } : Cf)) wx (by unfold CfIn defC; decide)
  have hb0 := Below.refl w.heap.size w
  go_enter Try.func10, Try.ntmps10
  go_wp2_with fail
  refine (HD 5 _ (by decide)).mono ?_
  rintro e w1 ⟨rfl, hb⟩
  have hgle := hb.size
  have N := Box.new w1 (cfL zeroC) 29
  have nb := bnew w1 (Obj.cells (cfL zeroC).toArray 29)
  go_upto_region 2 with (guard_target =~ wpList _ _ _ (⟨none, _, _, _, _, _⟩ :: _) _ _; refine wpList_store_conf (op := ⟨none, .store _ _ _, _, _, _, _⟩) (by rfl) _ _ (by rfl) w1.heap.size (defC 5) (zeroC) _ (by rfl) (by rfl) N ?_)
  have B1 := N.rowC (cfL (defC 5))
  replace nb := below_setRow nb (Nat.le_refl _) (cfL (defC 5)).toArray
  change Code.wp _ _ _ _ ((w1.alloc (Obj.cells (cfL zeroC).toArray 29)).setRow w1.heap.size (cfL (defC 5)).toArray)
  generalize ((w1.alloc (Obj.cells (cfL zeroC).toArray 29)).setRow w1.heap.size (cfL (defC 5)).toArray) = W1 at *
  generalize hgB1 : w1.heap.size = gB1 at *
  have nc : Below w1.heap.size w1 W1 := by rw [hgB1]; exact nb
  replace hb := bnext hb nc
  clear N nb nc
  go_wp2_with fail
  refine (turns_6 gB1 _ W1 B1).mono ?_
  rintro e w2 ⟨rfl, B2, b2⟩
  replace hb := hb.trans (b2.mono hgle)
  clear B1
  replace B2 : Box w2 gB1 (cfL (({ defC 5 with dm := 128 } : Cf))) 29 := B2
  generalize hgC : ({ defC 5 with dm := 128 } : Cf) = C at *
  go_wp2_with (guard_target =~ wpList _ _ _ (⟨some 7, _, _, _, _, _⟩ :: _) _ _; refine wpList_load_conf (op := ⟨some 7, .load _ _, _, _, _, _⟩) (by rfl) _ (by rfl) gB1 (by rfl) (C) _ B2 ?_)
  refine (hch _).mono ?_
  rintro e w3 ⟨rfl, b3⟩
  by_cases hC : CfOk C
  · rw [show checkE C = 0 from if_pos hC]
    go_wp2_with fail
    go_ret
    exact ⟨by show Ending.returned (.bool true) = _; rw [hgC, decide_eq_true hC], bnext hb b3⟩
  · rw [show checkE C = 15 from if_neg hC]
    go_wp2_with fail
    go_ret
    exact ⟨by show Ending.returned (.bool false) = _; rw [hgC, decide_eq_false hC], bnext hb b3⟩

set_option maxRecDepth 100000 in
set_option maxHeartbeats 8000000 in
theorem turned_7 (HD : CDef) (HC : CChk) (w : World) :
    Calls Try.prog 10 #[.func (.func 18) #[] #[]] w fun e w' => e = .returned (.bool (decide (CfOk { defC 5 with la := -3 }))) ∧ Below w.heap.size w w' := by
  have hch := fun wx => HC (({ defC 5 with la := -3 } : Cf)) wx (by unfold CfIn defC; decide)
  have hb0 := Below.refl w.heap.size w
  go_enter Try.func10, Try.ntmps10
  go_wp2_with fail
  refine (HD 5 _ (by decide)).mono ?_
  rintro e w1 ⟨rfl, hb⟩
  have hgle := hb.size
  have N := Box.new w1 (cfL zeroC) 29
  have nb := bnew w1 (Obj.cells (cfL zeroC).toArray 29)
  go_upto_region 2 with (guard_target =~ wpList _ _ _ (⟨none, _, _, _, _, _⟩ :: _) _ _; refine wpList_store_conf (op := ⟨none, .store _ _ _, _, _, _, _⟩) (by rfl) _ _ (by rfl) w1.heap.size (defC 5) (zeroC) _ (by rfl) (by rfl) N ?_)
  have B1 := N.rowC (cfL (defC 5))
  replace nb := below_setRow nb (Nat.le_refl _) (cfL (defC 5)).toArray
  change Code.wp _ _ _ _ ((w1.alloc (Obj.cells (cfL zeroC).toArray 29)).setRow w1.heap.size (cfL (defC 5)).toArray)
  generalize ((w1.alloc (Obj.cells (cfL zeroC).toArray 29)).setRow w1.heap.size (cfL (defC 5)).toArray) = W1 at *
  generalize hgB1 : w1.heap.size = gB1 at *
  have nc : Below w1.heap.size w1 W1 := by rw [hgB1]; exact nb
  replace hb := bnext hb nc
  clear N nb nc
  go_wp2_with fail
  refine (turns_7 gB1 _ W1 B1).mono ?_
  rintro e w2 ⟨rfl, B2, b2⟩
  replace hb := hb.trans (b2.mono hgle)
  clear B1
  replace B2 : Box w2 gB1 (cfL (({ defC 5 with la := -3 } : Cf))) 29 := B2
  generalize hgC : ({ defC 5 with la := -3 } : Cf) = C at *
  go_wp2_with (guard_target =~ wpList _ _ _ (⟨some 7, _, _, _, _, _⟩ :: _) _ _; refine wpList_load_conf (op := ⟨some 7, .load _ _, _, _, _, _⟩) (by rfl) _ (by rfl) gB1 (by rfl) (C) _ B2 ?_)
  refine (hch _).mono ?_
  rintro e w3 ⟨rfl, b3⟩
  by_cases hC : CfOk C
  · rw [show checkE C = 0 from if_pos hC]
    go_wp2_with fail
    go_ret
    exact ⟨by show Ending.returned (.bool true) = _; rw [hgC, decide_eq_true hC], bnext hb b3⟩
  · rw [show checkE C = 15 from if_neg hC]
    go_wp2_with fail
    go_ret
    exact ⟨by show Ending.returned (.bool false) = _; rw [hgC, decide_eq_false hC], bnext hb b3⟩

set_option maxRecDepth 100000 in
set_option maxHeartbeats 8000000 in
theorem turned_8 (HD : CDef) (HC : CChk) (w : World) :
    Calls Try.prog 10 #[.func (.func 19) #[] #[]] w fun e w' => e = .returned (.bool (decide (CfOk { defC 5 with la := -4 }))) ∧ Below w.heap.size w w' := by
  have hch := fun wx => HC (({ defC 5 with la := -4 } : Cf)) wx (by unfold CfIn defC; decide)
  have hb0 := Below.refl w.heap.size w
  go_enter Try.func10, Try.ntmps10
  go_wp2_with fail
  refine (HD 5 _ (by decide)).mono ?_
  rintro e w1 ⟨rfl, hb⟩
  have hgle := hb.size
  have N := Box.new w1 (cfL zeroC) 29
  have nb := bnew w1 (Obj.cells (cfL zeroC).toArray 29)
  go_upto_region 2 with (guard_target =~ wpList _ _ _ (⟨none, _, _, _, _, _⟩ :: _) _ _; refine wpList_store_conf (op := ⟨none, .store _ _ _, _, _, _, _⟩) (by rfl) _ _ (by rfl) w1.heap.size (defC 5) (zeroC) _ (by rfl) (by rfl) N ?_)
  have B1 := N.rowC (cfL (defC 5))
  replace nb := below_setRow nb (Nat.le_refl _) (cfL (defC 5)).toArray
  change Code.wp _ _ _ _ ((w1.alloc (Obj.cells (cfL zeroC).toArray 29)).setRow w1.heap.size (cfL (defC 5)).toArray)
  generalize ((w1.alloc (Obj.cells (cfL zeroC).toArray 29)).setRow w1.heap.size (cfL (defC 5)).toArray) = W1 at *
  generalize hgB1 : w1.heap.size = gB1 at *
  have nc : Below w1.heap.size w1 W1 := by rw [hgB1]; exact nb
  replace hb := bnext hb nc
  clear N nb nc
  go_wp2_with fail
  refine (turns_8 gB1 _ W1 B1).mono ?_
  rintro e w2 ⟨rfl, B2, b2⟩
  replace hb := hb.trans (b2.mono hgle)
  clear B1
  replace B2 : Box w2 gB1 (cfL (({ defC 5 with la := -4 } : Cf))) 29 := B2
  generalize hgC : ({ defC 5 with la := -4 } : Cf) = C at *
  go_wp2_with (guard_target =~ wpList _ _ _ (⟨some 7, _, _, _, _, _⟩ :: _) _ _; refine wpList_load_conf (op := ⟨some 7, .load _ _, _, _, _, _⟩) (by rfl) _ (by rfl) gB1 (by rfl) (C) _ B2 ?_)
  refine (hch _).mono ?_
  rintro e w3 ⟨rfl, b3⟩
  by_cases hC : CfOk C
  · rw [show checkE C = 0 from if_pos hC]
    go_wp2_with fail
    go_ret
    exact ⟨by show Ending.returned (.bool true) = _; rw [hgC, decide_eq_true hC], bnext hb b3⟩
  · rw [show checkE C = 15 from if_neg hC]
    go_wp2_with fail
    go_ret
    exact ⟨by show Ending.returned (.bool false) = _; rw [hgC, decide_eq_false hC], bnext hb b3⟩

set_option maxRecDepth 100000 in
set_option maxHeartbeats 8000000 in
theorem turned_9 (HD : CDef) (HC : CChk) (w : World) :
    Calls Try.prog 10 #[.func (.func 20) #[] #[]] w fun e w' => e = .returned (.bool (decide (CfOk { defC 5 with ls := 4 }))) ∧ Below w.heap.size w w' := by
  have hch := fun wx => HC (({ defC 5 with ls := 4 } : Cf)) wx (by unfold CfIn defC; decide)
  have hb0 := Below.refl w.heap.size w
  go_enter Try.func10, Try.ntmps10
  go_wp2_with fail
  refine (HD 5 _ (by decide)).mono ?_
  rintro e w1 ⟨rfl, hb⟩
  have hgle := hb.size
  have N := Box.new w1 (cfL zeroC) 29
  have nb := bnew w1 (Obj.cells (cfL zeroC).toArray 29)
  go_upto_region 2 with (guard_target =~ wpList _ _ _ (⟨none, _, _, _, _, _⟩ :: _) _ _; refine wpList_store_conf (op := ⟨none, .store _ _ _, _, _, _, _⟩) (by rfl) _ _ (by rfl) w1.heap.size (defC 5) (zeroC) _ (by rfl) (by rfl) N ?_)
  have B1 := N.rowC (cfL (defC 5))
  replace nb := below_setRow nb (Nat.le_refl _) (cfL (defC 5)).toArray
  change Code.wp _ _ _ _ ((w1.alloc (Obj.cells (cfL zeroC).toArray 29)).setRow w1.heap.size (cfL (defC 5)).toArray)
  generalize ((w1.alloc (Obj.cells (cfL zeroC).toArray 29)).setRow w1.heap.size (cfL (defC 5)).toArray) = W1 at *
  generalize hgB1 : w1.heap.size = gB1 at *
  have nc : Below w1.heap.size w1 W1 := by rw [hgB1]; exact nb
  replace hb := bnext hb nc
  clear N nb nc
  go_wp2_with fail
  refine (turns_9 gB1 _ W1 B1).mono ?_
  rintro e w2 ⟨rfl, B2, b2⟩
  replace hb := hb.trans (b2.mono hgle)
  clear B1
  replace B2 : Box w2 gB1 (cfL (({ defC 5 with ls := 4 } : Cf))) 29 := B2
  generalize hgC : ({ defC 5 with ls := 4 } : Cf) = C at *
  go_wp2_with (guard_target =~ wpList _ _ _ (⟨some 7, _, _, _, _, _⟩ :: _) _ _; refine wpList_load_conf (op := ⟨some 7, .load _ _, _, _, _, _⟩) (by rfl) _ (by rfl) gB1 (by rfl) (C) _ B2 ?_)
  refine (hch _).mono ?_
  rintro e w3 ⟨rfl, b3⟩
  by_cases hC : CfOk C
  · rw [show checkE C = 0 from if_pos hC]
    go_wp2_with fail
    go_ret
    exact ⟨by show Ending.returned (.bool true) = _; rw [hgC, decide_eq_true hC], bnext hb b3⟩
  · rw [show checkE C = 15 from if_neg hC]
    go_wp2_with fail
    go_ret
    exact ⟨by show Ending.returned (.bool false) = _; rw [hgC, decide_eq_false hC], bnext hb b3⟩

set_option maxRecDepth 100000 in
set_option maxHeartbeats 8000000 in
theorem turned_10 (HD : CDef) (HC : CChk) (w : World) :
    Calls Try.prog 10 #[.func (.func 21) #[] #[]] w fun e w' => e = .returned (.bool (decide (CfOk { defC 5 with ls := 5 }))) ∧ Below w.heap.size w w' := by
  have hch := fun wx => HC (({ defC 5 with ls := 5 } : Cf)) wx (by unfold CfIn defC; decide)
  have hb0 := Below.refl w.heap.size w
  go_enter Try.func10, Try.ntmps10
  go_wp2_with fail
  refine (HD 5 _ (by decide)).mono ?_
  rintro e w1 ⟨rfl, hb⟩
  have hgle := hb.size
  have N := Box.new w1 (cfL zeroC) 29
  have nb := bnew w1 (Obj.cells (cfL zeroC).toArray 29)
  go_upto_region 2 with (guard_target =~ wpList _ _ _ (⟨none, _, _, _, _, _⟩ :: _) _ _; refine wpList_store_conf (op := ⟨none, .store _ _ _, _, _, _, _⟩) (by rfl) _ _ (by rfl) w1.heap.size (defC 5) (zeroC) _ (by rfl) (by rfl) N ?_)
  have B1 := N.rowC (cfL (defC 5))
  replace nb := below_setRow nb (Nat.le_refl _) (cfL (defC 5)).toArray
  change Code.wp _ _ _ _ ((w1.alloc (Obj.cells (cfL zeroC).toArray 29)).setRow w1.heap.size (cfL (defC 5)).toArray)
  generalize ((w1.alloc (Obj.cells (cfL zeroC).toArray 29)).setRow w1.heap.size (cfL (defC 5)).toArray) = W1 at *
  generalize hgB1 : w1.heap.size = gB1 at *
  have nc : Below w1.heap.size w1 W1 := by rw [hgB1]; exact nb
  replace hb := bnext hb nc
  clear N nb nc
  go_wp2_with fail
  refine (turns_10 gB1 _ W1 B1).mono ?_
  rintro e w2 ⟨rfl, B2, b2⟩
  replace hb := hb.trans (b2.mono hgle)
  clear B1
  replace B2 : Box w2 gB1 (cfL (({ defC 5 with ls := 5 } : Cf))) 29 := B2
  generalize hgC : ({ defC 5 with ls := 5 } : Cf) = C at *
  go_wp2_with (guard_target =~ wpList _ _ _ (⟨some 7, _, _, _, _, _⟩ :: _) _ _; refine wpList_load_conf (op := ⟨some 7, .load _ _, _, _, _, _⟩) (by rfl) _ (by rfl) gB1 (by rfl) (C) _ B2 ?_)
  refine (hch _).mono ?_
  rintro e w3 ⟨rfl, b3⟩
  by_cases hC : CfOk C
  · rw [show checkE C = 0 from if_pos hC]
    go_wp2_with fail
    go_ret
    exact ⟨by show Ending.returned (.bool true) = _; rw [hgC, decide_eq_true hC], bnext hb b3⟩
  · rw [show checkE C = 15 from if_neg hC]
    go_wp2_with fail
    go_ret
    exact ⟨by show Ending.returned (.bool false) = _; rw [hgC, decide_eq_false hC], bnext hb b3⟩

set_option maxRecDepth 100000 in
set_option maxHeartbeats 8000000 in
theorem turned_11 (HD : CDef) (HC : CChk) (w : World) :
    Calls Try.prog 10 #[.func (.func 22) #[] #[]] w fun e w' => e = .returned (.bool (decide (CfOk { defC 5 with tm := 2 }))) ∧ Below w.heap.size w w' := by
  have hch := fun wx => HC (({ defC 5 with tm := 2 } : Cf)) wx (by unfold CfIn defC; decide)
  have hb0 := Below.refl w.heap.size w
  go_enter Try.func10, Try.ntmps10
  go_wp2_with fail
  refine (HD 5 _ (by decide)).mono ?_
  rintro e w1 ⟨rfl, hb⟩
  have hgle := hb.size
  have N := Box.new w1 (cfL zeroC) 29
  have nb := bnew w1 (Obj.cells (cfL zeroC).toArray 29)
  go_upto_region 2 with (guard_target =~ wpList _ _ _ (⟨none, _, _, _, _, _⟩ :: _) _ _; refine wpList_store_conf (op := ⟨none, .store _ _ _, _, _, _, _⟩) (by rfl) _ _ (by rfl) w1.heap.size (defC 5) (zeroC) _ (by rfl) (by rfl) N ?_)
  have B1 := N.rowC (cfL (defC 5))
  replace nb := below_setRow nb (Nat.le_refl _) (cfL (defC 5)).toArray
  change Code.wp _ _ _ _ ((w1.alloc (Obj.cells (cfL zeroC).toArray 29)).setRow w1.heap.size (cfL (defC 5)).toArray)
  generalize ((w1.alloc (Obj.cells (cfL zeroC).toArray 29)).setRow w1.heap.size (cfL (defC 5)).toArray) = W1 at *
  generalize hgB1 : w1.heap.size = gB1 at *
  have nc : Below w1.heap.size w1 W1 := by rw [hgB1]; exact nb
  replace hb := bnext hb nc
  clear N nb nc
  go_wp2_with fail
  refine (turns_11 gB1 _ W1 B1).mono ?_
  rintro e w2 ⟨rfl, B2, b2⟩
  replace hb := hb.trans (b2.mono hgle)
  clear B1
  replace B2 : Box w2 gB1 (cfL (({ defC 5 with tm := 2 } : Cf))) 29 := B2
  generalize hgC : ({ defC 5 with tm := 2 } : Cf) = C at *
  go_wp2_with (guard_target =~ wpList _ _ _ (⟨some 7, _, _, _, _, _⟩ :: _) _ _; refine wpList_load_conf (op := ⟨some 7, .load _ _, _, _, _, _⟩) (by rfl) _ (by rfl) gB1 (by rfl) (C) _ B2 ?_)
  refine (hch _).mono ?_
  rintro e w3 ⟨rfl, b3⟩
  by_cases hC : CfOk C
  · rw [show checkE C = 0 from if_pos hC]
    go_wp2_with fail
    go_ret
    exact ⟨by show Ending.returned (.bool true) = _; rw [hgC, decide_eq_true hC], bnext hb b3⟩
  · rw [show checkE C = 15 from if_neg hC]
    go_wp2_with fail
    go_ret
    exact ⟨by show Ending.returned (.bool false) = _; rw [hgC, decide_eq_false hC], bnext hb b3⟩

set_option maxRecDepth 100000 in
set_option maxHeartbeats 8000000 in
theorem turned_12 (HD : CDef) (HC : CChk) (w : World) :
    Calls Try.prog 10 #[.func (.func 23) #[] #[]] w fun e w' => e = .returned (.bool (decide (CfOk { defC 5 with tm := 1 }))) ∧ Below w.heap.size w w' := by
  have hch := fun wx => HC (({ defC 5 with tm := 1 } : Cf)) wx (by unfold CfIn defC; decide)
  have hb0 := Below.refl w.heap.size w
  go_enter Try.func10, Try.ntmps10
  go_wp2_with fail
  refine (HD 5 _ (by decide)).mono ?_
  rintro e w1 ⟨rfl, hb⟩
  have hgle := hb.size
  have N := Box.new w1 (cfL zeroC) 29
  have nb := bnew w1 (Obj.cells (cfL zeroC).toArray 29)
  go_upto_region 2 with (guard_target =~ wpList _ _ _ (⟨none, _, _, _, _, _⟩ :: _) _ _; refine wpList_store_conf (op := ⟨none, .store _ _ _, _, _, _, _⟩) (by rfl) _ _ (by rfl) w1.heap.size (defC 5) (zeroC) _ (by rfl) (by rfl) N ?_)
  have B1 := N.rowC (cfL (defC 5))
  replace nb := below_setRow nb (Nat.le_refl _) (cfL (defC 5)).toArray
  change Code.wp _ _ _ _ ((w1.alloc (Obj.cells (cfL zeroC).toArray 29)).setRow w1.heap.size (cfL (defC 5)).toArray)
  generalize ((w1.alloc (Obj.cells (cfL zeroC).toArray 29)).setRow w1.heap.size (cfL (defC 5)).toArray) = W1 at *
  generalize hgB1 : w1.heap.size = gB1 at *
  have nc : Below w1.heap.size w1 W1 := by rw [hgB1]; exact nb
  replace hb := bnext hb nc
  clear N nb nc
  go_wp2_with fail
  refine (turns_12 gB1 _ W1 B1).mono ?_
  rintro e w2 ⟨rfl, B2, b2⟩
  replace hb := hb.trans (b2.mono hgle)
  clear B1
  replace B2 : Box w2 gB1 (cfL (({ defC 5 with tm := 1 } : Cf))) 29 := B2
  generalize hgC : ({ defC 5 with tm := 1 } : Cf) = C at *
  go_wp2_with (guard_target =~ wpList _ _ _ (⟨some 7, _, _, _, _, _⟩ :: _) _ _; refine wpList_load_conf (op := ⟨some 7, .load _ _, _, _, _, _⟩) (by rfl) _ (by rfl) gB1 (by rfl) (C) _ B2 ?_)
  refine (hch _).mono ?_
  rintro e w3 ⟨rfl, b3⟩
  by_cases hC : CfOk C
  · rw [show checkE C = 0 from if_pos hC]
    go_wp2_with fail
    go_ret
    exact ⟨by show Ending.returned (.bool true) = _; rw [hgC, decide_eq_true hC], bnext hb b3⟩
  · rw [show checkE C = 15 from if_neg hC]
    go_wp2_with fail
    go_ret
    exact ⟨by show Ending.returned (.bool false) = _; rw [hgC, decide_eq_false hC], bnext hb b3⟩

set_option maxRecDepth 100000 in
set_option maxHeartbeats 8000000 in
theorem turned_13 (HD : CDef) (HC : CChk) (w : World) :
    Calls Try.prog 10 #[.func (.func 24) #[] #[]] w fun e w' => e = .returned (.bool (decide (CfOk { defC 5 with tm := 11 }))) ∧ Below w.heap.size w w' := by
  have hch := fun wx => HC (({ defC 5 with tm := 11 } : Cf)) wx (by unfold CfIn defC; decide)
  have hb0 := Below.refl w.heap.size w
  go_enter Try.func10, Try.ntmps10
  go_wp2_with fail
  refine (HD 5 _ (by decide)).mono ?_
  rintro e w1 ⟨rfl, hb⟩
  have hgle := hb.size
  have N := Box.new w1 (cfL zeroC) 29
  have nb := bnew w1 (Obj.cells (cfL zeroC).toArray 29)
  go_upto_region 2 with (guard_target =~ wpList _ _ _ (⟨none, _, _, _, _, _⟩ :: _) _ _; refine wpList_store_conf (op := ⟨none, .store _ _ _, _, _, _, _⟩) (by rfl) _ _ (by rfl) w1.heap.size (defC 5) (zeroC) _ (by rfl) (by rfl) N ?_)
  have B1 := N.rowC (cfL (defC 5))
  replace nb := below_setRow nb (Nat.le_refl _) (cfL (defC 5)).toArray
  change Code.wp _ _ _ _ ((w1.alloc (Obj.cells (cfL zeroC).toArray 29)).setRow w1.heap.size (cfL (defC 5)).toArray)
  generalize ((w1.alloc (Obj.cells (cfL zeroC).toArray 29)).setRow w1.heap.size (cfL (defC 5)).toArray) = W1 at *
  generalize hgB1 : w1.heap.size = gB1 at *
  have nc : Below w1.heap.size w1 W1 := by rw [hgB1]; exact nb
  replace hb := bnext hb nc
  clear N nb nc
  go_wp2_with fail
  refine (turns_13 gB1 _ W1 B1).mono ?_
  rintro e w2 ⟨rfl, B2, b2⟩
  replace hb := hb.trans (b2.mono hgle)
  clear B1
  replace B2 : Box w2 gB1 (cfL (({ defC 5 with tm := 11 } : Cf))) 29 := B2
  generalize hgC : ({ defC 5 with tm := 11 } : Cf) = C at *
  go_wp2_with (guard_target =~ wpList _ _ _ (⟨some 7, _, _, _, _, _⟩ :: _) _ _; refine wpList_load_conf (op := ⟨some 7, .load _ _, _, _, _, _⟩) (by rfl) _ (by rfl) gB1 (by rfl) (C) _ B2 ?_)
  refine (hch _).mono ?_
  rintro e w3 ⟨rfl, b3⟩
  by_cases hC : CfOk C
  · rw [show checkE C = 0 from if_pos hC]
    go_wp2_with fail
    go_ret
    exact ⟨by show Ending.returned (.bool true) = _; rw [hgC, decide_eq_true hC], bnext hb b3⟩
  · rw [show checkE C = 15 from if_neg hC]
    go_wp2_with fail
    go_ret
    exact ⟨by show Ending.returned (.bool false) = _; rw [hgC, decide_eq_false hC], bnext hb b3⟩

set_option maxRecDepth 100000 in
set_option maxHeartbeats 8000000 in
theorem turned_14 (HD : CDef) (HC : CChk) (w : World) :
    Calls Try.prog 10 #[.func (.func 25) #[] #[]] w fun e w' => e = .returned (.bool (decide (CfOk { defC 5 with md := 15 }))) ∧ Below w.heap.size w w' := by
  have hch := fun wx => HC (({ defC 5 with md := 15 } : Cf)) wx (by unfold CfIn defC; decide)
  have hb0 := Below.refl w.heap.size w
  go_enter Try.func10, Try.ntmps10
  go_wp2_with fail
  refine (HD 5 _ (by decide)).mono ?_
  rintro e w1 ⟨rfl, hb⟩
  have hgle := hb.size
  have N := Box.new w1 (cfL zeroC) 29
  have nb := bnew w1 (Obj.cells (cfL zeroC).toArray 29)
  go_upto_region 2 with (guard_target =~ wpList _ _ _ (⟨none, _, _, _, _, _⟩ :: _) _ _; refine wpList_store_conf (op := ⟨none, .store _ _ _, _, _, _, _⟩) (by rfl) _ _ (by rfl) w1.heap.size (defC 5) (zeroC) _ (by rfl) (by rfl) N ?_)
  have B1 := N.rowC (cfL (defC 5))
  replace nb := below_setRow nb (Nat.le_refl _) (cfL (defC 5)).toArray
  change Code.wp _ _ _ _ ((w1.alloc (Obj.cells (cfL zeroC).toArray 29)).setRow w1.heap.size (cfL (defC 5)).toArray)
  generalize ((w1.alloc (Obj.cells (cfL zeroC).toArray 29)).setRow w1.heap.size (cfL (defC 5)).toArray) = W1 at *
  generalize hgB1 : w1.heap.size = gB1 at *
  have nc : Below w1.heap.size w1 W1 := by rw [hgB1]; exact nb
  replace hb := bnext hb nc
  clear N nb nc
  go_wp2_with fail
  refine (turns_14 gB1 _ W1 B1).mono ?_
  rintro e w2 ⟨rfl, B2, b2⟩
  replace hb := hb.trans (b2.mono hgle)
  clear B1
  replace B2 : Box w2 gB1 (cfL (({ defC 5 with md := 15 } : Cf))) 29 := B2
  generalize hgC : ({ defC 5 with md := 15 } : Cf) = C at *
  go_wp2_with (guard_target =~ wpList _ _ _ (⟨some 7, _, _, _, _, _⟩ :: _) _ _; refine wpList_load_conf (op := ⟨some 7, .load _ _, _, _, _, _⟩) (by rfl) _ (by rfl) gB1 (by rfl) (C) _ B2 ?_)
  refine (hch _).mono ?_
  rintro e w3 ⟨rfl, b3⟩
  by_cases hC : CfOk C
  · rw [show checkE C = 0 from if_pos hC]
    go_wp2_with fail
    go_ret
    exact ⟨by show Ending.returned (.bool true) = _; rw [hgC, decide_eq_true hC], bnext hb b3⟩
  · rw [show checkE C = 15 from if_neg hC]
    go_wp2_with fail
    go_ret
    exact ⟨by show Ending.returned (.bool false) = _; rw [hgC, decide_eq_false hC], bnext hb b3⟩

set_option maxRecDepth 100000 in
set_option maxHeartbeats 8000000 in
theorem turned_15 (HD : CDef) (HC : CChk) (w : World) :
    Calls Try.prog 10 #[.func (.func 26) #[] #[]] w fun e w' => e = .returned (.bool (decide (CfOk { defC 5 with md := 16 }))) ∧ Below w.heap.size w w' := by
  have hch := fun wx => HC (({ defC 5 with md := 16 } : Cf)) wx (by unfold CfIn defC; decide)
  have hb0 := Below.refl w.heap.size w
  go_enter Try.func10, Try.ntmps10
  go_wp2_with fail
  refine (HD 5 _ (by decide)).mono ?_
  rintro e w1 ⟨rfl, hb⟩
  have hgle := hb.size
  have N := Box.new w1 (cfL zeroC) 29
  have nb := bnew w1 (Obj.cells (cfL zeroC).toArray 29)
  go_upto_region 2 with (guard_target =~ wpList _ _ _ (⟨none, _, _, _, _, _⟩ :: _) _ _; refine wpList_store_conf (op := ⟨none, .store _ _ _, _, _, _, _⟩) (by rfl) _ _ (by rfl) w1.heap.size (defC 5) (zeroC) _ (by rfl) (by rfl) N ?_)
  have B1 := N.rowC (cfL (defC 5))
  replace nb := below_setRow nb (Nat.le_refl _) (cfL (defC 5)).toArray
  change Code.wp _ _ _ _ ((w1.alloc (Obj.cells (cfL zeroC).toArray 29)).setRow w1.heap.size (cfL (defC 5)).toArray)
  generalize ((w1.alloc (Obj.cells (cfL zeroC).toArray 29)).setRow w1.heap.size (cfL (defC 5)).toArray) = W1 at *
  generalize hgB1 : w1.heap.size = gB1 at *
  have nc : Below w1.heap.size w1 W1 := by rw [hgB1]; exact nb
  replace hb := bnext hb nc
  clear N nb nc
  go_wp2_with fail
  refine (turns_15 gB1 _ W1 B1).mono ?_
  rintro e w2 ⟨rfl, B2, b2⟩
  replace hb := hb.trans (b2.mono hgle)
  clear B1
  replace B2 : Box w2 gB1 (cfL (({ defC 5 with md := 16 } : Cf))) 29 := B2
  generalize hgC : ({ defC 5 with md := 16 } : Cf) = C at *
  go_wp2_with (guard_target =~ wpList _ _ _ (⟨some 7, _, _, _, _, _⟩ :: _) _ _; refine wpList_load_conf (op := ⟨some 7, .load _ _, _, _, _, _⟩) (by rfl) _ (by rfl) gB1 (by rfl) (C) _ B2 ?_)
  refine (hch _).mono ?_
  rintro e w3 ⟨rfl, b3⟩
  by_cases hC : CfOk C
  · rw [show checkE C = 0 from if_pos hC]
    go_wp2_with fail
    go_ret
    exact ⟨by show Ending.returned (.bool true) = _; rw [hgC, decide_eq_true hC], bnext hb b3⟩
  · rw [show checkE C = 15 from if_neg hC]
    go_wp2_with fail
    go_ret
    exact ⟨by show Ending.returned (.bool false) = _; rw [hgC, decide_eq_false hC], bnext hb b3⟩

set_option maxRecDepth 100000 in
set_option maxHeartbeats 8000000 in
theorem turned_16 (HD : CDef) (HC : CChk) (w : World) :
    Calls Try.prog 10 #[.func (.func 27) #[] #[]] w fun e w' => e = .returned (.bool (decide (CfOk { defC 5 with kp := 2000 }))) ∧ Below w.heap.size w w' := by
  have hch := fun wx => HC (({ defC 5 with kp := 2000 } : Cf)) wx (by unfold CfIn defC; decide)
  have hb0 := Below.refl w.heap.size w
  go_enter Try.func10, Try.ntmps10
  go_wp2_with fail
  refine (HD 5 _ (by decide)).mono ?_
  rintro e w1 ⟨rfl, hb⟩
  have hgle := hb.size
  have N := Box.new w1 (cfL zeroC) 29
  have nb := bnew w1 (Obj.cells (cfL zeroC).toArray 29)
  go_upto_region 2 with (guard_target =~ wpList _ _ _ (⟨none, _, _, _, _, _⟩ :: _) _ _; refine wpList_store_conf (op := ⟨none, .store _ _ _, _, _, _, _⟩) (by rfl) _ _ (by rfl) w1.heap.size (defC 5) (zeroC) _ (by rfl) (by rfl) N ?_)
  have B1 := N.rowC (cfL (defC 5))
  replace nb := below_setRow nb (Nat.le_refl _) (cfL (defC 5)).toArray
  change Code.wp _ _ _ _ ((w1.alloc (Obj.cells (cfL zeroC).toArray 29)).setRow w1.heap.size (cfL (defC 5)).toArray)
  generalize ((w1.alloc (Obj.cells (cfL zeroC).toArray 29)).setRow w1.heap.size (cfL (defC 5)).toArray) = W1 at *
  generalize hgB1 : w1.heap.size = gB1 at *
  have nc : Below w1.heap.size w1 W1 := by rw [hgB1]; exact nb
  replace hb := bnext hb nc
  clear N nb nc
  go_wp2_with fail
  refine (turns_16 gB1 _ W1 B1).mono ?_
  rintro e w2 ⟨rfl, B2, b2⟩
  replace hb := hb.trans (b2.mono hgle)
  clear B1
  replace B2 : Box w2 gB1 (cfL (({ defC 5 with kp := 2000 } : Cf))) 29 := B2
  generalize hgC : ({ defC 5 with kp := 2000 } : Cf) = C at *
  go_wp2_with (guard_target =~ wpList _ _ _ (⟨some 7, _, _, _, _, _⟩ :: _) _ _; refine wpList_load_conf (op := ⟨some 7, .load _ _, _, _, _, _⟩) (by rfl) _ (by rfl) gB1 (by rfl) (C) _ B2 ?_)
  refine (hch _).mono ?_
  rintro e w3 ⟨rfl, b3⟩
  by_cases hC : CfOk C
  · rw [show checkE C = 0 from if_pos hC]
    go_wp2_with fail
    go_ret
    exact ⟨by show Ending.returned (.bool true) = _; rw [hgC, decide_eq_true hC], bnext hb b3⟩
  · rw [show checkE C = 15 from if_neg hC]
    go_wp2_with fail
    go_ret
    exact ⟨by show Ending.returned (.bool false) = _; rw [hgC, decide_eq_false hC], bnext hb b3⟩

set_option maxRecDepth 100000 in
set_option maxHeartbeats 8000000 in
theorem turned_17 (HD : CDef) (HC : CChk) (w : World) :
    Calls Try.prog 10 #[.func (.func 28) #[] #[]] w fun e w' => e = .returned (.bool (decide (CfOk { defC 5 with ki := 2001 }))) ∧ Below w.heap.size w w' := by
  have hch := fun wx => HC (({ defC 5 with ki := 2001 } : Cf)) wx (by unfold CfIn defC; decide)
  have hb0 := Below.refl w.heap.size w
  go_enter Try.func10, Try.ntmps10
  go_wp2_with fail
  refine (HD 5 _ (by decide)).mono ?_
  rintro e w1 ⟨rfl, hb⟩
  have hgle := hb.size
  have N := Box.new w1 (cfL zeroC) 29
  have nb := bnew w1 (Obj.cells (cfL zeroC).toArray 29)
  go_upto_region 2 with (guard_target =~ wpList _ _ _ (⟨none, _, _, _, _, _⟩ :: _) _ _; refine wpList_store_conf (op := ⟨none, .store _ _ _, _, _, _, _⟩) (by rfl) _ _ (by rfl) w1.heap.size (defC 5) (zeroC) _ (by rfl) (by rfl) N ?_)
  have B1 := N.rowC (cfL (defC 5))
  replace nb := below_setRow nb (Nat.le_refl _) (cfL (defC 5)).toArray
  change Code.wp _ _ _ _ ((w1.alloc (Obj.cells (cfL zeroC).toArray 29)).setRow w1.heap.size (cfL (defC 5)).toArray)
  generalize ((w1.alloc (Obj.cells (cfL zeroC).toArray 29)).setRow w1.heap.size (cfL (defC 5)).toArray) = W1 at *
  generalize hgB1 : w1.heap.size = gB1 at *
  have nc : Below w1.heap.size w1 W1 := by rw [hgB1]; exact nb
  replace hb := bnext hb nc
  clear N nb nc
  go_wp2_with fail
  refine (turns_17 gB1 _ W1 B1).mono ?_
  rintro e w2 ⟨rfl, B2, b2⟩
  replace hb := hb.trans (b2.mono hgle)
  clear B1
  replace B2 : Box w2 gB1 (cfL (({ defC 5 with ki := 2001 } : Cf))) 29 := B2
  generalize hgC : ({ defC 5 with ki := 2001 } : Cf) = C at *
  go_wp2_with (guard_target =~ wpList _ _ _ (⟨some 7, _, _, _, _, _⟩ :: _) _ _; refine wpList_load_conf (op := ⟨some 7, .load _ _, _, _, _, _⟩) (by rfl) _ (by rfl) gB1 (by rfl) (C) _ B2 ?_)
  refine (hch _).mono ?_
  rintro e w3 ⟨rfl, b3⟩
  by_cases hC : CfOk C
  · rw [show checkE C = 0 from if_pos hC]
    go_wp2_with fail
    go_ret
    exact ⟨by show Ending.returned (.bool true) = _; rw [hgC, decide_eq_true hC], bnext hb b3⟩
  · rw [show checkE C = 15 from if_neg hC]
    go_wp2_with fail
    go_ret
    exact ⟨by show Ending.returned (.bool false) = _; rw [hgC, decide_eq_false hC], bnext hb b3⟩

set_option maxRecDepth 100000 in
set_option maxHeartbeats 8000000 in
theorem turned_18 (HD : CDef) (HC : CChk) (w : World) :
    Calls Try.prog 10 #[.func (.func 29) #[] #[]] w fun e w' => e = .returned (.bool (decide (CfOk { defC 5 with st := 1000000000 }))) ∧ Below w.heap.size w w' := by
  have hch := fun wx => HC (({ defC 5 with st := 1000000000 } : Cf)) wx (by unfold CfIn defC; decide)
  have hb0 := Below.refl w.heap.size w
  go_enter Try.func10, Try.ntmps10
  go_wp2_with fail
  refine (HD 5 _ (by decide)).mono ?_
  rintro e w1 ⟨rfl, hb⟩
  have hgle := hb.size
  have N := Box.new w1 (cfL zeroC) 29
  have nb := bnew w1 (Obj.cells (cfL zeroC).toArray 29)
  go_upto_region 2 with (guard_target =~ wpList _ _ _ (⟨none, _, _, _, _, _⟩ :: _) _ _; refine wpList_store_conf (op := ⟨none, .store _ _ _, _, _, _, _⟩) (by rfl) _ _ (by rfl) w1.heap.size (defC 5) (zeroC) _ (by rfl) (by rfl) N ?_)
  have B1 := N.rowC (cfL (defC 5))
  replace nb := below_setRow nb (Nat.le_refl _) (cfL (defC 5)).toArray
  change Code.wp _ _ _ _ ((w1.alloc (Obj.cells (cfL zeroC).toArray 29)).setRow w1.heap.size (cfL (defC 5)).toArray)
  generalize ((w1.alloc (Obj.cells (cfL zeroC).toArray 29)).setRow w1.heap.size (cfL (defC 5)).toArray) = W1 at *
  generalize hgB1 : w1.heap.size = gB1 at *
  have nc : Below w1.heap.size w1 W1 := by rw [hgB1]; exact nb
  replace hb := bnext hb nc
  clear N nb nc
  go_wp2_with fail
  refine (turns_18 gB1 _ W1 B1).mono ?_
  rintro e w2 ⟨rfl, B2, b2⟩
  replace hb := hb.trans (b2.mono hgle)
  clear B1
  replace B2 : Box w2 gB1 (cfL (({ defC 5 with st := 1000000000 } : Cf))) 29 := B2
  generalize hgC : ({ defC 5 with st := 1000000000 } : Cf) = C at *
  go_wp2_with (guard_target =~ wpList _ _ _ (⟨some 7, _, _, _, _, _⟩ :: _) _ _; refine wpList_load_conf (op := ⟨some 7, .load _ _, _, _, _, _⟩) (by rfl) _ (by rfl) gB1 (by rfl) (C) _ B2 ?_)
  refine (hch _).mono ?_
  rintro e w3 ⟨rfl, b3⟩
  by_cases hC : CfOk C
  · rw [show checkE C = 0 from if_pos hC]
    go_wp2_with fail
    go_ret
    exact ⟨by show Ending.returned (.bool true) = _; rw [hgC, decide_eq_true hC], bnext hb b3⟩
  · rw [show checkE C = 15 from if_neg hC]
    go_wp2_with fail
    go_ret
    exact ⟨by show Ending.returned (.bool false) = _; rw [hgC, decide_eq_false hC], bnext hb b3⟩

set_option maxRecDepth 100000 in
set_option maxHeartbeats 8000000 in
theorem turned_19 (HD : CDef) (HC : CChk) (w : World) :
    Calls Try.prog 10 #[.func (.func 30) #[] #[]] w fun e w' => e = .returned (.bool (decide (CfOk { defC 5 with st := 1000000001 }))) ∧ Below w.heap.size w w' := by
  have hch := fun wx => HC (({ defC 5 with st := 1000000001 } : Cf)) wx (by unfold CfIn defC; decide)
  have hb0 := Below.refl w.heap.size w
  go_enter Try.func10, Try.ntmps10
  go_wp2_with fail
  refine (HD 5 _ (by decide)).mono ?_
  rintro e w1 ⟨rfl, hb⟩
  have hgle := hb.size
  have N := Box.new w1 (cfL zeroC) 29
  have nb := bnew w1 (Obj.cells (cfL zeroC).toArray 29)
  go_upto_region 2 with (guard_target =~ wpList _ _ _ (⟨none, _, _, _, _, _⟩ :: _) _ _; refine wpList_store_conf (op := ⟨none, .store _ _ _, _, _, _, _⟩) (by rfl) _ _ (by rfl) w1.heap.size (defC 5) (zeroC) _ (by rfl) (by rfl) N ?_)
  have B1 := N.rowC (cfL (defC 5))
  replace nb := below_setRow nb (Nat.le_refl _) (cfL (defC 5)).toArray
  change Code.wp _ _ _ _ ((w1.alloc (Obj.cells (cfL zeroC).toArray 29)).setRow w1.heap.size (cfL (defC 5)).toArray)
  generalize ((w1.alloc (Obj.cells (cfL zeroC).toArray 29)).setRow w1.heap.size (cfL (defC 5)).toArray) = W1 at *
  generalize hgB1 : w1.heap.size = gB1 at *
  have nc : Below w1.heap.size w1 W1 := by rw [hgB1]; exact nb
  replace hb := bnext hb nc
  clear N nb nc
  go_wp2_with fail
  refine (turns_19 gB1 _ W1 B1).mono ?_
  rintro e w2 ⟨rfl, B2, b2⟩
  replace hb := hb.trans (b2.mono hgle)
  clear B1
  replace B2 : Box w2 gB1 (cfL (({ defC 5 with st := 1000000001 } : Cf))) 29 := B2
  generalize hgC : ({ defC 5 with st := 1000000001 } : Cf) = C at *
  go_wp2_with (guard_target =~ wpList _ _ _ (⟨some 7, _, _, _, _, _⟩ :: _) _ _; refine wpList_load_conf (op := ⟨some 7, .load _ _, _, _, _, _⟩) (by rfl) _ (by rfl) gB1 (by rfl) (C) _ B2 ?_)
  refine (hch _).mono ?_
  rintro e w3 ⟨rfl, b3⟩
  by_cases hC : CfOk C
  · rw [show checkE C = 0 from if_pos hC]
    go_wp2_with fail
    go_ret
    exact ⟨by show Ending.returned (.bool true) = _; rw [hgC, decide_eq_true hC], bnext hb b3⟩
  · rw [show checkE C = 15 from if_neg hC]
    go_wp2_with fail
    go_ret
    exact ⟨by show Ending.returned (.bool false) = _; rw [hgC, decide_eq_false hC], bnext hb b3⟩

set_option maxRecDepth 100000 in
set_option maxHeartbeats 8000000 in
theorem turned_20 (HD : CDef) (HC : CChk) (w : World) :
    Calls Try.prog 10 #[.func (.func 31) #[] #[]] w fun e w' => e = .returned (.bool (decide (CfOk { defC 5 with fl := 63 }))) ∧ Below w.heap.size w w' := by
  have hch := fun wx => HC (({ defC 5 with fl := 63 } : Cf)) wx (by unfold CfIn defC; decide)
  have hb0 := Below.refl w.heap.size w
  go_enter Try.func10, Try.ntmps10
  go_wp2_with fail
  refine (HD 5 _ (by decide)).mono ?_
  rintro e w1 ⟨rfl, hb⟩
  have hgle := hb.size
  have N := Box.new w1 (cfL zeroC) 29
  have nb := bnew w1 (Obj.cells (cfL zeroC).toArray 29)
  go_upto_region 2 with (guard_target =~ wpList _ _ _ (⟨none, _, _, _, _, _⟩ :: _) _ _; refine wpList_store_conf (op := ⟨none, .store _ _ _, _, _, _, _⟩) (by rfl) _ _ (by rfl) w1.heap.size (defC 5) (zeroC) _ (by rfl) (by rfl) N ?_)
  have B1 := N.rowC (cfL (defC 5))
  replace nb := below_setRow nb (Nat.le_refl _) (cfL (defC 5)).toArray
  change Code.wp _ _ _ _ ((w1.alloc (Obj.cells (cfL zeroC).toArray 29)).setRow w1.heap.size (cfL (defC 5)).toArray)
  generalize ((w1.alloc (Obj.cells (cfL zeroC).toArray 29)).setRow w1.heap.size (cfL (defC 5)).toArray) = W1 at *
  generalize hgB1 : w1.heap.size = gB1 at *
  have nc : Below w1.heap.size w1 W1 := by rw [hgB1]; exact nb
  replace hb := bnext hb nc
  clear N nb nc
  go_wp2_with fail
  refine (turns_20 gB1 _ W1 B1).mono ?_
  rintro e w2 ⟨rfl, B2, b2⟩
  replace hb := hb.trans (b2.mono hgle)
  clear B1
  replace B2 : Box w2 gB1 (cfL (({ defC 5 with fl := 63 } : Cf))) 29 := B2
  generalize hgC : ({ defC 5 with fl := 63 } : Cf) = C at *
  go_wp2_with (guard_target =~ wpList _ _ _ (⟨some 7, _, _, _, _, _⟩ :: _) _ _; refine wpList_load_conf (op := ⟨some 7, .load _ _, _, _, _, _⟩) (by rfl) _ (by rfl) gB1 (by rfl) (C) _ B2 ?_)
  refine (hch _).mono ?_
  rintro e w3 ⟨rfl, b3⟩
  by_cases hC : CfOk C
  · rw [show checkE C = 0 from if_pos hC]
    go_wp2_with fail
    go_ret
    exact ⟨by show Ending.returned (.bool true) = _; rw [hgC, decide_eq_true hC], bnext hb b3⟩
  · rw [show checkE C = 15 from if_neg hC]
    go_wp2_with fail
    go_ret
    exact ⟨by show Ending.returned (.bool false) = _; rw [hgC, decide_eq_false hC], bnext hb b3⟩

set_option maxRecDepth 100000 in
set_option maxHeartbeats 8000000 in
theorem turned_21 (HD : CDef) (HC : CChk) (w : World) :
    Calls Try.prog 10 #[.func (.func 32) #[] #[]] w fun e w' => e = .returned (.bool (decide (CfOk { defC 5 with fl := 64 }))) ∧ Below w.heap.size w w' := by
  have hch := fun wx => HC (({ defC 5 with fl := 64 } : Cf)) wx (by unfold CfIn defC; decide)
  have hb0 := Below.refl w.heap.size w
  go_enter Try.func10, Try.ntmps10
  go_wp2_with fail
  refine (HD 5 _ (by decide)).mono ?_
  rintro e w1 ⟨rfl, hb⟩
  have hgle := hb.size
  have N := Box.new w1 (cfL zeroC) 29
  have nb := bnew w1 (Obj.cells (cfL zeroC).toArray 29)
  go_upto_region 2 with (guard_target =~ wpList _ _ _ (⟨none, _, _, _, _, _⟩ :: _) _ _; refine wpList_store_conf (op := ⟨none, .store _ _ _, _, _, _, _⟩) (by rfl) _ _ (by rfl) w1.heap.size (defC 5) (zeroC) _ (by rfl) (by rfl) N ?_)
  have B1 := N.rowC (cfL (defC 5))
  replace nb := below_setRow nb (Nat.le_refl _) (cfL (defC 5)).toArray
  change Code.wp _ _ _ _ ((w1.alloc (Obj.cells (cfL zeroC).toArray 29)).setRow w1.heap.size (cfL (defC 5)).toArray)
  generalize ((w1.alloc (Obj.cells (cfL zeroC).toArray 29)).setRow w1.heap.size (cfL (defC 5)).toArray) = W1 at *
  generalize hgB1 : w1.heap.size = gB1 at *
  have nc : Below w1.heap.size w1 W1 := by rw [hgB1]; exact nb
  replace hb := bnext hb nc
  clear N nb nc
  go_wp2_with fail
  refine (turns_21 gB1 _ W1 B1).mono ?_
  rintro e w2 ⟨rfl, B2, b2⟩
  replace hb := hb.trans (b2.mono hgle)
  clear B1
  replace B2 : Box w2 gB1 (cfL (({ defC 5 with fl := 64 } : Cf))) 29 := B2
  generalize hgC : ({ defC 5 with fl := 64 } : Cf) = C at *
  go_wp2_with (guard_target =~ wpList _ _ _ (⟨some 7, _, _, _, _, _⟩ :: _) _ _; refine wpList_load_conf (op := ⟨some 7, .load _ _, _, _, _, _⟩) (by rfl) _ (by rfl) gB1 (by rfl) (C) _ B2 ?_)
  refine (hch _).mono ?_
  rintro e w3 ⟨rfl, b3⟩
  by_cases hC : CfOk C
  · rw [show checkE C = 0 from if_pos hC]
    go_wp2_with fail
    go_ret
    exact ⟨by show Ending.returned (.bool true) = _; rw [hgC, decide_eq_true hC], bnext hb b3⟩
  · rw [show checkE C = 15 from if_neg hC]
    go_wp2_with fail
    go_ret
    exact ⟨by show Ending.returned (.bool false) = _; rw [hgC, decide_eq_false hC], bnext hb b3⟩

set_option maxRecDepth 100000 in
set_option maxHeartbeats 8000000 in
theorem turned_22 (HD : CDef) (HC : CChk) (w : World) :
    Calls Try.prog 10 #[.func (.func 33) #[] #[]] w fun e w' => e = .returned (.bool (decide (CfOk { defC 5 with so := true }))) ∧ Below w.heap.size w w' := by
  have hch := fun wx => HC (({ defC 5 with so := true } : Cf)) wx (by unfold CfIn defC; decide)
  have hb0 := Below.refl w.heap.size w
  go_enter Try.func10, Try.ntmps10
  go_wp2_with fail
  refine (HD 5 _ (by decide)).mono ?_
  rintro e w1 ⟨rfl, hb⟩
  have hgle := hb.size
  have N := Box.new w1 (cfL zeroC) 29
  have nb := bnew w1 (Obj.cells (cfL zeroC).toArray 29)
  go_upto_region 2 with (guard_target =~ wpList _ _ _ (⟨none, _, _, _, _, _⟩ :: _) _ _; refine wpList_store_conf (op := ⟨none, .store _ _ _, _, _, _, _⟩) (by rfl) _ _ (by rfl) w1.heap.size (defC 5) (zeroC) _ (by rfl) (by rfl) N ?_)
  have B1 := N.rowC (cfL (defC 5))
  replace nb := below_setRow nb (Nat.le_refl _) (cfL (defC 5)).toArray
  change Code.wp _ _ _ _ ((w1.alloc (Obj.cells (cfL zeroC).toArray 29)).setRow w1.heap.size (cfL (defC 5)).toArray)
  generalize ((w1.alloc (Obj.cells (cfL zeroC).toArray 29)).setRow w1.heap.size (cfL (defC 5)).toArray) = W1 at *
  generalize hgB1 : w1.heap.size = gB1 at *
  have nc : Below w1.heap.size w1 W1 := by rw [hgB1]; exact nb
  replace hb := bnext hb nc
  clear N nb nc
  go_wp2_with fail
  refine (turns_22 gB1 _ W1 B1).mono ?_
  rintro e w2 ⟨rfl, B2, b2⟩
  replace hb := hb.trans (b2.mono hgle)
  clear B1
  replace B2 : Box w2 gB1 (cfL (({ defC 5 with so := true } : Cf))) 29 := B2
  generalize hgC : ({ defC 5 with so := true } : Cf) = C at *
  go_wp2_with (guard_target =~ wpList _ _ _ (⟨some 7, _, _, _, _, _⟩ :: _) _ _; refine wpList_load_conf (op := ⟨some 7, .load _ _, _, _, _, _⟩) (by rfl) _ (by rfl) gB1 (by rfl) (C) _ B2 ?_)
  refine (hch _).mono ?_
  rintro e w3 ⟨rfl, b3⟩
  by_cases hC : CfOk C
  · rw [show checkE C = 0 from if_pos hC]
    go_wp2_with fail
    go_ret
    exact ⟨by show Ending.returned (.bool true) = _; rw [hgC, decide_eq_true hC], bnext hb b3⟩
  · rw [show checkE C = 15 from if_neg hC]
    go_wp2_with fail
    go_ret
    exact ⟨by show Ending.returned (.bool false) = _; rw [hgC, decide_eq_false hC], bnext hb b3⟩

set_option maxRecDepth 100000 in
set_option maxHeartbeats 8000000 in
theorem turned_23 (HD : CDef) (HC : CChk) (w : World) :
    Calls Try.prog 10 #[.func (.func 34) #[] #[]] w fun e w' => e = .returned (.bool (decide (CfOk { defC 5 with so := true, qc := 255 }))) ∧ Below w.heap.size w w' := by
  have hch := fun wx => HC (({ defC 5 with so := true, qc := 255 } : Cf)) wx (by unfold CfIn defC; decide)
  have hb0 := Below.refl w.heap.size w
  go_enter Try.func10, Try.ntmps10
  go_wp2_with fail
  refine (HD 5 _ (by decide)).mono ?_
  rintro e w1 ⟨rfl, hb⟩
  have hgle := hb.size
  have N := Box.new w1 (cfL zeroC) 29
  have nb := bnew w1 (Obj.cells (cfL zeroC).toArray 29)
  go_upto_region 2 with (guard_target =~ wpList _ _ _ (⟨none, _, _, _, _, _⟩ :: _) _ _; refine wpList_store_conf (op := ⟨none, .store _ _ _, _, _, _, _⟩) (by rfl) _ _ (by rfl) w1.heap.size (defC 5) (zeroC) _ (by rfl) (by rfl) N ?_)
  have B1 := N.rowC (cfL (defC 5))
  replace nb := below_setRow nb (Nat.le_refl _) (cfL (defC 5)).toArray
  change Code.wp _ _ _ _ ((w1.alloc (Obj.cells (cfL zeroC).toArray 29)).setRow w1.heap.size (cfL (defC 5)).toArray)
  generalize ((w1.alloc (Obj.cells (cfL zeroC).toArray 29)).setRow w1.heap.size (cfL (defC 5)).toArray) = W1 at *
  generalize hgB1 : w1.heap.size = gB1 at *
  have nc : Below w1.heap.size w1 W1 := by rw [hgB1]; exact nb
  replace hb := bnext hb nc
  clear N nb nc
  go_wp2_with fail
  refine (turns_23 gB1 _ W1 B1).mono ?_
  rintro e w2 ⟨rfl, B2, b2⟩
  replace hb := hb.trans (b2.mono hgle)
  clear B1
  replace B2 : Box w2 gB1 (cfL (({ defC 5 with so := true, qc := 255 } : Cf))) 29 := B2
  generalize hgC : ({ defC 5 with so := true, qc := 255 } : Cf) = C at *
  go_wp2_with (guard_target =~ wpList _ _ _ (⟨some 7, _, _, _, _, _⟩ :: _) _ _; refine wpList_load_conf (op := ⟨some 7, .load _ _, _, _, _, _⟩) (by rfl) _ (by rfl) gB1 (by rfl) (C) _ B2 ?_)
  refine (hch _).mono ?_
  rintro e w3 ⟨rfl, b3⟩
  by_cases hC : CfOk C
  · rw [show checkE C = 0 from if_pos hC]
    go_wp2_with fail
    go_ret
    exact ⟨by show Ending.returned (.bool true) = _; rw [hgC, decide_eq_true hC], bnext hb b3⟩
  · rw [show checkE C = 15 from if_neg hC]
    go_wp2_with fail
    go_ret
    exact ⟨by show Ending.returned (.bool false) = _; rw [hgC, decide_eq_false hC], bnext hb b3⟩

set_option maxRecDepth 100000 in
set_option maxHeartbeats 8000000 in
theorem turned_24 (HD : CDef) (HC : CChk) (w : World) :
    Calls Try.prog 10 #[.func (.func 35) #[] #[]] w fun e w' => e = .returned (.bool (decide (CfOk { defC 5 with so := true, qc := 255, po := 2 }))) ∧ Below w.heap.size w w' := by
  have hch := fun wx => HC (({ defC 5 with so := true, qc := 255, po := 2 } : Cf)) wx (by unfold CfIn defC; decide)
  have hb0 := Below.refl w.heap.size w
  go_enter Try.func10, Try.ntmps10
  go_wp2_with fail
  refine (HD 5 _ (by decide)).mono ?_
  rintro e w1 ⟨rfl, hb⟩
  have hgle := hb.size
  have N := Box.new w1 (cfL zeroC) 29
  have nb := bnew w1 (Obj.cells (cfL zeroC).toArray 29)
  go_upto_region 2 with (guard_target =~ wpList _ _ _ (⟨none, _, _, _, _, _⟩ :: _) _ _; refine wpList_store_conf (op := ⟨none, .store _ _ _, _, _, _, _⟩) (by rfl) _ _ (by rfl) w1.heap.size (defC 5) (zeroC) _ (by rfl) (by rfl) N ?_)
  have B1 := N.rowC (cfL (defC 5))
  replace nb := below_setRow nb (Nat.le_refl _) (cfL (defC 5)).toArray
  change Code.wp _ _ _ _ ((w1.alloc (Obj.cells (cfL zeroC).toArray 29)).setRow w1.heap.size (cfL (defC 5)).toArray)
  generalize ((w1.alloc (Obj.cells (cfL zeroC).toArray 29)).setRow w1.heap.size (cfL (defC 5)).toArray) = W1 at *
  generalize hgB1 : w1.heap.size = gB1 at *
  have nc : Below w1.heap.size w1 W1 := by rw [hgB1]; exact nb
  replace hb := bnext hb nc
  clear N nb nc
  go_wp2_with fail
  refine (turns_24 gB1 _ W1 B1).mono ?_
  rintro e w2 ⟨rfl, B2, b2⟩
  replace hb := hb.trans (b2.mono hgle)
  clear B1
  replace B2 : Box w2 gB1 (cfL (({ defC 5 with so := true, qc := 255, po := 2 } : Cf))) 29 := B2
  generalize hgC : ({ defC 5 with so := true, qc := 255, po := 2 } : Cf) = C at *
  go_wp2_with (guard_target =~ wpList _ _ _ (⟨some 7, _, _, _, _, _⟩ :: _) _ _; refine wpList_load_conf (op := ⟨some 7, .load _ _, _, _, _, _⟩) (by rfl) _ (by rfl) gB1 (by rfl) (C) _ B2 ?_)
  refine (hch _).mono ?_
  rintro e w3 ⟨rfl, b3⟩
  by_cases hC : CfOk C
  · rw [show checkE C = 0 from if_pos hC]
    go_wp2_with fail
    go_ret
    exact ⟨by show Ending.returned (.bool true) = _; rw [hgC, decide_eq_true hC], bnext hb b3⟩
  · rw [show checkE C = 15 from if_neg hC]
    go_wp2_with fail
    go_ret
    exact ⟨by show Ending.returned (.bool false) = _; rw [hgC, decide_eq_false hC], bnext hb b3⟩

set_option maxRecDepth 100000 in
set_option maxHeartbeats 8000000 in
theorem confLimits_from (HD : CDef) (HC : CChk) (HP : CPar) (w : World) :
    Calls Try.prog 4 #[] w fun e w' => e = .returned (.bool true) ∧ Below w.heap.size w w' := by
  have h2 := fun wx => turned_2 HD HC wx
  rw [show decide (CfOk { defC 5 with po := 8 }) = true by decide] at h2
  have h3 := fun wx => turned_3 HD HC wx
  rw [show decide (CfOk { defC 5 with po := 9 }) = false by decide] at h3
  have h4 := fun wx => turned_4 HD HC wx
  rw [show decide (CfOk { defC 5 with po := 0 }) = false by decide] at h4
  have h5 := fun wx => turned_5 HD HC wx
  rw [show decide (CfOk { defC 5 with dm := 127 }) = true by decide] at h5
  have h6 := fun wx => turned_6 HD HC wx
  rw [show decide (CfOk { defC 5 with dm := 128 }) = false by decide] at h6
  have h7 := fun wx => turned_7 HD HC wx
  rw [show decide (CfOk { defC 5 with la := -3 }) = true by decide] at h7
  have h8 := fun wx => turned_8 HD HC wx
  rw [show decide (CfOk { defC 5 with la := -4 }) = false by decide] at h8
  have h9 := fun wx => turned_9 HD HC wx
  rw [show decide (CfOk { defC 5 with ls := 4 }) = true by decide] at h9
  have h10 := fun wx => turned_10 HD HC wx
  rw [show decide (CfOk { defC 5 with ls := 5 }) = false by decide] at h10
  have h11 := fun wx => turned_11 HD HC wx
  rw [show decide (CfOk { defC 5 with tm := 2 }) = true by decide] at h11
  have h12 := fun wx => turned_12 HD HC wx
  rw [show decide (CfOk { defC 5 with tm := 1 }) = false by decide] at h12
  have h13 := fun wx => turned_13 HD HC wx
  rw [show decide (CfOk { defC 5 with tm := 11 }) = false by decide] at h13
  have h14 := fun wx => turned_14 HD HC wx
  rw [show decide (CfOk { defC 5 with md := 15 }) = true by decide] at h14
  have h15 := fun wx => turned_15 HD HC wx
  rw [show decide (CfOk { defC 5 with md := 16 }) = false by decide] at h15
  have h16 := fun wx => turned_16 HD HC wx
  rw [show decide (CfOk { defC 5 with kp := 2000 }) = true by decide] at h16
  have h17 := fun wx => turned_17 HD HC wx
  rw [show decide (CfOk { defC 5 with ki := 2001 }) = false by decide] at h17
  have h18 := fun wx => turned_18 HD HC wx
  rw [show decide (CfOk { defC 5 with st := 1000000000 }) = true by decide] at h18
  have h19 := fun wx => turned_19 HD HC wx
  rw [show decide (CfOk { defC 5 with st := 1000000001 }) = false by decide] at h19
  have h20 := fun wx => turned_20 HD HC wx
  rw [show decide (CfOk { defC 5 with fl := 63 }) = true by decide] at h20
  have h21 := fun wx => turned_21 HD HC wx
  rw [show decide (CfOk { defC 5 with fl := 64 }) = false by decide] at h21
  have h22 := fun wx => turned_22 HD HC wx
  rw [show decide (CfOk { defC 5 with so := true }) = false by decide] at h22
  have h23 := fun wx => turned_23 HD HC wx
  rw [show decide (CfOk { defC 5 with so := true, qc := 255 }) = true by decide] at h23
  have h24 := fun wx => turned_24 HD HC wx
  rw [show decide (CfOk { defC 5 with so := true, qc := 255, po := 2 }) = false by decide] at h24
  go_enter Try.func4, Try.ntmps4
  have hb := Below.refl w.heap.size w
  go_wp2_with fail
  refine (h2 _).mono ?_
  rintro e w2 ⟨rfl, b2⟩
  replace hb := bnext hb b2
  clear b2 h2
  go_wp2_with fail
  refine (h3 _).mono ?_
  rintro e w3 ⟨rfl, b3⟩
  replace hb := bnext hb b3
  clear b3 h3
  go_wp2_with fail
  refine (h4 _).mono ?_
  rintro e w4 ⟨rfl, b4⟩
  replace hb := bnext hb b4
  clear b4 h4
  go_wp2_with fail
  refine (h5 _).mono ?_
  rintro e w5 ⟨rfl, b5⟩
  replace hb := bnext hb b5
  clear b5 h5
  go_wp2_with fail
  refine (h6 _).mono ?_
  rintro e w6 ⟨rfl, b6⟩
  replace hb := bnext hb b6
  clear b6 h6
  go_wp2_with fail
  refine (h7 _).mono ?_
  rintro e w7 ⟨rfl, b7⟩
  replace hb := bnext hb b7
  clear b7 h7
  go_wp2_with fail
  refine (h8 _).mono ?_
  rintro e w8 ⟨rfl, b8⟩
  replace hb := bnext hb b8
  clear b8 h8
  go_wp2_with fail
  refine (h9 _).mono ?_
  rintro e w9 ⟨rfl, b9⟩
  replace hb := bnext hb b9
  clear b9 h9
  go_wp2_with fail
  refine (h10 _).mono ?_
  rintro e w10 ⟨rfl, b10⟩
  replace hb := bnext hb b10
  clear b10 h10
  go_wp2_with fail
  refine (h11 _).mono ?_
  rintro e w11 ⟨rfl, b11⟩
  replace hb := bnext hb b11
  clear b11 h11
  go_wp2_with fail
  refine (h12 _).mono ?_
  rintro e w12 ⟨rfl, b12⟩
  replace hb := bnext hb b12
  clear b12 h12
  go_wp2_with fail
  refine (h13 _).mono ?_
  rintro e w13 ⟨rfl, b13⟩
  replace hb := bnext hb b13
  clear b13 h13
  go_wp2_with fail
  refine (h14 _).mono ?_
  rintro e w14 ⟨rfl, b14⟩
  replace hb := bnext hb b14
  clear b14 h14
  go_wp2_with fail
  refine (h15 _).mono ?_
  rintro e w15 ⟨rfl, b15⟩
  replace hb := bnext hb b15
  clear b15 h15
  go_wp2_with fail
  refine (h16 _).mono ?_
  rintro e w16 ⟨rfl, b16⟩
  replace hb := bnext hb b16
  clear b16 h16
  go_wp2_with fail
  refine (h17 _).mono ?_
  rintro e w17 ⟨rfl, b17⟩
  replace hb := bnext hb b17
  clear b17 h17
  go_wp2_with fail
  refine (h18 _).mono ?_
  rintro e w18 ⟨rfl, b18⟩
  replace hb := bnext hb b18
  clear b18 h18
  go_wp2_with fail
  refine (h19 _).mono ?_
  rintro e w19 ⟨rfl, b19⟩
  replace hb := bnext hb b19
  clear b19 h19
  go_wp2_with fail
  refine (h20 _).mono ?_
  rintro e w20 ⟨rfl, b20⟩
  replace hb := bnext hb b20
  clear b20 h20
  go_wp2_with fail
  refine (h21 _).mono ?_
  rintro e w21 ⟨rfl, b21⟩
  replace hb := bnext hb b21
  clear b21 h21
  go_wp2_with fail
  refine (h22 _).mono ?_
  rintro e w22 ⟨rfl, b22⟩
  replace hb := bnext hb b22
  clear b22 h22
  go_wp2_with fail
  refine (h23 _).mono ?_
  rintro e w23 ⟨rfl, b23⟩
  replace hb := bnext hb b23
  clear b23 h23
  go_wp2_with fail
  refine (h24 _).mono ?_
  rintro e w24 ⟨rfl, b24⟩
  replace hb := bnext hb b24
  clear b24 h24
  go_wp2_with fail
  refine (awake10_from HD HC HP _).mono ?_
  rintro e wz ⟨rfl, bz⟩
  go_wp2_with fail
  go_ret
  exact ⟨rfl, bnext hb bz⟩

end Go.Proofs.Ytmcnohndgnaagaa
