/- The program's own answers to questions: rights, faults, small helpers (gen_mgmown.py). -/
import Derived.Test.YtgjffmhlehcoiaaMgm
import Derived.Test.YtgjffmhlehcoiaaStr
import Derived.Test.YtgjffmhlehcoiaaBuild
import Derived.Test.YtgjffmhlehcoiaaOnly
namespace Go.Proofs.Ytgjffmhlehcoiaa
open Go.RowKit Go.Proofs
set_option maxRecDepth 50000
set_option linter.unusedVariables false
set_option linter.unusedSimpArgs false

structure Rg where
  g : Bool
  s : Bool
  c : Bool
deriving DecidableEq
def rgK : RowK Rg := ⟨fun r => [.bool r.g, .bool r.s, .bool r.c], 3, by decide, fun _ => rfl, by
  intro a u hu
  simp only [List.mem_cons, List.not_mem_nil, or_false] at hu
  rcases hu with rfl | rfl | rfl <;> rfl⟩
theorem rgT : StrT rgK 60 := ⟨⟨_, Try.underlying60, rfl⟩, by kernel_rfl⟩
def rg0 : Rg := ⟨false, false, false⟩
def setB (id : Int) : Bool := decide (0 ≤ sizeI id) && !cmdB id && !fixB id
def getB2 (id : Int) : Bool := decide (0 ≤ sizeI id) && !cmdB id
def rgI (id : Int) : Rg := ⟨getB2 id, setB id, cmdB id || decide (id = 0)⟩
set_option maxRecDepth 100000 in
set_option maxHeartbeats 8000000 in
theorem rights_any (id : Int) (w : World) : Calls Try.prog 23 #[.int .i64 id] w fun e w' => e = .returned (.agg (rgK.enc (rgI id)).toArray) ∧ Below w.heap.size w w' := by
  by_cases h0 : id = 0
  · subst h0
    rw [show rgI 0 = ⟨true, true, true⟩ by decide]
    have z0 := bnew w (Obj.cells (rgK.enc rg0).toArray 60)
    have A := Box.new w (rgK.enc rg0) 60
    have z1 := bnew (w.alloc (Obj.cells (rgK.enc rg0).toArray 60)) (Obj.cells (rgK.enc rg0).toArray 60)
    have B := Box.new (w.alloc (Obj.cells (rgK.enc rg0).toArray 60)) (rgK.enc rg0) 60
    replace A := A.below z1
    have hb := z0
    replace hb := bnext hb z1
    clear z0
    clear z1
    have s1 : (w.alloc (Obj.cells (rgK.enc rg0).toArray 60)).heap.size = w.heap.size + 1 := by simp
    rw [s1] at B
    go_enter Try.func23, Try.ntmps23
    go_upto_region 2 with fail
    change Code.wp Try.prog _ _ _ ((w.alloc (Obj.cells (rgK.enc rg0).toArray 60)).alloc (Obj.cells (rgK.enc rg0).toArray 60))
    generalize ((w.alloc (Obj.cells (rgK.enc rg0).toArray 60)).alloc (Obj.cells (rgK.enc rg0).toArray 60)) = W at *
    clear s1
    generalize hG : w.heap.size = G at *
    rw [← hG] at hb
    have l_A : w.heap.size ≤ G := by omega
    have l_B : w.heap.size ≤ G + 1 := by omega
    have n_A_B : G ≠ G + 1 := by omega
    have hc := B.cell 2 _ rfl
    have hf := B.free 2
    go_upto_region 23 with fail
    replace B := B.set 2 (.bool true)
    replace A := A.other n_A_B 2 (.bool true)
    replace hb := hb.setCell (p := ⟨G + 1, 2, none⟩) l_B (.bool true)
    generalize World.setCell _ _ _ = w1 at *
    clear hc hf
    replace B : Box w1 (G + 1) (rgK.enc ⟨false, false, true⟩) _ := B
    have hc := B.cell 1 _ rfl
    have hf := B.free 1
    go_upto_region 24 with fail
    replace B := B.set 1 (.bool true)
    replace A := A.other n_A_B 1 (.bool true)
    replace hb := hb.setCell (p := ⟨G + 1, 1, none⟩) l_B (.bool true)
    generalize World.setCell _ _ _ = w2 at *
    clear hc hf
    replace B : Box w2 (G + 1) (rgK.enc ⟨false, true, true⟩) _ := B
    have hc := B.cell 0 _ rfl
    have hf := B.free 0
    go_upto_region 26 with fail
    replace B := B.set 0 (.bool true)
    replace A := A.other n_A_B 0 (.bool true)
    replace hb := hb.setCell (p := ⟨G + 1, 0, none⟩) l_B (.bool true)
    generalize World.setCell _ _ _ = w3 at *
    clear hc hf
    replace B : Box w3 (G + 1) (rgK.enc ⟨true, true, true⟩) _ := B
    go_wp2_with (first | (guard_target =~ wpList _ _ _ (⟨some 32, _, _, _, _, _⟩ :: _) _ _; refine rgT.load (op := ⟨some 32, .load _ _, _, _, _, _⟩) (by rfl) _ (by rfl) (G + 1) 0 (by rfl) ((⟨true, true, true⟩ : Rg)) B.rangeK ?_) | (guard_target =~ wpList _ _ _ (⟨none, _, _, _, _, _⟩ :: _) _ _; refine rgT.store (op := ⟨none, .store _ _ _, _, _, _, _⟩) (by rfl) _ _ (by rfl) (G) ((⟨true, true, true⟩ : Rg)) (rg0) _ (by rfl) (by rfl) A ?_))
    exact bodyPost_ret (v := .agg (rgK.enc ⟨true, true, true⟩).toArray) (rgT.result rfl _ _ G _ _ rfl (A.rowK _)) rfl ⟨rfl, by first | exact hG ▸ below_setRow (hG ▸ hb) (Nat.le_refl _) _ | exact below_setRow hb (by omega) _⟩
  have b0 : (id == 0) = false := beq_false_of_ne h0
  by_cases h5 : id = 5
  · subst h5
    rw [show rgI 5 = ⟨false, false, true⟩ by decide]
    have z0 := bnew w (Obj.cells (rgK.enc rg0).toArray 60)
    have A := Box.new w (rgK.enc rg0) 60
    have z1 := bnew (w.alloc (Obj.cells (rgK.enc rg0).toArray 60)) (Obj.cells (rgK.enc rg0).toArray 60)
    have B := Box.new (w.alloc (Obj.cells (rgK.enc rg0).toArray 60)) (rgK.enc rg0) 60
    replace A := A.below z1
    have hb := z0
    replace hb := bnext hb z1
    clear z0
    clear z1
    have s1 : (w.alloc (Obj.cells (rgK.enc rg0).toArray 60)).heap.size = w.heap.size + 1 := by simp
    rw [s1] at B
    go_enter Try.func23, Try.ntmps23
    go_upto_region 2 with fail
    change Code.wp Try.prog _ _ _ ((w.alloc (Obj.cells (rgK.enc rg0).toArray 60)).alloc (Obj.cells (rgK.enc rg0).toArray 60))
    generalize ((w.alloc (Obj.cells (rgK.enc rg0).toArray 60)).alloc (Obj.cells (rgK.enc rg0).toArray 60)) = W at *
    clear s1
    generalize hG : w.heap.size = G at *
    rw [← hG] at hb
    have l_A : w.heap.size ≤ G := by omega
    have l_B : w.heap.size ≤ G + 1 := by omega
    have n_A_B : G ≠ G + 1 := by omega
    have hc := B.cell 2 _ rfl
    have hf := B.free 2
    go_upto_region 26 with fail
    replace B := B.set 2 (.bool true)
    replace A := A.other n_A_B 2 (.bool true)
    replace hb := hb.setCell (p := ⟨G + 1, 2, none⟩) l_B (.bool true)
    generalize World.setCell _ _ _ = w1 at *
    clear hc hf
    replace B : Box w1 (G + 1) (rgK.enc ⟨false, false, true⟩) _ := B
    go_wp2_with (first | (guard_target =~ wpList _ _ _ (⟨some 32, _, _, _, _, _⟩ :: _) _ _; refine rgT.load (op := ⟨some 32, .load _ _, _, _, _, _⟩) (by rfl) _ (by rfl) (G + 1) 0 (by rfl) ((⟨false, false, true⟩ : Rg)) B.rangeK ?_) | (guard_target =~ wpList _ _ _ (⟨none, _, _, _, _, _⟩ :: _) _ _; refine rgT.store (op := ⟨none, .store _ _ _, _, _, _, _⟩) (by rfl) _ _ (by rfl) (G) ((⟨false, false, true⟩ : Rg)) (rg0) _ (by rfl) (by rfl) A ?_))
    exact bodyPost_ret (v := .agg (rgK.enc ⟨false, false, true⟩).toArray) (rgT.result rfl _ _ G _ _ rfl (A.rowK _)) rfl ⟨rfl, by first | exact hG ▸ below_setRow (hG ▸ hb) (Nat.le_refl _) _ | exact below_setRow hb (by omega) _⟩
  have b5 : (id == 5) = false := beq_false_of_ne h5
  by_cases h8192 : id = 8192
  · subst h8192
    rw [show rgI 8192 = ⟨true, false, false⟩ by decide]
    have z0 := bnew w (Obj.cells (rgK.enc rg0).toArray 60)
    have A := Box.new w (rgK.enc rg0) 60
    have z1 := bnew (w.alloc (Obj.cells (rgK.enc rg0).toArray 60)) (Obj.cells (rgK.enc rg0).toArray 60)
    have B := Box.new (w.alloc (Obj.cells (rgK.enc rg0).toArray 60)) (rgK.enc rg0) 60
    replace A := A.below z1
    have hb := z0
    replace hb := bnext hb z1
    clear z0
    clear z1
    have s1 : (w.alloc (Obj.cells (rgK.enc rg0).toArray 60)).heap.size = w.heap.size + 1 := by simp
    rw [s1] at B
    go_enter Try.func23, Try.ntmps23
    go_upto_region 2 with fail
    change Code.wp Try.prog _ _ _ ((w.alloc (Obj.cells (rgK.enc rg0).toArray 60)).alloc (Obj.cells (rgK.enc rg0).toArray 60))
    generalize ((w.alloc (Obj.cells (rgK.enc rg0).toArray 60)).alloc (Obj.cells (rgK.enc rg0).toArray 60)) = W at *
    clear s1
    generalize hG : w.heap.size = G at *
    rw [← hG] at hb
    have l_A : w.heap.size ≤ G := by omega
    have l_B : w.heap.size ≤ G + 1 := by omega
    have n_A_B : G ≠ G + 1 := by omega
    have hc := B.cell 0 _ rfl
    have hf := B.free 0
    go_upto_region 26 with fail
    replace B := B.set 0 (.bool true)
    replace A := A.other n_A_B 0 (.bool true)
    replace hb := hb.setCell (p := ⟨G + 1, 0, none⟩) l_B (.bool true)
    generalize World.setCell _ _ _ = w1 at *
    clear hc hf
    replace B : Box w1 (G + 1) (rgK.enc ⟨true, false, false⟩) _ := B
    go_wp2_with (first | (guard_target =~ wpList _ _ _ (⟨some 32, _, _, _, _, _⟩ :: _) _ _; refine rgT.load (op := ⟨some 32, .load _ _, _, _, _, _⟩) (by rfl) _ (by rfl) (G + 1) 0 (by rfl) ((⟨true, false, false⟩ : Rg)) B.rangeK ?_) | (guard_target =~ wpList _ _ _ (⟨none, _, _, _, _, _⟩ :: _) _ _; refine rgT.store (op := ⟨none, .store _ _ _, _, _, _, _⟩) (by rfl) _ _ (by rfl) (G) ((⟨true, false, false⟩ : Rg)) (rg0) _ (by rfl) (by rfl) A ?_))
    exact bodyPost_ret (v := .agg (rgK.enc ⟨true, false, false⟩).toArray) (rgT.result rfl _ _ G _ _ rfl (A.rowK _)) rfl ⟨rfl, by first | exact hG ▸ below_setRow (hG ▸ hb) (Nat.le_refl _) _ | exact below_setRow hb (by omega) _⟩
  have b8192 : (id == 8192) = false := beq_false_of_ne h8192
  by_cases h8193 : id = 8193
  · subst h8193
    rw [show rgI 8193 = ⟨true, false, false⟩ by decide]
    have z0 := bnew w (Obj.cells (rgK.enc rg0).toArray 60)
    have A := Box.new w (rgK.enc rg0) 60
    have z1 := bnew (w.alloc (Obj.cells (rgK.enc rg0).toArray 60)) (Obj.cells (rgK.enc rg0).toArray 60)
    have B := Box.new (w.alloc (Obj.cells (rgK.enc rg0).toArray 60)) (rgK.enc rg0) 60
    replace A := A.below z1
    have hb := z0
    replace hb := bnext hb z1
    clear z0
    clear z1
    have s1 : (w.alloc (Obj.cells (rgK.enc rg0).toArray 60)).heap.size = w.heap.size + 1 := by simp
    rw [s1] at B
    go_enter Try.func23, Try.ntmps23
    go_upto_region 2 with fail
    change Code.wp Try.prog _ _ _ ((w.alloc (Obj.cells (rgK.enc rg0).toArray 60)).alloc (Obj.cells (rgK.enc rg0).toArray 60))
    generalize ((w.alloc (Obj.cells (rgK.enc rg0).toArray 60)).alloc (Obj.cells (rgK.enc rg0).toArray 60)) = W at *
    clear s1
    generalize hG : w.heap.size = G at *
    rw [← hG] at hb
    have l_A : w.heap.size ≤ G := by omega
    have l_B : w.heap.size ≤ G + 1 := by omega
    have n_A_B : G ≠ G + 1 := by omega
    have hc := B.cell 0 _ rfl
    have hf := B.free 0
    go_upto_region 26 with fail
    replace B := B.set 0 (.bool true)
    replace A := A.other n_A_B 0 (.bool true)
    replace hb := hb.setCell (p := ⟨G + 1, 0, none⟩) l_B (.bool true)
    generalize World.setCell _ _ _ = w1 at *
    clear hc hf
    replace B : Box w1 (G + 1) (rgK.enc ⟨true, false, false⟩) _ := B
    go_wp2_with (first | (guard_target =~ wpList _ _ _ (⟨some 32, _, _, _, _, _⟩ :: _) _ _; refine rgT.load (op := ⟨some 32, .load _ _, _, _, _, _⟩) (by rfl) _ (by rfl) (G + 1) 0 (by rfl) ((⟨true, false, false⟩ : Rg)) B.rangeK ?_) | (guard_target =~ wpList _ _ _ (⟨none, _, _, _, _, _⟩ :: _) _ _; refine rgT.store (op := ⟨none, .store _ _ _, _, _, _, _⟩) (by rfl) _ _ (by rfl) (G) ((⟨true, false, false⟩ : Rg)) (rg0) _ (by rfl) (by rfl) A ?_))
    exact bodyPost_ret (v := .agg (rgK.enc ⟨true, false, false⟩).toArray) (rgT.result rfl _ _ G _ _ rfl (A.rowK _)) rfl ⟨rfl, by first | exact hG ▸ below_setRow (hG ▸ hb) (Nat.le_refl _) _ | exact below_setRow hb (by omega) _⟩
  have b8193 : (id == 8193) = false := beq_false_of_ne h8193
  by_cases h8194 : id = 8194
  · subst h8194
    rw [show rgI 8194 = ⟨true, false, false⟩ by decide]
    have z0 := bnew w (Obj.cells (rgK.enc rg0).toArray 60)
    have A := Box.new w (rgK.enc rg0) 60
    have z1 := bnew (w.alloc (Obj.cells (rgK.enc rg0).toArray 60)) (Obj.cells (rgK.enc rg0).toArray 60)
    have B := Box.new (w.alloc (Obj.cells (rgK.enc rg0).toArray 60)) (rgK.enc rg0) 60
    replace A := A.below z1
    have hb := z0
    replace hb := bnext hb z1
    clear z0
    clear z1
    have s1 : (w.alloc (Obj.cells (rgK.enc rg0).toArray 60)).heap.size = w.heap.size + 1 := by simp
    rw [s1] at B
    go_enter Try.func23, Try.ntmps23
    go_upto_region 2 with fail
    change Code.wp Try.prog _ _ _ ((w.alloc (Obj.cells (rgK.enc rg0).toArray 60)).alloc (Obj.cells (rgK.enc rg0).toArray 60))
    generalize ((w.alloc (Obj.cells (rgK.enc rg0).toArray 60)).alloc (Obj.cells (rgK.enc rg0).toArray 60)) = W at *
    clear s1
    generalize hG : w.heap.size = G at *
    rw [← hG] at hb
    have l_A : w.heap.size ≤ G := by omega
    have l_B : w.heap.size ≤ G + 1 := by omega
    have n_A_B : G ≠ G + 1 := by omega
    have hc := B.cell 0 _ rfl
    have hf := B.free 0
    go_upto_region 26 with fail
    replace B := B.set 0 (.bool true)
    replace A := A.other n_A_B 0 (.bool true)
    replace hb := hb.setCell (p := ⟨G + 1, 0, none⟩) l_B (.bool true)
    generalize World.setCell _ _ _ = w1 at *
    clear hc hf
    replace B : Box w1 (G + 1) (rgK.enc ⟨true, false, false⟩) _ := B
    go_wp2_with (first | (guard_target =~ wpList _ _ _ (⟨some 32, _, _, _, _, _⟩ :: _) _ _; refine rgT.load (op := ⟨some 32, .load _ _, _, _, _, _⟩) (by rfl) _ (by rfl) (G + 1) 0 (by rfl) ((⟨true, false, false⟩ : Rg)) B.rangeK ?_) | (guard_target =~ wpList _ _ _ (⟨none, _, _, _, _, _⟩ :: _) _ _; refine rgT.store (op := ⟨none, .store _ _ _, _, _, _, _⟩) (by rfl) _ _ (by rfl) (G) ((⟨true, false, false⟩ : Rg)) (rg0) _ (by rfl) (by rfl) A ?_))
    exact bodyPost_ret (v := .agg (rgK.enc ⟨true, false, false⟩).toArray) (rgT.result rfl _ _ G _ _ rfl (A.rowK _)) rfl ⟨rfl, by first | exact hG ▸ below_setRow (hG ▸ hb) (Nat.le_refl _) _ | exact below_setRow hb (by omega) _⟩
  have b8194 : (id == 8194) = false := beq_false_of_ne h8194
  by_cases h8195 : id = 8195
  · subst h8195
    rw [show rgI 8195 = ⟨true, false, false⟩ by decide]
    have z0 := bnew w (Obj.cells (rgK.enc rg0).toArray 60)
    have A := Box.new w (rgK.enc rg0) 60
    have z1 := bnew (w.alloc (Obj.cells (rgK.enc rg0).toArray 60)) (Obj.cells (rgK.enc rg0).toArray 60)
    have B := Box.new (w.alloc (Obj.cells (rgK.enc rg0).toArray 60)) (rgK.enc rg0) 60
    replace A := A.below z1
    have hb := z0
    replace hb := bnext hb z1
    clear z0
    clear z1
    have s1 : (w.alloc (Obj.cells (rgK.enc rg0).toArray 60)).heap.size = w.heap.size + 1 := by simp
    rw [s1] at B
    go_enter Try.func23, Try.ntmps23
    go_upto_region 2 with fail
    change Code.wp Try.prog _ _ _ ((w.alloc (Obj.cells (rgK.enc rg0).toArray 60)).alloc (Obj.cells (rgK.enc rg0).toArray 60))
    generalize ((w.alloc (Obj.cells (rgK.enc rg0).toArray 60)).alloc (Obj.cells (rgK.enc rg0).toArray 60)) = W at *
    clear s1
    generalize hG : w.heap.size = G at *
    rw [← hG] at hb
    have l_A : w.heap.size ≤ G := by omega
    have l_B : w.heap.size ≤ G + 1 := by omega
    have n_A_B : G ≠ G + 1 := by omega
    have hc := B.cell 0 _ rfl
    have hf := B.free 0
    go_upto_region 26 with fail
    replace B := B.set 0 (.bool true)
    replace A := A.other n_A_B 0 (.bool true)
    replace hb := hb.setCell (p := ⟨G + 1, 0, none⟩) l_B (.bool true)
    generalize World.setCell _ _ _ = w1 at *
    clear hc hf
    replace B : Box w1 (G + 1) (rgK.enc ⟨true, false, false⟩) _ := B
    go_wp2_with (first | (guard_target =~ wpList _ _ _ (⟨some 32, _, _, _, _, _⟩ :: _) _ _; refine rgT.load (op := ⟨some 32, .load _ _, _, _, _, _⟩) (by rfl) _ (by rfl) (G + 1) 0 (by rfl) ((⟨true, false, false⟩ : Rg)) B.rangeK ?_) | (guard_target =~ wpList _ _ _ (⟨none, _, _, _, _, _⟩ :: _) _ _; refine rgT.store (op := ⟨none, .store _ _ _, _, _, _, _⟩) (by rfl) _ _ (by rfl) (G) ((⟨true, false, false⟩ : Rg)) (rg0) _ (by rfl) (by rfl) A ?_))
    exact bodyPost_ret (v := .agg (rgK.enc ⟨true, false, false⟩).toArray) (rgT.result rfl _ _ G _ _ rfl (A.rowK _)) rfl ⟨rfl, by first | exact hG ▸ below_setRow (hG ▸ hb) (Nat.le_refl _) _ | exact below_setRow hb (by omega) _⟩
  have b8195 : (id == 8195) = false := beq_false_of_ne h8195
  by_cases h8196 : id = 8196
  · subst h8196
    rw [show rgI 8196 = ⟨true, false, false⟩ by decide]
    have z0 := bnew w (Obj.cells (rgK.enc rg0).toArray 60)
    have A := Box.new w (rgK.enc rg0) 60
    have z1 := bnew (w.alloc (Obj.cells (rgK.enc rg0).toArray 60)) (Obj.cells (rgK.enc rg0).toArray 60)
    have B := Box.new (w.alloc (Obj.cells (rgK.enc rg0).toArray 60)) (rgK.enc rg0) 60
    replace A := A.below z1
    have hb := z0
    replace hb := bnext hb z1
    clear z0
    clear z1
    have s1 : (w.alloc (Obj.cells (rgK.enc rg0).toArray 60)).heap.size = w.heap.size + 1 := by simp
    rw [s1] at B
    go_enter Try.func23, Try.ntmps23
    go_upto_region 2 with fail
    change Code.wp Try.prog _ _ _ ((w.alloc (Obj.cells (rgK.enc rg0).toArray 60)).alloc (Obj.cells (rgK.enc rg0).toArray 60))
    generalize ((w.alloc (Obj.cells (rgK.enc rg0).toArray 60)).alloc (Obj.cells (rgK.enc rg0).toArray 60)) = W at *
    clear s1
    generalize hG : w.heap.size = G at *
    rw [← hG] at hb
    have l_A : w.heap.size ≤ G := by omega
    have l_B : w.heap.size ≤ G + 1 := by omega
    have n_A_B : G ≠ G + 1 := by omega
    have hc := B.cell 0 _ rfl
    have hf := B.free 0
    go_upto_region 26 with fail
    replace B := B.set 0 (.bool true)
    replace A := A.other n_A_B 0 (.bool true)
    replace hb := hb.setCell (p := ⟨G + 1, 0, none⟩) l_B (.bool true)
    generalize World.setCell _ _ _ = w1 at *
    clear hc hf
    replace B : Box w1 (G + 1) (rgK.enc ⟨true, false, false⟩) _ := B
    go_wp2_with (first | (guard_target =~ wpList _ _ _ (⟨some 32, _, _, _, _, _⟩ :: _) _ _; refine rgT.load (op := ⟨some 32, .load _ _, _, _, _, _⟩) (by rfl) _ (by rfl) (G + 1) 0 (by rfl) ((⟨true, false, false⟩ : Rg)) B.rangeK ?_) | (guard_target =~ wpList _ _ _ (⟨none, _, _, _, _, _⟩ :: _) _ _; refine rgT.store (op := ⟨none, .store _ _ _, _, _, _, _⟩) (by rfl) _ _ (by rfl) (G) ((⟨true, false, false⟩ : Rg)) (rg0) _ (by rfl) (by rfl) A ?_))
    exact bodyPost_ret (v := .agg (rgK.enc ⟨true, false, false⟩).toArray) (rgT.result rfl _ _ G _ _ rfl (A.rowK _)) rfl ⟨rfl, by first | exact hG ▸ below_setRow (hG ▸ hb) (Nat.le_refl _) _ | exact below_setRow hb (by omega) _⟩
  have b8196 : (id == 8196) = false := beq_false_of_ne h8196
  by_cases h8197 : id = 8197
  · subst h8197
    rw [show rgI 8197 = ⟨true, true, false⟩ by decide]
    have z0 := bnew w (Obj.cells (rgK.enc rg0).toArray 60)
    have A := Box.new w (rgK.enc rg0) 60
    have z1 := bnew (w.alloc (Obj.cells (rgK.enc rg0).toArray 60)) (Obj.cells (rgK.enc rg0).toArray 60)
    have B := Box.new (w.alloc (Obj.cells (rgK.enc rg0).toArray 60)) (rgK.enc rg0) 60
    replace A := A.below z1
    have hb := z0
    replace hb := bnext hb z1
    clear z0
    clear z1
    have s1 : (w.alloc (Obj.cells (rgK.enc rg0).toArray 60)).heap.size = w.heap.size + 1 := by simp
    rw [s1] at B
    go_enter Try.func23, Try.ntmps23
    go_upto_region 2 with fail
    change Code.wp Try.prog _ _ _ ((w.alloc (Obj.cells (rgK.enc rg0).toArray 60)).alloc (Obj.cells (rgK.enc rg0).toArray 60))
    generalize ((w.alloc (Obj.cells (rgK.enc rg0).toArray 60)).alloc (Obj.cells (rgK.enc rg0).toArray 60)) = W at *
    clear s1
    generalize hG : w.heap.size = G at *
    rw [← hG] at hb
    have l_A : w.heap.size ≤ G := by omega
    have l_B : w.heap.size ≤ G + 1 := by omega
    have n_A_B : G ≠ G + 1 := by omega
    have hc := B.cell 1 _ rfl
    have hf := B.free 1
    go_upto_region 24 with fail
    replace B := B.set 1 (.bool true)
    replace A := A.other n_A_B 1 (.bool true)
    replace hb := hb.setCell (p := ⟨G + 1, 1, none⟩) l_B (.bool true)
    generalize World.setCell _ _ _ = w1 at *
    clear hc hf
    replace B : Box w1 (G + 1) (rgK.enc ⟨false, true, false⟩) _ := B
    have hc := B.cell 0 _ rfl
    have hf := B.free 0
    go_upto_region 26 with fail
    replace B := B.set 0 (.bool true)
    replace A := A.other n_A_B 0 (.bool true)
    replace hb := hb.setCell (p := ⟨G + 1, 0, none⟩) l_B (.bool true)
    generalize World.setCell _ _ _ = w2 at *
    clear hc hf
    replace B : Box w2 (G + 1) (rgK.enc ⟨true, true, false⟩) _ := B
    go_wp2_with (first | (guard_target =~ wpList _ _ _ (⟨some 32, _, _, _, _, _⟩ :: _) _ _; refine rgT.load (op := ⟨some 32, .load _ _, _, _, _, _⟩) (by rfl) _ (by rfl) (G + 1) 0 (by rfl) ((⟨true, true, false⟩ : Rg)) B.rangeK ?_) | (guard_target =~ wpList _ _ _ (⟨none, _, _, _, _, _⟩ :: _) _ _; refine rgT.store (op := ⟨none, .store _ _ _, _, _, _, _⟩) (by rfl) _ _ (by rfl) (G) ((⟨true, true, false⟩ : Rg)) (rg0) _ (by rfl) (by rfl) A ?_))
    exact bodyPost_ret (v := .agg (rgK.enc ⟨true, true, false⟩).toArray) (rgT.result rfl _ _ G _ _ rfl (A.rowK _)) rfl ⟨rfl, by first | exact hG ▸ below_setRow (hG ▸ hb) (Nat.le_refl _) _ | exact below_setRow hb (by omega) _⟩
  have b8197 : (id == 8197) = false := beq_false_of_ne h8197
  by_cases h8198 : id = 8198
  · subst h8198
    rw [show rgI 8198 = ⟨true, true, false⟩ by decide]
    have z0 := bnew w (Obj.cells (rgK.enc rg0).toArray 60)
    have A := Box.new w (rgK.enc rg0) 60
    have z1 := bnew (w.alloc (Obj.cells (rgK.enc rg0).toArray 60)) (Obj.cells (rgK.enc rg0).toArray 60)
    have B := Box.new (w.alloc (Obj.cells (rgK.enc rg0).toArray 60)) (rgK.enc rg0) 60
    replace A := A.below z1
    have hb := z0
    replace hb := bnext hb z1
    clear z0
    clear z1
    have s1 : (w.alloc (Obj.cells (rgK.enc rg0).toArray 60)).heap.size = w.heap.size + 1 := by simp
    rw [s1] at B
    go_enter Try.func23, Try.ntmps23
    go_upto_region 2 with fail
    change Code.wp Try.prog _ _ _ ((w.alloc (Obj.cells (rgK.enc rg0).toArray 60)).alloc (Obj.cells (rgK.enc rg0).toArray 60))
    generalize ((w.alloc (Obj.cells (rgK.enc rg0).toArray 60)).alloc (Obj.cells (rgK.enc rg0).toArray 60)) = W at *
    clear s1
    generalize hG : w.heap.size = G at *
    rw [← hG] at hb
    have l_A : w.heap.size ≤ G := by omega
    have l_B : w.heap.size ≤ G + 1 := by omega
    have n_A_B : G ≠ G + 1 := by omega
    have hc := B.cell 1 _ rfl
    have hf := B.free 1
    go_upto_region 24 with fail
    replace B := B.set 1 (.bool true)
    replace A := A.other n_A_B 1 (.bool true)
    replace hb := hb.setCell (p := ⟨G + 1, 1, none⟩) l_B (.bool true)
    generalize World.setCell _ _ _ = w1 at *
    clear hc hf
    replace B : Box w1 (G + 1) (rgK.enc ⟨false, true, false⟩) _ := B
    have hc := B.cell 0 _ rfl
    have hf := B.free 0
    go_upto_region 26 with fail
    replace B := B.set 0 (.bool true)
    replace A := A.other n_A_B 0 (.bool true)
    replace hb := hb.setCell (p := ⟨G + 1, 0, none⟩) l_B (.bool true)
    generalize World.setCell _ _ _ = w2 at *
    clear hc hf
    replace B : Box w2 (G + 1) (rgK.enc ⟨true, true, false⟩) _ := B
    go_wp2_with (first | (guard_target =~ wpList _ _ _ (⟨some 32, _, _, _, _, _⟩ :: _) _ _; refine rgT.load (op := ⟨some 32, .load _ _, _, _, _, _⟩) (by rfl) _ (by rfl) (G + 1) 0 (by rfl) ((⟨true, true, false⟩ : Rg)) B.rangeK ?_) | (guard_target =~ wpList _ _ _ (⟨none, _, _, _, _, _⟩ :: _) _ _; refine rgT.store (op := ⟨none, .store _ _ _, _, _, _, _⟩) (by rfl) _ _ (by rfl) (G) ((⟨true, true, false⟩ : Rg)) (rg0) _ (by rfl) (by rfl) A ?_))
    exact bodyPost_ret (v := .agg (rgK.enc ⟨true, true, false⟩).toArray) (rgT.result rfl _ _ G _ _ rfl (A.rowK _)) rfl ⟨rfl, by first | exact hG ▸ below_setRow (hG ▸ hb) (Nat.le_refl _) _ | exact below_setRow hb (by omega) _⟩
  have b8198 : (id == 8198) = false := beq_false_of_ne h8198
  by_cases h8199 : id = 8199
  · subst h8199
    rw [show rgI 8199 = ⟨true, true, false⟩ by decide]
    have z0 := bnew w (Obj.cells (rgK.enc rg0).toArray 60)
    have A := Box.new w (rgK.enc rg0) 60
    have z1 := bnew (w.alloc (Obj.cells (rgK.enc rg0).toArray 60)) (Obj.cells (rgK.enc rg0).toArray 60)
    have B := Box.new (w.alloc (Obj.cells (rgK.enc rg0).toArray 60)) (rgK.enc rg0) 60
    replace A := A.below z1
    have hb := z0
    replace hb := bnext hb z1
    clear z0
    clear z1
    have s1 : (w.alloc (Obj.cells (rgK.enc rg0).toArray 60)).heap.size = w.heap.size + 1 := by simp
    rw [s1] at B
    go_enter Try.func23, Try.ntmps23
    go_upto_region 2 with fail
    change Code.wp Try.prog _ _ _ ((w.alloc (Obj.cells (rgK.enc rg0).toArray 60)).alloc (Obj.cells (rgK.enc rg0).toArray 60))
    generalize ((w.alloc (Obj.cells (rgK.enc rg0).toArray 60)).alloc (Obj.cells (rgK.enc rg0).toArray 60)) = W at *
    clear s1
    generalize hG : w.heap.size = G at *
    rw [← hG] at hb
    have l_A : w.heap.size ≤ G := by omega
    have l_B : w.heap.size ≤ G + 1 := by omega
    have n_A_B : G ≠ G + 1 := by omega
    have hc := B.cell 1 _ rfl
    have hf := B.free 1
    go_upto_region 24 with fail
    replace B := B.set 1 (.bool true)
    replace A := A.other n_A_B 1 (.bool true)
    replace hb := hb.setCell (p := ⟨G + 1, 1, none⟩) l_B (.bool true)
    generalize World.setCell _ _ _ = w1 at *
    clear hc hf
    replace B : Box w1 (G + 1) (rgK.enc ⟨false, true, false⟩) _ := B
    have hc := B.cell 0 _ rfl
    have hf := B.free 0
    go_upto_region 26 with fail
    replace B := B.set 0 (.bool true)
    replace A := A.other n_A_B 0 (.bool true)
    replace hb := hb.setCell (p := ⟨G + 1, 0, none⟩) l_B (.bool true)
    generalize World.setCell _ _ _ = w2 at *
    clear hc hf
    replace B : Box w2 (G + 1) (rgK.enc ⟨true, true, false⟩) _ := B
    go_wp2_with (first | (guard_target =~ wpList _ _ _ (⟨some 32, _, _, _, _, _⟩ :: _) _ _; refine rgT.load (op := ⟨some 32, .load _ _, _, _, _, _⟩) (by rfl) _ (by rfl) (G + 1) 0 (by rfl) ((⟨true, true, false⟩ : Rg)) B.rangeK ?_) | (guard_target =~ wpList _ _ _ (⟨none, _, _, _, _, _⟩ :: _) _ _; refine rgT.store (op := ⟨none, .store _ _ _, _, _, _, _⟩) (by rfl) _ _ (by rfl) (G) ((⟨true, true, false⟩ : Rg)) (rg0) _ (by rfl) (by rfl) A ?_))
    exact bodyPost_ret (v := .agg (rgK.enc ⟨true, true, false⟩).toArray) (rgT.result rfl _ _ G _ _ rfl (A.rowK _)) rfl ⟨rfl, by first | exact hG ▸ below_setRow (hG ▸ hb) (Nat.le_refl _) _ | exact below_setRow hb (by omega) _⟩
  have b8199 : (id == 8199) = false := beq_false_of_ne h8199
  by_cases h8200 : id = 8200
  · subst h8200
    rw [show rgI 8200 = ⟨true, true, false⟩ by decide]
    have z0 := bnew w (Obj.cells (rgK.enc rg0).toArray 60)
    have A := Box.new w (rgK.enc rg0) 60
    have z1 := bnew (w.alloc (Obj.cells (rgK.enc rg0).toArray 60)) (Obj.cells (rgK.enc rg0).toArray 60)
    have B := Box.new (w.alloc (Obj.cells (rgK.enc rg0).toArray 60)) (rgK.enc rg0) 60
    replace A := A.below z1
    have hb := z0
    replace hb := bnext hb z1
    clear z0
    clear z1
    have s1 : (w.alloc (Obj.cells (rgK.enc rg0).toArray 60)).heap.size = w.heap.size + 1 := by simp
    rw [s1] at B
    go_enter Try.func23, Try.ntmps23
    go_upto_region 2 with fail
    change Code.wp Try.prog _ _ _ ((w.alloc (Obj.cells (rgK.enc rg0).toArray 60)).alloc (Obj.cells (rgK.enc rg0).toArray 60))
    generalize ((w.alloc (Obj.cells (rgK.enc rg0).toArray 60)).alloc (Obj.cells (rgK.enc rg0).toArray 60)) = W at *
    clear s1
    generalize hG : w.heap.size = G at *
    rw [← hG] at hb
    have l_A : w.heap.size ≤ G := by omega
    have l_B : w.heap.size ≤ G + 1 := by omega
    have n_A_B : G ≠ G + 1 := by omega
    have hc := B.cell 1 _ rfl
    have hf := B.free 1
    go_upto_region 24 with fail
    replace B := B.set 1 (.bool true)
    replace A := A.other n_A_B 1 (.bool true)
    replace hb := hb.setCell (p := ⟨G + 1, 1, none⟩) l_B (.bool true)
    generalize World.setCell _ _ _ = w1 at *
    clear hc hf
    replace B : Box w1 (G + 1) (rgK.enc ⟨false, true, false⟩) _ := B
    have hc := B.cell 0 _ rfl
    have hf := B.free 0
    go_upto_region 26 with fail
    replace B := B.set 0 (.bool true)
    replace A := A.other n_A_B 0 (.bool true)
    replace hb := hb.setCell (p := ⟨G + 1, 0, none⟩) l_B (.bool true)
    generalize World.setCell _ _ _ = w2 at *
    clear hc hf
    replace B : Box w2 (G + 1) (rgK.enc ⟨true, true, false⟩) _ := B
    go_wp2_with (first | (guard_target =~ wpList _ _ _ (⟨some 32, _, _, _, _, _⟩ :: _) _ _; refine rgT.load (op := ⟨some 32, .load _ _, _, _, _, _⟩) (by rfl) _ (by rfl) (G + 1) 0 (by rfl) ((⟨true, true, false⟩ : Rg)) B.rangeK ?_) | (guard_target =~ wpList _ _ _ (⟨none, _, _, _, _, _⟩ :: _) _ _; refine rgT.store (op := ⟨none, .store _ _ _, _, _, _, _⟩) (by rfl) _ _ (by rfl) (G) ((⟨true, true, false⟩ : Rg)) (rg0) _ (by rfl) (by rfl) A ?_))
    exact bodyPost_ret (v := .agg (rgK.enc ⟨true, true, false⟩).toArray) (rgT.result rfl _ _ G _ _ rfl (A.rowK _)) rfl ⟨rfl, by first | exact hG ▸ below_setRow (hG ▸ hb) (Nat.le_refl _) _ | exact below_setRow hb (by omega) _⟩
  have b8200 : (id == 8200) = false := beq_false_of_ne h8200
  by_cases h8201 : id = 8201
  · subst h8201
    rw [show rgI 8201 = ⟨true, true, false⟩ by decide]
    have z0 := bnew w (Obj.cells (rgK.enc rg0).toArray 60)
    have A := Box.new w (rgK.enc rg0) 60
    have z1 := bnew (w.alloc (Obj.cells (rgK.enc rg0).toArray 60)) (Obj.cells (rgK.enc rg0).toArray 60)
    have B := Box.new (w.alloc (Obj.cells (rgK.enc rg0).toArray 60)) (rgK.enc rg0) 60
    replace A := A.below z1
    have hb := z0
    replace hb := bnext hb z1
    clear z0
    clear z1
    have s1 : (w.alloc (Obj.cells (rgK.enc rg0).toArray 60)).heap.size = w.heap.size + 1 := by simp
    rw [s1] at B
    go_enter Try.func23, Try.ntmps23
    go_upto_region 2 with fail
    change Code.wp Try.prog _ _ _ ((w.alloc (Obj.cells (rgK.enc rg0).toArray 60)).alloc (Obj.cells (rgK.enc rg0).toArray 60))
    generalize ((w.alloc (Obj.cells (rgK.enc rg0).toArray 60)).alloc (Obj.cells (rgK.enc rg0).toArray 60)) = W at *
    clear s1
    generalize hG : w.heap.size = G at *
    rw [← hG] at hb
    have l_A : w.heap.size ≤ G := by omega
    have l_B : w.heap.size ≤ G + 1 := by omega
    have n_A_B : G ≠ G + 1 := by omega
    have hc := B.cell 1 _ rfl
    have hf := B.free 1
    go_upto_region 24 with fail
    replace B := B.set 1 (.bool true)
    replace A := A.other n_A_B 1 (.bool true)
    replace hb := hb.setCell (p := ⟨G + 1, 1, none⟩) l_B (.bool true)
    generalize World.setCell _ _ _ = w1 at *
    clear hc hf
    replace B : Box w1 (G + 1) (rgK.enc ⟨false, true, false⟩) _ := B
    have hc := B.cell 0 _ rfl
    have hf := B.free 0
    go_upto_region 26 with fail
    replace B := B.set 0 (.bool true)
    replace A := A.other n_A_B 0 (.bool true)
    replace hb := hb.setCell (p := ⟨G + 1, 0, none⟩) l_B (.bool true)
    generalize World.setCell _ _ _ = w2 at *
    clear hc hf
    replace B : Box w2 (G + 1) (rgK.enc ⟨true, true, false⟩) _ := B
    go_wp2_with (first | (guard_target =~ wpList _ _ _ (⟨some 32, _, _, _, _, _⟩ :: _) _ _; refine rgT.load (op := ⟨some 32, .load _ _, _, _, _, _⟩) (by rfl) _ (by rfl) (G + 1) 0 (by rfl) ((⟨true, true, false⟩ : Rg)) B.rangeK ?_) | (guard_target =~ wpList _ _ _ (⟨none, _, _, _, _, _⟩ :: _) _ _; refine rgT.store (op := ⟨none, .store _ _ _, _, _, _, _⟩) (by rfl) _ _ (by rfl) (G) ((⟨true, true, false⟩ : Rg)) (rg0) _ (by rfl) (by rfl) A ?_))
    exact bodyPost_ret (v := .agg (rgK.enc ⟨true, true, false⟩).toArray) (rgT.result rfl _ _ G _ _ rfl (A.rowK _)) rfl ⟨rfl, by first | exact hG ▸ below_setRow (hG ▸ hb) (Nat.le_refl _) _ | exact below_setRow hb (by omega) _⟩
  have b8201 : (id == 8201) = false := beq_false_of_ne h8201
  by_cases h8202 : id = 8202
  · subst h8202
    rw [show rgI 8202 = ⟨true, true, false⟩ by decide]
    have z0 := bnew w (Obj.cells (rgK.enc rg0).toArray 60)
    have A := Box.new w (rgK.enc rg0) 60
    have z1 := bnew (w.alloc (Obj.cells (rgK.enc rg0).toArray 60)) (Obj.cells (rgK.enc rg0).toArray 60)
    have B := Box.new (w.alloc (Obj.cells (rgK.enc rg0).toArray 60)) (rgK.enc rg0) 60
    replace A := A.below z1
    have hb := z0
    replace hb := bnext hb z1
    clear z0
    clear z1
    have s1 : (w.alloc (Obj.cells (rgK.enc rg0).toArray 60)).heap.size = w.heap.size + 1 := by simp
    rw [s1] at B
    go_enter Try.func23, Try.ntmps23
    go_upto_region 2 with fail
    change Code.wp Try.prog _ _ _ ((w.alloc (Obj.cells (rgK.enc rg0).toArray 60)).alloc (Obj.cells (rgK.enc rg0).toArray 60))
    generalize ((w.alloc (Obj.cells (rgK.enc rg0).toArray 60)).alloc (Obj.cells (rgK.enc rg0).toArray 60)) = W at *
    clear s1
    generalize hG : w.heap.size = G at *
    rw [← hG] at hb
    have l_A : w.heap.size ≤ G := by omega
    have l_B : w.heap.size ≤ G + 1 := by omega
    have n_A_B : G ≠ G + 1 := by omega
    have hc := B.cell 1 _ rfl
    have hf := B.free 1
    go_upto_region 24 with fail
    replace B := B.set 1 (.bool true)
    replace A := A.other n_A_B 1 (.bool true)
    replace hb := hb.setCell (p := ⟨G + 1, 1, none⟩) l_B (.bool true)
    generalize World.setCell _ _ _ = w1 at *
    clear hc hf
    replace B : Box w1 (G + 1) (rgK.enc ⟨false, true, false⟩) _ := B
    have hc := B.cell 0 _ rfl
    have hf := B.free 0
    go_upto_region 26 with fail
    replace B := B.set 0 (.bool true)
    replace A := A.other n_A_B 0 (.bool true)
    replace hb := hb.setCell (p := ⟨G + 1, 0, none⟩) l_B (.bool true)
    generalize World.setCell _ _ _ = w2 at *
    clear hc hf
    replace B : Box w2 (G + 1) (rgK.enc ⟨true, true, false⟩) _ := B
    go_wp2_with (first | (guard_target =~ wpList _ _ _ (⟨some 32, _, _, _, _, _⟩ :: _) _ _; refine rgT.load (op := ⟨some 32, .load _ _, _, _, _, _⟩) (by rfl) _ (by rfl) (G + 1) 0 (by rfl) ((⟨true, true, false⟩ : Rg)) B.rangeK ?_) | (guard_target =~ wpList _ _ _ (⟨none, _, _, _, _, _⟩ :: _) _ _; refine rgT.store (op := ⟨none, .store _ _ _, _, _, _, _⟩) (by rfl) _ _ (by rfl) (G) ((⟨true, true, false⟩ : Rg)) (rg0) _ (by rfl) (by rfl) A ?_))
    exact bodyPost_ret (v := .agg (rgK.enc ⟨true, true, false⟩).toArray) (rgT.result rfl _ _ G _ _ rfl (A.rowK _)) rfl ⟨rfl, by first | exact hG ▸ below_setRow (hG ▸ hb) (Nat.le_refl _) _ | exact below_setRow hb (by omega) _⟩
  have b8202 : (id == 8202) = false := beq_false_of_ne h8202
  by_cases h8203 : id = 8203
  · subst h8203
    rw [show rgI 8203 = ⟨true, true, false⟩ by decide]
    have z0 := bnew w (Obj.cells (rgK.enc rg0).toArray 60)
    have A := Box.new w (rgK.enc rg0) 60
    have z1 := bnew (w.alloc (Obj.cells (rgK.enc rg0).toArray 60)) (Obj.cells (rgK.enc rg0).toArray 60)
    have B := Box.new (w.alloc (Obj.cells (rgK.enc rg0).toArray 60)) (rgK.enc rg0) 60
    replace A := A.below z1
    have hb := z0
    replace hb := bnext hb z1
    clear z0
    clear z1
    have s1 : (w.alloc (Obj.cells (rgK.enc rg0).toArray 60)).heap.size = w.heap.size + 1 := by simp
    rw [s1] at B
    go_enter Try.func23, Try.ntmps23
    go_upto_region 2 with fail
    change Code.wp Try.prog _ _ _ ((w.alloc (Obj.cells (rgK.enc rg0).toArray 60)).alloc (Obj.cells (rgK.enc rg0).toArray 60))
    generalize ((w.alloc (Obj.cells (rgK.enc rg0).toArray 60)).alloc (Obj.cells (rgK.enc rg0).toArray 60)) = W at *
    clear s1
    generalize hG : w.heap.size = G at *
    rw [← hG] at hb
    have l_A : w.heap.size ≤ G := by omega
    have l_B : w.heap.size ≤ G + 1 := by omega
    have n_A_B : G ≠ G + 1 := by omega
    have hc := B.cell 1 _ rfl
    have hf := B.free 1
    go_upto_region 24 with fail
    replace B := B.set 1 (.bool true)
    replace A := A.other n_A_B 1 (.bool true)
    replace hb := hb.setCell (p := ⟨G + 1, 1, none⟩) l_B (.bool true)
    generalize World.setCell _ _ _ = w1 at *
    clear hc hf
    replace B : Box w1 (G + 1) (rgK.enc ⟨false, true, false⟩) _ := B
    have hc := B.cell 0 _ rfl
    have hf := B.free 0
    go_upto_region 26 with fail
    replace B := B.set 0 (.bool true)
    replace A := A.other n_A_B 0 (.bool true)
    replace hb := hb.setCell (p := ⟨G + 1, 0, none⟩) l_B (.bool true)
    generalize World.setCell _ _ _ = w2 at *
    clear hc hf
    replace B : Box w2 (G + 1) (rgK.enc ⟨true, true, false⟩) _ := B
    go_wp2_with (first | (guard_target =~ wpList _ _ _ (⟨some 32, _, _, _, _, _⟩ :: _) _ _; refine rgT.load (op := ⟨some 32, .load _ _, _, _, _, _⟩) (by rfl) _ (by rfl) (G + 1) 0 (by rfl) ((⟨true, true, false⟩ : Rg)) B.rangeK ?_) | (guard_target =~ wpList _ _ _ (⟨none, _, _, _, _, _⟩ :: _) _ _; refine rgT.store (op := ⟨none, .store _ _ _, _, _, _, _⟩) (by rfl) _ _ (by rfl) (G) ((⟨true, true, false⟩ : Rg)) (rg0) _ (by rfl) (by rfl) A ?_))
    exact bodyPost_ret (v := .agg (rgK.enc ⟨true, true, false⟩).toArray) (rgT.result rfl _ _ G _ _ rfl (A.rowK _)) rfl ⟨rfl, by first | exact hG ▸ below_setRow (hG ▸ hb) (Nat.le_refl _) _ | exact below_setRow hb (by omega) _⟩
  have b8203 : (id == 8203) = false := beq_false_of_ne h8203
  by_cases h8204 : id = 8204
  · subst h8204
    rw [show rgI 8204 = ⟨true, false, false⟩ by decide]
    have z0 := bnew w (Obj.cells (rgK.enc rg0).toArray 60)
    have A := Box.new w (rgK.enc rg0) 60
    have z1 := bnew (w.alloc (Obj.cells (rgK.enc rg0).toArray 60)) (Obj.cells (rgK.enc rg0).toArray 60)
    have B := Box.new (w.alloc (Obj.cells (rgK.enc rg0).toArray 60)) (rgK.enc rg0) 60
    replace A := A.below z1
    have hb := z0
    replace hb := bnext hb z1
    clear z0
    clear z1
    have s1 : (w.alloc (Obj.cells (rgK.enc rg0).toArray 60)).heap.size = w.heap.size + 1 := by simp
    rw [s1] at B
    go_enter Try.func23, Try.ntmps23
    go_upto_region 2 with fail
    change Code.wp Try.prog _ _ _ ((w.alloc (Obj.cells (rgK.enc rg0).toArray 60)).alloc (Obj.cells (rgK.enc rg0).toArray 60))
    generalize ((w.alloc (Obj.cells (rgK.enc rg0).toArray 60)).alloc (Obj.cells (rgK.enc rg0).toArray 60)) = W at *
    clear s1
    generalize hG : w.heap.size = G at *
    rw [← hG] at hb
    have l_A : w.heap.size ≤ G := by omega
    have l_B : w.heap.size ≤ G + 1 := by omega
    have n_A_B : G ≠ G + 1 := by omega
    have hc := B.cell 0 _ rfl
    have hf := B.free 0
    go_upto_region 26 with fail
    replace B := B.set 0 (.bool true)
    replace A := A.other n_A_B 0 (.bool true)
    replace hb := hb.setCell (p := ⟨G + 1, 0, none⟩) l_B (.bool true)
    generalize World.setCell _ _ _ = w1 at *
    clear hc hf
    replace B : Box w1 (G + 1) (rgK.enc ⟨true, false, false⟩) _ := B
    go_wp2_with (first | (guard_target =~ wpList _ _ _ (⟨some 32, _, _, _, _, _⟩ :: _) _ _; refine rgT.load (op := ⟨some 32, .load _ _, _, _, _, _⟩) (by rfl) _ (by rfl) (G + 1) 0 (by rfl) ((⟨true, false, false⟩ : Rg)) B.rangeK ?_) | (guard_target =~ wpList _ _ _ (⟨none, _, _, _, _, _⟩ :: _) _ _; refine rgT.store (op := ⟨none, .store _ _ _, _, _, _, _⟩) (by rfl) _ _ (by rfl) (G) ((⟨true, false, false⟩ : Rg)) (rg0) _ (by rfl) (by rfl) A ?_))
    exact bodyPost_ret (v := .agg (rgK.enc ⟨true, false, false⟩).toArray) (rgT.result rfl _ _ G _ _ rfl (A.rowK _)) rfl ⟨rfl, by first | exact hG ▸ below_setRow (hG ▸ hb) (Nat.le_refl _) _ | exact below_setRow hb (by omega) _⟩
  have b8204 : (id == 8204) = false := beq_false_of_ne h8204
  by_cases h8205 : id = 8205
  · subst h8205
    rw [show rgI 8205 = ⟨false, false, true⟩ by decide]
    have z0 := bnew w (Obj.cells (rgK.enc rg0).toArray 60)
    have A := Box.new w (rgK.enc rg0) 60
    have z1 := bnew (w.alloc (Obj.cells (rgK.enc rg0).toArray 60)) (Obj.cells (rgK.enc rg0).toArray 60)
    have B := Box.new (w.alloc (Obj.cells (rgK.enc rg0).toArray 60)) (rgK.enc rg0) 60
    replace A := A.below z1
    have hb := z0
    replace hb := bnext hb z1
    clear z0
    clear z1
    have s1 : (w.alloc (Obj.cells (rgK.enc rg0).toArray 60)).heap.size = w.heap.size + 1 := by simp
    rw [s1] at B
    go_enter Try.func23, Try.ntmps23
    go_upto_region 2 with fail
    change Code.wp Try.prog _ _ _ ((w.alloc (Obj.cells (rgK.enc rg0).toArray 60)).alloc (Obj.cells (rgK.enc rg0).toArray 60))
    generalize ((w.alloc (Obj.cells (rgK.enc rg0).toArray 60)).alloc (Obj.cells (rgK.enc rg0).toArray 60)) = W at *
    clear s1
    generalize hG : w.heap.size = G at *
    rw [← hG] at hb
    have l_A : w.heap.size ≤ G := by omega
    have l_B : w.heap.size ≤ G + 1 := by omega
    have n_A_B : G ≠ G + 1 := by omega
    have hc := B.cell 2 _ rfl
    have hf := B.free 2
    go_upto_region 26 with fail
    replace B := B.set 2 (.bool true)
    replace A := A.other n_A_B 2 (.bool true)
    replace hb := hb.setCell (p := ⟨G + 1, 2, none⟩) l_B (.bool true)
    generalize World.setCell _ _ _ = w1 at *
    clear hc hf
    replace B : Box w1 (G + 1) (rgK.enc ⟨false, false, true⟩) _ := B
    go_wp2_with (first | (guard_target =~ wpList _ _ _ (⟨some 32, _, _, _, _, _⟩ :: _) _ _; refine rgT.load (op := ⟨some 32, .load _ _, _, _, _, _⟩) (by rfl) _ (by rfl) (G + 1) 0 (by rfl) ((⟨false, false, true⟩ : Rg)) B.rangeK ?_) | (guard_target =~ wpList _ _ _ (⟨none, _, _, _, _, _⟩ :: _) _ _; refine rgT.store (op := ⟨none, .store _ _ _, _, _, _, _⟩) (by rfl) _ _ (by rfl) (G) ((⟨false, false, true⟩ : Rg)) (rg0) _ (by rfl) (by rfl) A ?_))
    exact bodyPost_ret (v := .agg (rgK.enc ⟨false, false, true⟩).toArray) (rgT.result rfl _ _ G _ _ rfl (A.rowK _)) rfl ⟨rfl, by first | exact hG ▸ below_setRow (hG ▸ hb) (Nat.le_refl _) _ | exact below_setRow hb (by omega) _⟩
  have b8205 : (id == 8205) = false := beq_false_of_ne h8205
  by_cases h8206 : id = 8206
  · subst h8206
    rw [show rgI 8206 = ⟨false, false, true⟩ by decide]
    have z0 := bnew w (Obj.cells (rgK.enc rg0).toArray 60)
    have A := Box.new w (rgK.enc rg0) 60
    have z1 := bnew (w.alloc (Obj.cells (rgK.enc rg0).toArray 60)) (Obj.cells (rgK.enc rg0).toArray 60)
    have B := Box.new (w.alloc (Obj.cells (rgK.enc rg0).toArray 60)) (rgK.enc rg0) 60
    replace A := A.below z1
    have hb := z0
    replace hb := bnext hb z1
    clear z0
    clear z1
    have s1 : (w.alloc (Obj.cells (rgK.enc rg0).toArray 60)).heap.size = w.heap.size + 1 := by simp
    rw [s1] at B
    go_enter Try.func23, Try.ntmps23
    go_upto_region 2 with fail
    change Code.wp Try.prog _ _ _ ((w.alloc (Obj.cells (rgK.enc rg0).toArray 60)).alloc (Obj.cells (rgK.enc rg0).toArray 60))
    generalize ((w.alloc (Obj.cells (rgK.enc rg0).toArray 60)).alloc (Obj.cells (rgK.enc rg0).toArray 60)) = W at *
    clear s1
    generalize hG : w.heap.size = G at *
    rw [← hG] at hb
    have l_A : w.heap.size ≤ G := by omega
    have l_B : w.heap.size ≤ G + 1 := by omega
    have n_A_B : G ≠ G + 1 := by omega
    have hc := B.cell 2 _ rfl
    have hf := B.free 2
    go_upto_region 26 with fail
    replace B := B.set 2 (.bool true)
    replace A := A.other n_A_B 2 (.bool true)
    replace hb := hb.setCell (p := ⟨G + 1, 2, none⟩) l_B (.bool true)
    generalize World.setCell _ _ _ = w1 at *
    clear hc hf
    replace B : Box w1 (G + 1) (rgK.enc ⟨false, false, true⟩) _ := B
    go_wp2_with (first | (guard_target =~ wpList _ _ _ (⟨some 32, _, _, _, _, _⟩ :: _) _ _; refine rgT.load (op := ⟨some 32, .load _ _, _, _, _, _⟩) (by rfl) _ (by rfl) (G + 1) 0 (by rfl) ((⟨false, false, true⟩ : Rg)) B.rangeK ?_) | (guard_target =~ wpList _ _ _ (⟨none, _, _, _, _, _⟩ :: _) _ _; refine rgT.store (op := ⟨none, .store _ _ _, _, _, _, _⟩) (by rfl) _ _ (by rfl) (G) ((⟨false, false, true⟩ : Rg)) (rg0) _ (by rfl) (by rfl) A ?_))
    exact bodyPost_ret (v := .agg (rgK.enc ⟨false, false, true⟩).toArray) (rgT.result rfl _ _ G _ _ rfl (A.rowK _)) rfl ⟨rfl, by first | exact hG ▸ below_setRow (hG ▸ hb) (Nat.le_refl _) _ | exact below_setRow hb (by omega) _⟩
  have b8206 : (id == 8206) = false := beq_false_of_ne h8206
  by_cases h8207 : id = 8207
  · subst h8207
    rw [show rgI 8207 = ⟨true, false, false⟩ by decide]
    have z0 := bnew w (Obj.cells (rgK.enc rg0).toArray 60)
    have A := Box.new w (rgK.enc rg0) 60
    have z1 := bnew (w.alloc (Obj.cells (rgK.enc rg0).toArray 60)) (Obj.cells (rgK.enc rg0).toArray 60)
    have B := Box.new (w.alloc (Obj.cells (rgK.enc rg0).toArray 60)) (rgK.enc rg0) 60
    replace A := A.below z1
    have hb := z0
    replace hb := bnext hb z1
    clear z0
    clear z1
    have s1 : (w.alloc (Obj.cells (rgK.enc rg0).toArray 60)).heap.size = w.heap.size + 1 := by simp
    rw [s1] at B
    go_enter Try.func23, Try.ntmps23
    go_upto_region 2 with fail
    change Code.wp Try.prog _ _ _ ((w.alloc (Obj.cells (rgK.enc rg0).toArray 60)).alloc (Obj.cells (rgK.enc rg0).toArray 60))
    generalize ((w.alloc (Obj.cells (rgK.enc rg0).toArray 60)).alloc (Obj.cells (rgK.enc rg0).toArray 60)) = W at *
    clear s1
    generalize hG : w.heap.size = G at *
    rw [← hG] at hb
    have l_A : w.heap.size ≤ G := by omega
    have l_B : w.heap.size ≤ G + 1 := by omega
    have n_A_B : G ≠ G + 1 := by omega
    have hc := B.cell 0 _ rfl
    have hf := B.free 0
    go_upto_region 26 with fail
    replace B := B.set 0 (.bool true)
    replace A := A.other n_A_B 0 (.bool true)
    replace hb := hb.setCell (p := ⟨G + 1, 0, none⟩) l_B (.bool true)
    generalize World.setCell _ _ _ = w1 at *
    clear hc hf
    replace B : Box w1 (G + 1) (rgK.enc ⟨true, false, false⟩) _ := B
    go_wp2_with (first | (guard_target =~ wpList _ _ _ (⟨some 32, _, _, _, _, _⟩ :: _) _ _; refine rgT.load (op := ⟨some 32, .load _ _, _, _, _, _⟩) (by rfl) _ (by rfl) (G + 1) 0 (by rfl) ((⟨true, false, false⟩ : Rg)) B.rangeK ?_) | (guard_target =~ wpList _ _ _ (⟨none, _, _, _, _, _⟩ :: _) _ _; refine rgT.store (op := ⟨none, .store _ _ _, _, _, _, _⟩) (by rfl) _ _ (by rfl) (G) ((⟨true, false, false⟩ : Rg)) (rg0) _ (by rfl) (by rfl) A ?_))
    exact bodyPost_ret (v := .agg (rgK.enc ⟨true, false, false⟩).toArray) (rgT.result rfl _ _ G _ _ rfl (A.rowK _)) rfl ⟨rfl, by first | exact hG ▸ below_setRow (hG ▸ hb) (Nat.le_refl _) _ | exact below_setRow hb (by omega) _⟩
  have b8207 : (id == 8207) = false := beq_false_of_ne h8207
  by_cases h8208 : id = 8208
  · subst h8208
    rw [show rgI 8208 = ⟨true, true, false⟩ by decide]
    have z0 := bnew w (Obj.cells (rgK.enc rg0).toArray 60)
    have A := Box.new w (rgK.enc rg0) 60
    have z1 := bnew (w.alloc (Obj.cells (rgK.enc rg0).toArray 60)) (Obj.cells (rgK.enc rg0).toArray 60)
    have B := Box.new (w.alloc (Obj.cells (rgK.enc rg0).toArray 60)) (rgK.enc rg0) 60
    replace A := A.below z1
    have hb := z0
    replace hb := bnext hb z1
    clear z0
    clear z1
    have s1 : (w.alloc (Obj.cells (rgK.enc rg0).toArray 60)).heap.size = w.heap.size + 1 := by simp
    rw [s1] at B
    go_enter Try.func23, Try.ntmps23
    go_upto_region 2 with fail
    change Code.wp Try.prog _ _ _ ((w.alloc (Obj.cells (rgK.enc rg0).toArray 60)).alloc (Obj.cells (rgK.enc rg0).toArray 60))
    generalize ((w.alloc (Obj.cells (rgK.enc rg0).toArray 60)).alloc (Obj.cells (rgK.enc rg0).toArray 60)) = W at *
    clear s1
    generalize hG : w.heap.size = G at *
    rw [← hG] at hb
    have l_A : w.heap.size ≤ G := by omega
    have l_B : w.heap.size ≤ G + 1 := by omega
    have n_A_B : G ≠ G + 1 := by omega
    have hc := B.cell 1 _ rfl
    have hf := B.free 1
    go_upto_region 24 with fail
    replace B := B.set 1 (.bool true)
    replace A := A.other n_A_B 1 (.bool true)
    replace hb := hb.setCell (p := ⟨G + 1, 1, none⟩) l_B (.bool true)
    generalize World.setCell _ _ _ = w1 at *
    clear hc hf
    replace B : Box w1 (G + 1) (rgK.enc ⟨false, true, false⟩) _ := B
    have hc := B.cell 0 _ rfl
    have hf := B.free 0
    go_upto_region 26 with fail
    replace B := B.set 0 (.bool true)
    replace A := A.other n_A_B 0 (.bool true)
    replace hb := hb.setCell (p := ⟨G + 1, 0, none⟩) l_B (.bool true)
    generalize World.setCell _ _ _ = w2 at *
    clear hc hf
    replace B : Box w2 (G + 1) (rgK.enc ⟨true, true, false⟩) _ := B
    go_wp2_with (first | (guard_target =~ wpList _ _ _ (⟨some 32, _, _, _, _, _⟩ :: _) _ _; refine rgT.load (op := ⟨some 32, .load _ _, _, _, _, _⟩) (by rfl) _ (by rfl) (G + 1) 0 (by rfl) ((⟨true, true, false⟩ : Rg)) B.rangeK ?_) | (guard_target =~ wpList _ _ _ (⟨none, _, _, _, _, _⟩ :: _) _ _; refine rgT.store (op := ⟨none, .store _ _ _, _, _, _, _⟩) (by rfl) _ _ (by rfl) (G) ((⟨true, true, false⟩ : Rg)) (rg0) _ (by rfl) (by rfl) A ?_))
    exact bodyPost_ret (v := .agg (rgK.enc ⟨true, true, false⟩).toArray) (rgT.result rfl _ _ G _ _ rfl (A.rowK _)) rfl ⟨rfl, by first | exact hG ▸ below_setRow (hG ▸ hb) (Nat.le_refl _) _ | exact below_setRow hb (by omega) _⟩
  have b8208 : (id == 8208) = false := beq_false_of_ne h8208
  have e1 : rgI id = ⟨false, false, false⟩ := by
    have hs : sizeI id = -1 := by unfold sizeI; simp only [h0, h5, h8192, h8193, h8194, h8195, h8196, h8197, h8198, h8199, h8200, h8201, h8202, h8203, h8204, h8205, h8206, h8207, h8208, if_false, false_or, or_false]; rw [if_neg (by omega)]
    unfold rgI getB2 setB cmdB
    rw [hs]
    simp [h0, h5, h8192, h8193, h8194, h8195, h8196, h8197, h8198, h8199, h8200, h8201, h8202, h8203, h8204, h8205, h8206, h8207, h8208]
  rw [e1]
  clear h0 h5 h8192 h8193 h8194 h8195 h8196 h8197 h8198 h8199 h8200 h8201 h8202 h8203 h8204 h8205 h8206 h8207 h8208 e1
  have z0 := bnew w (Obj.cells (rgK.enc rg0).toArray 60)
  have A := Box.new w (rgK.enc rg0) 60
  have z1 := bnew (w.alloc (Obj.cells (rgK.enc rg0).toArray 60)) (Obj.cells (rgK.enc rg0).toArray 60)
  have B := Box.new (w.alloc (Obj.cells (rgK.enc rg0).toArray 60)) (rgK.enc rg0) 60
  replace A := A.below z1
  have hb := z0
  replace hb := bnext hb z1
  clear z0
  clear z1
  have s1 : (w.alloc (Obj.cells (rgK.enc rg0).toArray 60)).heap.size = w.heap.size + 1 := by simp
  rw [s1] at B
  go_enter Try.func23, Try.ntmps23
  go_upto_region 2 with fail
  change Code.wp Try.prog _ _ _ ((w.alloc (Obj.cells (rgK.enc rg0).toArray 60)).alloc (Obj.cells (rgK.enc rg0).toArray 60))
  generalize ((w.alloc (Obj.cells (rgK.enc rg0).toArray 60)).alloc (Obj.cells (rgK.enc rg0).toArray 60)) = W at *
  clear s1
  generalize hG : w.heap.size = G at *
  rw [← hG] at hb
  have l_A : w.heap.size ≤ G := by omega
  have l_B : w.heap.size ≤ G + 1 := by omega
  have n_A_B : G ≠ G + 1 := by omega
  go_wp2_with (first | (guard_target =~ wpList _ _ _ (⟨some 32, _, _, _, _, _⟩ :: _) _ _; refine rgT.load (op := ⟨some 32, .load _ _, _, _, _, _⟩) (by rfl) _ (by rfl) (G + 1) 0 (by rfl) ((⟨false, false, false⟩ : Rg)) B.rangeK ?_) | (guard_target =~ wpList _ _ _ (⟨none, _, _, _, _, _⟩ :: _) _ _; refine rgT.store (op := ⟨none, .store _ _ _, _, _, _, _⟩) (by rfl) _ _ (by rfl) (G) ((⟨false, false, false⟩ : Rg)) (rg0) _ (by rfl) (by rfl) A ?_))
  exact bodyPost_ret (v := .agg (rgK.enc ⟨false, false, false⟩).toArray) (rgT.result rfl _ _ G _ _ rfl (A.rowK _)) rfl ⟨rfl, by first | exact hG ▸ below_setRow (hG ▸ hb) (Nat.le_refl _) _ | exact below_setRow hb (by omega) _⟩

end Go.Proofs.Ytgjffmhlehcoiaa
