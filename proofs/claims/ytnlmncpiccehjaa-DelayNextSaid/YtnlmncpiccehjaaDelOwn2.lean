/- The program's own of chapter 17: Response, Answer (gen_delown.py). -/
import Derived.Test.YtnlmncpiccehjaaDelOwn
namespace Go.Proofs.Ytnlmncpiccehjaa
open Go.RowKit Go.Proofs
set_option maxRecDepth 50000
set_option linter.unusedVariables false
set_option linter.unusedSimpArgs false

set_option maxRecDepth 100000 in
set_option maxHeartbeats 8000000 in
theorem ownResp : CResp ExR := by
  rintro g x m w ⟨xs, hB, q, rfl, rfl, hq⟩ hm
  obtain ⟨me, dm, ⟨sq, out, went, ta⟩⟩ := q
  have HQ := hid hq
  have hgl := hB.lt
  have hb := bnew w (Obj.cells (msK.enc m).toArray 34)
  have hX := Box.new w (msK.enc m) 34
  replace hB := hB.below hb
  have ho := Only.of_below g hb
  have hne : g ≠ w.heap.size := by omega
  go_enter Try.func18, Try.ntmps18
  by_cases hty : m.1.ty = 9
  case neg =>
    have n0 : (m.1.ty != 9) = true := by simp [hty]
    have hno : respB (exOf ⟨me, dm, ⟨sq, out, went, ta⟩⟩) m = false := by unfold respB exOf; cases out <;> cases went <;> simp [hty]
    go_upto_region 1 with fail
    change Code.wp Try.prog _ _ _ (w.alloc (Obj.cells (msK.enc m).toArray 34))
    generalize w.alloc (Obj.cells (msK.enc m).toArray 34) = W at *
    generalize w.heap.size = gx at *
    refine wp_region_held_drew (S := fun w' => Below W.drew.heap.size W.drew w') (by kernel_rfl) (Below.refl _ _) ?_
    intro hHeld
    have hbd := Below.drew (Below.refl W.heap.size W)
    generalize W.drew = WD at *
    have c0 : ∀ wx, Below WD.heap.size WD wx → wx.cell? ⟨g, 0, none⟩ = some (.int .u64 me.1) := fun wx h => (hB.below (bnext hbd h)).cell 0 _ (by first | rfl | (rw [← ht0]; rfl))
    have c1 : ∀ wx, Below WD.heap.size WD wx → wx.cell? ⟨g, 1, none⟩ = some (.int .i64 me.2) := fun wx h => (hB.below (bnext hbd h)).cell 1 _ (by first | rfl | (rw [← ht1]; rfl))
    have c5 : ∀ wx, Below WD.heap.size WD wx → wx.cell? ⟨g, 5, none⟩ = some (.bool went) := fun wx h => (hB.below (bnext hbd h)).cell 5 _ rfl
    have c3 : ∀ wx, Below WD.heap.size WD wx → wx.cell? ⟨g, 3, none⟩ = some (.int .i64 sq) := fun wx h => (hB.below (bnext hbd h)).cell 3 _ (by first | rfl | (rw [← hsq]; rfl))
    have x0 : ∀ wx, Below WD.heap.size WD wx → wx.cell? ⟨gx, 0, none⟩ = some (.int .i64 m.1.ty) := fun wx h => (hX.below (bnext hbd h)).cell 0 _ (by first | rfl | (rw [← hty]; rfl))
    have x9 : ∀ wx, Below WD.heap.size WD wx → wx.cell? ⟨gx, 9, none⟩ = some (.int .u64 m.2.tc) := fun wx h => (hX.below (bnext hbd h)).cell 9 _ rfl
    have x10 : ∀ wx, Below WD.heap.size WD wx → wx.cell? ⟨gx, 10, none⟩ = some (.int .i64 m.2.tp) := fun wx h => (hX.below (bnext hbd h)).cell 10 _ rfl
    have x6 : ∀ wx, Below WD.heap.size WD wx → wx.cell? ⟨gx, 6, none⟩ = some (.int .i64 m.1.sq) := fun wx h => (hX.below (bnext hbd h)).cell 6 _ rfl
    refine rtake 0 rfl (by rfl) (by kernel_rfl) (by kernel_rfl) (by kernel_rfl) (fun _ _ _ h => h) hHeld (fun wx hwx => by go_simp; try with_reducible rfl) ?_
    try simp only [Act.put, List.setIfInBounds_toArray, List.set_cons_zero, List.set_cons_succ]
    refine rtake 1 rfl (by rfl) (by kernel_rfl) (by kernel_rfl) (by kernel_rfl) (fun _ _ _ h => h) hHeld (fun wx hwx => by go_simp; try with_reducible rfl) ?_
    try simp only [Act.put, List.setIfInBounds_toArray, List.set_cons_zero, List.set_cons_succ]
    refine rtake 2 rfl (by rfl) (by kernel_rfl) (by kernel_rfl) (by kernel_rfl) (fun _ _ _ h => h) hHeld (fun wx hwx => by go_simp; try with_reducible rfl) ?_
    try simp only [Act.put, List.setIfInBounds_toArray, List.set_cons_zero, List.set_cons_succ]
    refine rtake 3 rfl (by rfl) (by kernel_rfl) (by kernel_rfl) (by kernel_rfl) (fun _ _ _ h => h) hHeld (fun wx hwx => by go_simp; try with_reducible rfl) ?_
    try simp only [Act.put, List.setIfInBounds_toArray, List.set_cons_zero, List.set_cons_succ]
    refine rpass 4 rfl (by rfl) (by kernel_rfl) (by kernel_rfl) (by kernel_rfl) (fun _ _ _ h => h) hHeld ?_
    try simp only [Act.put, List.setIfInBounds_toArray, List.set_cons_zero, List.set_cons_succ]
    refine rpass 5 rfl (by rfl) (by kernel_rfl) (by kernel_rfl) (by kernel_rfl) (fun _ _ _ h => h) hHeld ?_
    try simp only [Act.put, List.setIfInBounds_toArray, List.set_cons_zero, List.set_cons_succ]
    refine rpass 6 rfl (by rfl) (by kernel_rfl) (by kernel_rfl) (by kernel_rfl) (fun _ _ _ h => h) hHeld ?_
    try simp only [Act.put, List.setIfInBounds_toArray, List.set_cons_zero, List.set_cons_succ]
    refine rpass 7 rfl (by rfl) (by kernel_rfl) (by kernel_rfl) (by kernel_rfl) (fun _ _ _ h => h) hHeld ?_
    try simp only [Act.put, List.setIfInBounds_toArray, List.set_cons_zero, List.set_cons_succ]
    refine rpass 8 rfl (by rfl) (by kernel_rfl) (by kernel_rfl) (by kernel_rfl) (fun _ _ _ h => h) hHeld ?_
    try simp only [Act.put, List.setIfInBounds_toArray, List.set_cons_zero, List.set_cons_succ]
    refine rpass 9 rfl (by rfl) (by kernel_rfl) (by kernel_rfl) (by kernel_rfl) (fun _ _ _ h => h) hHeld ?_
    try simp only [Act.put, List.setIfInBounds_toArray, List.set_cons_zero, List.set_cons_succ]
    refine rpass 10 rfl (by rfl) (by kernel_rfl) (by kernel_rfl) (by kernel_rfl) (fun _ _ _ h => h) hHeld ?_
    try simp only [Act.put, List.setIfInBounds_toArray, List.set_cons_zero, List.set_cons_succ]
    refine rtake 11 rfl (by rfl) (by kernel_rfl) (by kernel_rfl) (by kernel_rfl) (fun _ _ _ h => h) hHeld (fun wx hwx => by go_simp; try with_reducible rfl) ?_
    try simp only [Act.put, List.setIfInBounds_toArray, List.set_cons_zero, List.set_cons_succ]
    refine rtake 12 rfl (by rfl) (by kernel_rfl) (by kernel_rfl) (by kernel_rfl) (fun _ _ _ h => h) hHeld (fun wx hwx => by go_simp; try with_reducible rfl) ?_
    try simp only [Act.put, List.setIfInBounds_toArray, List.set_cons_zero, List.set_cons_succ]
    refine rpass 13 rfl (by rfl) (by kernel_rfl) (by kernel_rfl) (by kernel_rfl) (fun _ _ _ h => h) hHeld ?_
    try simp only [Act.put, List.setIfInBounds_toArray, List.set_cons_zero, List.set_cons_succ]
    refine rpass 14 rfl (by rfl) (by kernel_rfl) (by kernel_rfl) (by kernel_rfl) (fun _ _ _ h => h) hHeld ?_
    try simp only [Act.put, List.setIfInBounds_toArray, List.set_cons_zero, List.set_cons_succ]
    refine rpass 15 rfl (by rfl) (by kernel_rfl) (by kernel_rfl) (by kernel_rfl) (fun _ _ _ h => h) hHeld ?_
    try simp only [Act.put, List.setIfInBounds_toArray, List.set_cons_zero, List.set_cons_succ]
    refine rpass 16 rfl (by rfl) (by kernel_rfl) (by kernel_rfl) (by kernel_rfl) (fun _ _ _ h => h) hHeld ?_
    try simp only [Act.put, List.setIfInBounds_toArray, List.set_cons_zero, List.set_cons_succ]
    refine rpass 17 rfl (by rfl) (by kernel_rfl) (by kernel_rfl) (by kernel_rfl) (fun _ _ _ h => h) hHeld ?_
    try simp only [Act.put, List.setIfInBounds_toArray, List.set_cons_zero, List.set_cons_succ]
    refine rpass 18 rfl (by rfl) (by kernel_rfl) (by kernel_rfl) (by kernel_rfl) (fun _ _ _ h => h) hHeld ?_
    try simp only [Act.put, List.setIfInBounds_toArray, List.set_cons_zero, List.set_cons_succ]
    refine rtake 19 rfl (by rfl) (by kernel_rfl) (by kernel_rfl) (by kernel_rfl) (fun _ _ _ h => h) hHeld (fun wx hwx => by go_simp; try with_reducible rfl) ?_
    try simp only [Act.put, List.setIfInBounds_toArray, List.set_cons_zero, List.set_cons_succ]
    refine rtake 20 rfl (by rfl) (by kernel_rfl) (by kernel_rfl) (by kernel_rfl) (fun _ _ _ h => h) hHeld (fun wx hwx => by go_simp; try with_reducible rfl) ?_
    try simp only [Act.put, List.setIfInBounds_toArray, List.set_cons_zero, List.set_cons_succ]
    refine rpass 21 rfl (by rfl) (by kernel_rfl) (by kernel_rfl) (by kernel_rfl) (fun _ _ _ h => h) hHeld ?_
    try simp only [Act.put, List.setIfInBounds_toArray, List.set_cons_zero, List.set_cons_succ]
    refine rpass 22 rfl (by rfl) (by kernel_rfl) (by kernel_rfl) (by kernel_rfl) (fun _ _ _ h => h) hHeld ?_
    try simp only [Act.put, List.setIfInBounds_toArray, List.set_cons_zero, List.set_cons_succ]
    refine rpass 23 rfl (by rfl) (by kernel_rfl) (by kernel_rfl) (by kernel_rfl) (fun _ _ _ h => h) hHeld ?_
    try simp only [Act.put, List.setIfInBounds_toArray, List.set_cons_zero, List.set_cons_succ]
    refine rpass 24 rfl (by rfl) (by kernel_rfl) (by kernel_rfl) (by kernel_rfl) (fun _ _ _ h => h) hHeld ?_
    try simp only [Act.put, List.setIfInBounds_toArray, List.set_cons_zero, List.set_cons_succ]
    refine rpass 25 rfl (by rfl) (by kernel_rfl) (by kernel_rfl) (by kernel_rfl) (fun _ _ _ h => h) hHeld ?_
    try simp only [Act.put, List.setIfInBounds_toArray, List.set_cons_zero, List.set_cons_succ]
    refine rpass 26 rfl (by rfl) (by kernel_rfl) (by kernel_rfl) (by kernel_rfl) (fun _ _ _ h => h) hHeld ?_
    try simp only [Act.put, List.setIfInBounds_toArray, List.set_cons_zero, List.set_cons_succ]
    refine rpass 27 rfl (by rfl) (by kernel_rfl) (by kernel_rfl) (by kernel_rfl) (fun _ _ _ h => h) hHeld ?_
    try simp only [Act.put, List.setIfInBounds_toArray, List.set_cons_zero, List.set_cons_succ]
    refine rpass 28 rfl (by rfl) (by kernel_rfl) (by kernel_rfl) (by kernel_rfl) (fun _ _ _ h => h) hHeld ?_
    try simp only [Act.put, List.setIfInBounds_toArray, List.set_cons_zero, List.set_cons_succ]
    refine rtake 29 rfl (by rfl) (by kernel_rfl) (by kernel_rfl) (by kernel_rfl) (fun _ _ _ h => h) hHeld (fun wx hwx => by go_simp; try with_reducible rfl) ?_
    try simp only [Act.put, List.setIfInBounds_toArray, List.set_cons_zero, List.set_cons_succ]
    refine wpAnyH_done (by kernel_rfl) ?_ _
    replace hB := hB.below hbd
    replace hX := hX.below hbd
    replace ho := ho.next hbd
    clear hHeld hbd c0 c1 c3 c5 x0 x6 x9 x10
    have e2 : respD (exOf ⟨me, dm, ⟨sq, out, went, ta⟩⟩) m = 0 := resp_d hno
    have e3 : respS (exOf ⟨me, dm, ⟨sq, out, went, ta⟩⟩) m = exOf ⟨me, dm, ⟨sq, out, went, ta⟩⟩ := by unfold respS; rw [hno]; rfl
    replace e1 := hid hno
    replace e2 := hid e2
    replace e3 := hid e3
    clear hno
    go_wp2_with fail
    go_ret2
    exact ⟨by rw [e1.out, e2.out]; rfl, by rw [e3.out]; exact ⟨_, hB, _, rfl, rfl, HQ.out⟩, ho⟩
  by_cases ht0 : me.1 = m.2.tc
  case neg =>
    have n1 : (m.2.tc == me.1) = false := beq_false_of_ne (Ne.symm ht0)
    have hno : respB (exOf ⟨me, dm, ⟨sq, out, went, ta⟩⟩) m = false := by unfold respB exOf; cases out <;> cases went <;> simp [Ne.symm ht0]
    go_upto_region 1 with fail
    change Code.wp Try.prog _ _ _ (w.alloc (Obj.cells (msK.enc m).toArray 34))
    generalize w.alloc (Obj.cells (msK.enc m).toArray 34) = W at *
    generalize w.heap.size = gx at *
    refine wp_region_held_drew (S := fun w' => Below W.drew.heap.size W.drew w') (by kernel_rfl) (Below.refl _ _) ?_
    intro hHeld
    have hbd := Below.drew (Below.refl W.heap.size W)
    generalize W.drew = WD at *
    have c0 : ∀ wx, Below WD.heap.size WD wx → wx.cell? ⟨g, 0, none⟩ = some (.int .u64 me.1) := fun wx h => (hB.below (bnext hbd h)).cell 0 _ (by first | rfl | (rw [← ht0]; rfl))
    have c1 : ∀ wx, Below WD.heap.size WD wx → wx.cell? ⟨g, 1, none⟩ = some (.int .i64 me.2) := fun wx h => (hB.below (bnext hbd h)).cell 1 _ (by first | rfl | (rw [← ht1]; rfl))
    have c5 : ∀ wx, Below WD.heap.size WD wx → wx.cell? ⟨g, 5, none⟩ = some (.bool went) := fun wx h => (hB.below (bnext hbd h)).cell 5 _ rfl
    have c3 : ∀ wx, Below WD.heap.size WD wx → wx.cell? ⟨g, 3, none⟩ = some (.int .i64 sq) := fun wx h => (hB.below (bnext hbd h)).cell 3 _ (by first | rfl | (rw [← hsq]; rfl))
    have x0 : ∀ wx, Below WD.heap.size WD wx → wx.cell? ⟨gx, 0, none⟩ = some (.int .i64 9) := fun wx h => (hX.below (bnext hbd h)).cell 0 _ (by first | rfl | (rw [← hty]; rfl))
    have x9 : ∀ wx, Below WD.heap.size WD wx → wx.cell? ⟨gx, 9, none⟩ = some (.int .u64 m.2.tc) := fun wx h => (hX.below (bnext hbd h)).cell 9 _ rfl
    have x10 : ∀ wx, Below WD.heap.size WD wx → wx.cell? ⟨gx, 10, none⟩ = some (.int .i64 m.2.tp) := fun wx h => (hX.below (bnext hbd h)).cell 10 _ rfl
    have x6 : ∀ wx, Below WD.heap.size WD wx → wx.cell? ⟨gx, 6, none⟩ = some (.int .i64 m.1.sq) := fun wx h => (hX.below (bnext hbd h)).cell 6 _ rfl
    refine rtake 0 rfl (by rfl) (by kernel_rfl) (by kernel_rfl) (by kernel_rfl) (fun _ _ _ h => h) hHeld (fun wx hwx => by go_simp; try with_reducible rfl) ?_
    try simp only [Act.put, List.setIfInBounds_toArray, List.set_cons_zero, List.set_cons_succ]
    refine rtake 1 rfl (by rfl) (by kernel_rfl) (by kernel_rfl) (by kernel_rfl) (fun _ _ _ h => h) hHeld (fun wx hwx => by go_simp; try with_reducible rfl) ?_
    try simp only [Act.put, List.setIfInBounds_toArray, List.set_cons_zero, List.set_cons_succ]
    refine rtake 2 rfl (by rfl) (by kernel_rfl) (by kernel_rfl) (by kernel_rfl) (fun _ _ _ h => h) hHeld (fun wx hwx => by go_simp; try with_reducible rfl) ?_
    try simp only [Act.put, List.setIfInBounds_toArray, List.set_cons_zero, List.set_cons_succ]
    refine rtake 3 rfl (by rfl) (by kernel_rfl) (by kernel_rfl) (by kernel_rfl) (fun _ _ _ h => h) hHeld (fun wx hwx => by go_simp; try with_reducible rfl) ?_
    try simp only [Act.put, List.setIfInBounds_toArray, List.set_cons_zero, List.set_cons_succ]
    refine rtake 4 rfl (by rfl) (by kernel_rfl) (by kernel_rfl) (by kernel_rfl) (fun _ _ _ h => h) hHeld (fun wx hwx => by go_simp; try with_reducible rfl) ?_
    try simp only [Act.put, List.setIfInBounds_toArray, List.set_cons_zero, List.set_cons_succ]
    refine rtake 5 rfl (by rfl) (by kernel_rfl) (by kernel_rfl) (by kernel_rfl) (fun _ _ _ h => h) hHeld (fun wx hwx => by go_simp; try with_reducible rfl) ?_
    try simp only [Act.put, List.setIfInBounds_toArray, List.set_cons_zero, List.set_cons_succ]
    refine rtake 6 rfl (by rfl) (by kernel_rfl) (by kernel_rfl) (by kernel_rfl) (fun _ _ _ h => h) hHeld (fun wx hwx => by go_simp; try with_reducible rfl) ?_
    try simp only [Act.put, List.setIfInBounds_toArray, List.set_cons_zero, List.set_cons_succ]
    refine rtake 7 rfl (by rfl) (by kernel_rfl) (by kernel_rfl) (by kernel_rfl) (fun _ _ _ h => h) hHeld (fun wx hwx => by go_simp; try with_reducible rfl) ?_
    try simp only [Act.put, List.setIfInBounds_toArray, List.set_cons_zero, List.set_cons_succ]
    refine rtake 8 rfl (by rfl) (by kernel_rfl) (by kernel_rfl) (by kernel_rfl) (fun _ _ _ h => h) hHeld (fun wx hwx => by go_simp; try with_reducible rfl) ?_
    try simp only [Act.put, List.setIfInBounds_toArray, List.set_cons_zero, List.set_cons_succ]
    refine rtake 9 rfl (by rfl) (by kernel_rfl) (by kernel_rfl) (by kernel_rfl) (fun _ _ _ h => h) hHeld (fun wx hwx => by go_simp; try with_reducible rfl) ?_
    try simp only [Act.put, List.setIfInBounds_toArray, List.set_cons_zero, List.set_cons_succ]
    refine rtake 10 rfl (by rfl) (by kernel_rfl) (by kernel_rfl) (by kernel_rfl) (fun _ _ _ h => h) hHeld (fun wx hwx => by go_simp; try with_reducible rfl) ?_
    try simp only [Act.put, List.setIfInBounds_toArray, List.set_cons_zero, List.set_cons_succ]
    refine rtake 11 rfl (by rfl) (by kernel_rfl) (by kernel_rfl) (by kernel_rfl) (fun _ _ _ h => h) hHeld (fun wx hwx => by go_simp; try with_reducible rfl) ?_
    try simp only [Act.put, List.setIfInBounds_toArray, List.set_cons_zero, List.set_cons_succ]
    refine rtake 12 rfl (by rfl) (by kernel_rfl) (by kernel_rfl) (by kernel_rfl) (fun _ _ _ h => h) hHeld (fun wx hwx => by go_simp; try with_reducible rfl) ?_
    try simp only [Act.put, List.setIfInBounds_toArray, List.set_cons_zero, List.set_cons_succ]
    refine rpass 13 rfl (by rfl) (by kernel_rfl) (by kernel_rfl) (by kernel_rfl) (fun _ _ _ h => h) hHeld ?_
    try simp only [Act.put, List.setIfInBounds_toArray, List.set_cons_zero, List.set_cons_succ]
    refine rpass 14 rfl (by rfl) (by kernel_rfl) (by kernel_rfl) (by kernel_rfl) (fun _ _ _ h => h) hHeld ?_
    try simp only [Act.put, List.setIfInBounds_toArray, List.set_cons_zero, List.set_cons_succ]
    refine rpass 15 rfl (by rfl) (by kernel_rfl) (by kernel_rfl) (by kernel_rfl) (fun _ _ _ h => h) hHeld ?_
    try simp only [Act.put, List.setIfInBounds_toArray, List.set_cons_zero, List.set_cons_succ]
    refine rpass 16 rfl (by rfl) (by kernel_rfl) (by kernel_rfl) (by kernel_rfl) (fun _ _ _ h => h) hHeld ?_
    try simp only [Act.put, List.setIfInBounds_toArray, List.set_cons_zero, List.set_cons_succ]
    refine rpass 17 rfl (by rfl) (by kernel_rfl) (by kernel_rfl) (by kernel_rfl) (fun _ _ _ h => h) hHeld ?_
    try simp only [Act.put, List.setIfInBounds_toArray, List.set_cons_zero, List.set_cons_succ]
    refine rpass 18 rfl (by rfl) (by kernel_rfl) (by kernel_rfl) (by kernel_rfl) (fun _ _ _ h => h) hHeld ?_
    try simp only [Act.put, List.setIfInBounds_toArray, List.set_cons_zero, List.set_cons_succ]
    refine rtake 19 rfl (by rfl) (by kernel_rfl) (by kernel_rfl) (by kernel_rfl) (fun _ _ _ h => h) hHeld (fun wx hwx => by go_simp; try with_reducible rfl) ?_
    try simp only [Act.put, List.setIfInBounds_toArray, List.set_cons_zero, List.set_cons_succ]
    refine rtake 20 rfl (by rfl) (by kernel_rfl) (by kernel_rfl) (by kernel_rfl) (fun _ _ _ h => h) hHeld (fun wx hwx => by go_simp; try with_reducible rfl) ?_
    try simp only [Act.put, List.setIfInBounds_toArray, List.set_cons_zero, List.set_cons_succ]
    refine rpass 21 rfl (by rfl) (by kernel_rfl) (by kernel_rfl) (by kernel_rfl) (fun _ _ _ h => h) hHeld ?_
    try simp only [Act.put, List.setIfInBounds_toArray, List.set_cons_zero, List.set_cons_succ]
    refine rpass 22 rfl (by rfl) (by kernel_rfl) (by kernel_rfl) (by kernel_rfl) (fun _ _ _ h => h) hHeld ?_
    try simp only [Act.put, List.setIfInBounds_toArray, List.set_cons_zero, List.set_cons_succ]
    refine rpass 23 rfl (by rfl) (by kernel_rfl) (by kernel_rfl) (by kernel_rfl) (fun _ _ _ h => h) hHeld ?_
    try simp only [Act.put, List.setIfInBounds_toArray, List.set_cons_zero, List.set_cons_succ]
    refine rpass 24 rfl (by rfl) (by kernel_rfl) (by kernel_rfl) (by kernel_rfl) (fun _ _ _ h => h) hHeld ?_
    try simp only [Act.put, List.setIfInBounds_toArray, List.set_cons_zero, List.set_cons_succ]
    refine rpass 25 rfl (by rfl) (by kernel_rfl) (by kernel_rfl) (by kernel_rfl) (fun _ _ _ h => h) hHeld ?_
    try simp only [Act.put, List.setIfInBounds_toArray, List.set_cons_zero, List.set_cons_succ]
    refine rpass 26 rfl (by rfl) (by kernel_rfl) (by kernel_rfl) (by kernel_rfl) (fun _ _ _ h => h) hHeld ?_
    try simp only [Act.put, List.setIfInBounds_toArray, List.set_cons_zero, List.set_cons_succ]
    refine rpass 27 rfl (by rfl) (by kernel_rfl) (by kernel_rfl) (by kernel_rfl) (fun _ _ _ h => h) hHeld ?_
    try simp only [Act.put, List.setIfInBounds_toArray, List.set_cons_zero, List.set_cons_succ]
    refine rpass 28 rfl (by rfl) (by kernel_rfl) (by kernel_rfl) (by kernel_rfl) (fun _ _ _ h => h) hHeld ?_
    try simp only [Act.put, List.setIfInBounds_toArray, List.set_cons_zero, List.set_cons_succ]
    refine rtake 29 rfl (by rfl) (by kernel_rfl) (by kernel_rfl) (by kernel_rfl) (fun _ _ _ h => h) hHeld (fun wx hwx => by go_simp; try with_reducible rfl) ?_
    try simp only [Act.put, List.setIfInBounds_toArray, List.set_cons_zero, List.set_cons_succ]
    refine wpAnyH_done (by kernel_rfl) ?_ _
    replace hB := hB.below hbd
    replace hX := hX.below hbd
    replace ho := ho.next hbd
    clear hHeld hbd c0 c1 c3 c5 x0 x6 x9 x10
    have e2 : respD (exOf ⟨me, dm, ⟨sq, out, went, ta⟩⟩) m = 0 := resp_d hno
    have e3 : respS (exOf ⟨me, dm, ⟨sq, out, went, ta⟩⟩) m = exOf ⟨me, dm, ⟨sq, out, went, ta⟩⟩ := by unfold respS; rw [hno]; rfl
    replace e1 := hid hno
    replace e2 := hid e2
    replace e3 := hid e3
    clear hno
    go_wp2_with fail
    go_ret2
    exact ⟨by rw [e1.out, e2.out]; rfl, by rw [e3.out]; exact ⟨_, hB, _, rfl, rfl, HQ.out⟩, ho⟩
  by_cases ht1 : me.2 = m.2.tp
  case neg =>
    have n1 : (m.2.tp == me.2) = false := beq_false_of_ne (Ne.symm ht1)
    have hno : respB (exOf ⟨me, dm, ⟨sq, out, went, ta⟩⟩) m = false := by unfold respB exOf; cases out <;> cases went <;> simp [Ne.symm ht1]
    go_upto_region 1 with fail
    change Code.wp Try.prog _ _ _ (w.alloc (Obj.cells (msK.enc m).toArray 34))
    generalize w.alloc (Obj.cells (msK.enc m).toArray 34) = W at *
    generalize w.heap.size = gx at *
    refine wp_region_held_drew (S := fun w' => Below W.drew.heap.size W.drew w') (by kernel_rfl) (Below.refl _ _) ?_
    intro hHeld
    have hbd := Below.drew (Below.refl W.heap.size W)
    generalize W.drew = WD at *
    have c0 : ∀ wx, Below WD.heap.size WD wx → wx.cell? ⟨g, 0, none⟩ = some (.int .u64 m.2.tc) := fun wx h => (hB.below (bnext hbd h)).cell 0 _ (by first | rfl | (rw [← ht0]; rfl))
    have c1 : ∀ wx, Below WD.heap.size WD wx → wx.cell? ⟨g, 1, none⟩ = some (.int .i64 me.2) := fun wx h => (hB.below (bnext hbd h)).cell 1 _ (by first | rfl | (rw [← ht1]; rfl))
    have c5 : ∀ wx, Below WD.heap.size WD wx → wx.cell? ⟨g, 5, none⟩ = some (.bool went) := fun wx h => (hB.below (bnext hbd h)).cell 5 _ rfl
    have c3 : ∀ wx, Below WD.heap.size WD wx → wx.cell? ⟨g, 3, none⟩ = some (.int .i64 sq) := fun wx h => (hB.below (bnext hbd h)).cell 3 _ (by first | rfl | (rw [← hsq]; rfl))
    have x0 : ∀ wx, Below WD.heap.size WD wx → wx.cell? ⟨gx, 0, none⟩ = some (.int .i64 9) := fun wx h => (hX.below (bnext hbd h)).cell 0 _ (by first | rfl | (rw [← hty]; rfl))
    have x9 : ∀ wx, Below WD.heap.size WD wx → wx.cell? ⟨gx, 9, none⟩ = some (.int .u64 m.2.tc) := fun wx h => (hX.below (bnext hbd h)).cell 9 _ rfl
    have x10 : ∀ wx, Below WD.heap.size WD wx → wx.cell? ⟨gx, 10, none⟩ = some (.int .i64 m.2.tp) := fun wx h => (hX.below (bnext hbd h)).cell 10 _ rfl
    have x6 : ∀ wx, Below WD.heap.size WD wx → wx.cell? ⟨gx, 6, none⟩ = some (.int .i64 m.1.sq) := fun wx h => (hX.below (bnext hbd h)).cell 6 _ rfl
    refine rtake 0 rfl (by rfl) (by kernel_rfl) (by kernel_rfl) (by kernel_rfl) (fun _ _ _ h => h) hHeld (fun wx hwx => by go_simp; try with_reducible rfl) ?_
    try simp only [Act.put, List.setIfInBounds_toArray, List.set_cons_zero, List.set_cons_succ]
    refine rtake 1 rfl (by rfl) (by kernel_rfl) (by kernel_rfl) (by kernel_rfl) (fun _ _ _ h => h) hHeld (fun wx hwx => by go_simp; try with_reducible rfl) ?_
    try simp only [Act.put, List.setIfInBounds_toArray, List.set_cons_zero, List.set_cons_succ]
    refine rtake 2 rfl (by rfl) (by kernel_rfl) (by kernel_rfl) (by kernel_rfl) (fun _ _ _ h => h) hHeld (fun wx hwx => by go_simp; try with_reducible rfl) ?_
    try simp only [Act.put, List.setIfInBounds_toArray, List.set_cons_zero, List.set_cons_succ]
    refine rtake 3 rfl (by rfl) (by kernel_rfl) (by kernel_rfl) (by kernel_rfl) (fun _ _ _ h => h) hHeld (fun wx hwx => by go_simp; try with_reducible rfl) ?_
    try simp only [Act.put, List.setIfInBounds_toArray, List.set_cons_zero, List.set_cons_succ]
    refine rtake 4 rfl (by rfl) (by kernel_rfl) (by kernel_rfl) (by kernel_rfl) (fun _ _ _ h => h) hHeld (fun wx hwx => by go_simp; try with_reducible rfl) ?_
    try simp only [Act.put, List.setIfInBounds_toArray, List.set_cons_zero, List.set_cons_succ]
    refine rtake 5 rfl (by rfl) (by kernel_rfl) (by kernel_rfl) (by kernel_rfl) (fun _ _ _ h => h) hHeld (fun wx hwx => by go_simp; try with_reducible rfl) ?_
    try simp only [Act.put, List.setIfInBounds_toArray, List.set_cons_zero, List.set_cons_succ]
    refine rtake 6 rfl (by rfl) (by kernel_rfl) (by kernel_rfl) (by kernel_rfl) (fun _ _ _ h => h) hHeld (fun wx hwx => by go_simp; try with_reducible rfl) ?_
    try simp only [Act.put, List.setIfInBounds_toArray, List.set_cons_zero, List.set_cons_succ]
    refine rtake 7 rfl (by rfl) (by kernel_rfl) (by kernel_rfl) (by kernel_rfl) (fun _ _ _ h => h) hHeld (fun wx hwx => by go_simp; try with_reducible rfl) ?_
    try simp only [Act.put, List.setIfInBounds_toArray, List.set_cons_zero, List.set_cons_succ]
    refine rtake 8 rfl (by rfl) (by kernel_rfl) (by kernel_rfl) (by kernel_rfl) (fun _ _ _ h => h) hHeld (fun wx hwx => by go_simp; try with_reducible rfl) ?_
    try simp only [Act.put, List.setIfInBounds_toArray, List.set_cons_zero, List.set_cons_succ]
    refine rtake 9 rfl (by rfl) (by kernel_rfl) (by kernel_rfl) (by kernel_rfl) (fun _ _ _ h => h) hHeld (fun wx hwx => by go_simp; try with_reducible rfl) ?_
    try simp only [Act.put, List.setIfInBounds_toArray, List.set_cons_zero, List.set_cons_succ]
    refine rtake 10 rfl (by rfl) (by kernel_rfl) (by kernel_rfl) (by kernel_rfl) (fun _ _ _ h => h) hHeld (fun wx hwx => by go_simp; try with_reducible rfl) ?_
    try simp only [Act.put, List.setIfInBounds_toArray, List.set_cons_zero, List.set_cons_succ]
    refine rtake 11 rfl (by rfl) (by kernel_rfl) (by kernel_rfl) (by kernel_rfl) (fun _ _ _ h => h) hHeld (fun wx hwx => by go_simp; try with_reducible rfl) ?_
    try simp only [Act.put, List.setIfInBounds_toArray, List.set_cons_zero, List.set_cons_succ]
    refine rtake 12 rfl (by rfl) (by kernel_rfl) (by kernel_rfl) (by kernel_rfl) (fun _ _ _ h => h) hHeld (fun wx hwx => by go_simp; try with_reducible rfl) ?_
    try simp only [Act.put, List.setIfInBounds_toArray, List.set_cons_zero, List.set_cons_succ]
    refine rpass 13 rfl (by rfl) (by kernel_rfl) (by kernel_rfl) (by kernel_rfl) (fun _ _ _ h => h) hHeld ?_
    try simp only [Act.put, List.setIfInBounds_toArray, List.set_cons_zero, List.set_cons_succ]
    refine rpass 14 rfl (by rfl) (by kernel_rfl) (by kernel_rfl) (by kernel_rfl) (fun _ _ _ h => h) hHeld ?_
    try simp only [Act.put, List.setIfInBounds_toArray, List.set_cons_zero, List.set_cons_succ]
    refine rpass 15 rfl (by rfl) (by kernel_rfl) (by kernel_rfl) (by kernel_rfl) (fun _ _ _ h => h) hHeld ?_
    try simp only [Act.put, List.setIfInBounds_toArray, List.set_cons_zero, List.set_cons_succ]
    refine rpass 16 rfl (by rfl) (by kernel_rfl) (by kernel_rfl) (by kernel_rfl) (fun _ _ _ h => h) hHeld ?_
    try simp only [Act.put, List.setIfInBounds_toArray, List.set_cons_zero, List.set_cons_succ]
    refine rpass 17 rfl (by rfl) (by kernel_rfl) (by kernel_rfl) (by kernel_rfl) (fun _ _ _ h => h) hHeld ?_
    try simp only [Act.put, List.setIfInBounds_toArray, List.set_cons_zero, List.set_cons_succ]
    refine rpass 18 rfl (by rfl) (by kernel_rfl) (by kernel_rfl) (by kernel_rfl) (fun _ _ _ h => h) hHeld ?_
    try simp only [Act.put, List.setIfInBounds_toArray, List.set_cons_zero, List.set_cons_succ]
    refine rtake 19 rfl (by rfl) (by kernel_rfl) (by kernel_rfl) (by kernel_rfl) (fun _ _ _ h => h) hHeld (fun wx hwx => by go_simp; try with_reducible rfl) ?_
    try simp only [Act.put, List.setIfInBounds_toArray, List.set_cons_zero, List.set_cons_succ]
    refine rtake 20 rfl (by rfl) (by kernel_rfl) (by kernel_rfl) (by kernel_rfl) (fun _ _ _ h => h) hHeld (fun wx hwx => by go_simp; try with_reducible rfl) ?_
    try simp only [Act.put, List.setIfInBounds_toArray, List.set_cons_zero, List.set_cons_succ]
    refine rpass 21 rfl (by rfl) (by kernel_rfl) (by kernel_rfl) (by kernel_rfl) (fun _ _ _ h => h) hHeld ?_
    try simp only [Act.put, List.setIfInBounds_toArray, List.set_cons_zero, List.set_cons_succ]
    refine rpass 22 rfl (by rfl) (by kernel_rfl) (by kernel_rfl) (by kernel_rfl) (fun _ _ _ h => h) hHeld ?_
    try simp only [Act.put, List.setIfInBounds_toArray, List.set_cons_zero, List.set_cons_succ]
    refine rpass 23 rfl (by rfl) (by kernel_rfl) (by kernel_rfl) (by kernel_rfl) (fun _ _ _ h => h) hHeld ?_
    try simp only [Act.put, List.setIfInBounds_toArray, List.set_cons_zero, List.set_cons_succ]
    refine rpass 24 rfl (by rfl) (by kernel_rfl) (by kernel_rfl) (by kernel_rfl) (fun _ _ _ h => h) hHeld ?_
    try simp only [Act.put, List.setIfInBounds_toArray, List.set_cons_zero, List.set_cons_succ]
    refine rpass 25 rfl (by rfl) (by kernel_rfl) (by kernel_rfl) (by kernel_rfl) (fun _ _ _ h => h) hHeld ?_
    try simp only [Act.put, List.setIfInBounds_toArray, List.set_cons_zero, List.set_cons_succ]
    refine rpass 26 rfl (by rfl) (by kernel_rfl) (by kernel_rfl) (by kernel_rfl) (fun _ _ _ h => h) hHeld ?_
    try simp only [Act.put, List.setIfInBounds_toArray, List.set_cons_zero, List.set_cons_succ]
    refine rpass 27 rfl (by rfl) (by kernel_rfl) (by kernel_rfl) (by kernel_rfl) (fun _ _ _ h => h) hHeld ?_
    try simp only [Act.put, List.setIfInBounds_toArray, List.set_cons_zero, List.set_cons_succ]
    refine rpass 28 rfl (by rfl) (by kernel_rfl) (by kernel_rfl) (by kernel_rfl) (fun _ _ _ h => h) hHeld ?_
    try simp only [Act.put, List.setIfInBounds_toArray, List.set_cons_zero, List.set_cons_succ]
    refine rtake 29 rfl (by rfl) (by kernel_rfl) (by kernel_rfl) (by kernel_rfl) (fun _ _ _ h => h) hHeld (fun wx hwx => by go_simp; try with_reducible rfl) ?_
    try simp only [Act.put, List.setIfInBounds_toArray, List.set_cons_zero, List.set_cons_succ]
    refine wpAnyH_done (by kernel_rfl) ?_ _
    replace hB := hB.below hbd
    replace hX := hX.below hbd
    replace ho := ho.next hbd
    clear hHeld hbd c0 c1 c3 c5 x0 x6 x9 x10
    have e2 : respD (exOf ⟨me, dm, ⟨sq, out, went, ta⟩⟩) m = 0 := resp_d hno
    have e3 : respS (exOf ⟨me, dm, ⟨sq, out, went, ta⟩⟩) m = exOf ⟨me, dm, ⟨sq, out, went, ta⟩⟩ := by unfold respS; rw [hno]; rfl
    replace e1 := hid hno
    replace e2 := hid e2
    replace e3 := hid e3
    clear hno
    go_wp2_with fail
    go_ret2
    exact ⟨by rw [e1.out, e2.out]; rfl, by rw [e3.out]; exact ⟨_, hB, _, rfl, rfl, HQ.out⟩, ho⟩
  cases went
  case false =>
    have hno : respB (exOf ⟨me, dm, ⟨sq, out, false, ta⟩⟩) m = false := by unfold respB exOf; cases out <;> simp
    go_upto_region 1 with fail
    change Code.wp Try.prog _ _ _ (w.alloc (Obj.cells (msK.enc m).toArray 34))
    generalize w.alloc (Obj.cells (msK.enc m).toArray 34) = W at *
    generalize w.heap.size = gx at *
    refine wp_region_held_drew (S := fun w' => Below W.drew.heap.size W.drew w') (by kernel_rfl) (Below.refl _ _) ?_
    intro hHeld
    have hbd := Below.drew (Below.refl W.heap.size W)
    generalize W.drew = WD at *
    have c0 : ∀ wx, Below WD.heap.size WD wx → wx.cell? ⟨g, 0, none⟩ = some (.int .u64 m.2.tc) := fun wx h => (hB.below (bnext hbd h)).cell 0 _ (by first | rfl | (rw [← ht0]; rfl))
    have c1 : ∀ wx, Below WD.heap.size WD wx → wx.cell? ⟨g, 1, none⟩ = some (.int .i64 m.2.tp) := fun wx h => (hB.below (bnext hbd h)).cell 1 _ (by first | rfl | (rw [← ht1]; rfl))
    have c5 : ∀ wx, Below WD.heap.size WD wx → wx.cell? ⟨g, 5, none⟩ = some (.bool false) := fun wx h => (hB.below (bnext hbd h)).cell 5 _ rfl
    have c3 : ∀ wx, Below WD.heap.size WD wx → wx.cell? ⟨g, 3, none⟩ = some (.int .i64 sq) := fun wx h => (hB.below (bnext hbd h)).cell 3 _ (by first | rfl | (rw [← hsq]; rfl))
    have x0 : ∀ wx, Below WD.heap.size WD wx → wx.cell? ⟨gx, 0, none⟩ = some (.int .i64 9) := fun wx h => (hX.below (bnext hbd h)).cell 0 _ (by first | rfl | (rw [← hty]; rfl))
    have x9 : ∀ wx, Below WD.heap.size WD wx → wx.cell? ⟨gx, 9, none⟩ = some (.int .u64 m.2.tc) := fun wx h => (hX.below (bnext hbd h)).cell 9 _ rfl
    have x10 : ∀ wx, Below WD.heap.size WD wx → wx.cell? ⟨gx, 10, none⟩ = some (.int .i64 m.2.tp) := fun wx h => (hX.below (bnext hbd h)).cell 10 _ rfl
    have x6 : ∀ wx, Below WD.heap.size WD wx → wx.cell? ⟨gx, 6, none⟩ = some (.int .i64 m.1.sq) := fun wx h => (hX.below (bnext hbd h)).cell 6 _ rfl
    refine rtake 0 rfl (by rfl) (by kernel_rfl) (by kernel_rfl) (by kernel_rfl) (fun _ _ _ h => h) hHeld (fun wx hwx => by go_simp; try with_reducible rfl) ?_
    try simp only [Act.put, List.setIfInBounds_toArray, List.set_cons_zero, List.set_cons_succ]
    refine rtake 1 rfl (by rfl) (by kernel_rfl) (by kernel_rfl) (by kernel_rfl) (fun _ _ _ h => h) hHeld (fun wx hwx => by go_simp; try with_reducible rfl) ?_
    try simp only [Act.put, List.setIfInBounds_toArray, List.set_cons_zero, List.set_cons_succ]
    refine rtake 2 rfl (by rfl) (by kernel_rfl) (by kernel_rfl) (by kernel_rfl) (fun _ _ _ h => h) hHeld (fun wx hwx => by go_simp; try with_reducible rfl) ?_
    try simp only [Act.put, List.setIfInBounds_toArray, List.set_cons_zero, List.set_cons_succ]
    refine rtake 3 rfl (by rfl) (by kernel_rfl) (by kernel_rfl) (by kernel_rfl) (fun _ _ _ h => h) hHeld (fun wx hwx => by go_simp; try with_reducible rfl) ?_
    try simp only [Act.put, List.setIfInBounds_toArray, List.set_cons_zero, List.set_cons_succ]
    refine rtake 4 rfl (by rfl) (by kernel_rfl) (by kernel_rfl) (by kernel_rfl) (fun _ _ _ h => h) hHeld (fun wx hwx => by go_simp; try with_reducible rfl) ?_
    try simp only [Act.put, List.setIfInBounds_toArray, List.set_cons_zero, List.set_cons_succ]
    refine rtake 5 rfl (by rfl) (by kernel_rfl) (by kernel_rfl) (by kernel_rfl) (fun _ _ _ h => h) hHeld (fun wx hwx => by go_simp; try with_reducible rfl) ?_
    try simp only [Act.put, List.setIfInBounds_toArray, List.set_cons_zero, List.set_cons_succ]
    refine rtake 6 rfl (by rfl) (by kernel_rfl) (by kernel_rfl) (by kernel_rfl) (fun _ _ _ h => h) hHeld (fun wx hwx => by go_simp; try with_reducible rfl) ?_
    try simp only [Act.put, List.setIfInBounds_toArray, List.set_cons_zero, List.set_cons_succ]
    refine rtake 7 rfl (by rfl) (by kernel_rfl) (by kernel_rfl) (by kernel_rfl) (fun _ _ _ h => h) hHeld (fun wx hwx => by go_simp; try with_reducible rfl) ?_
    try simp only [Act.put, List.setIfInBounds_toArray, List.set_cons_zero, List.set_cons_succ]
    refine rtake 8 rfl (by rfl) (by kernel_rfl) (by kernel_rfl) (by kernel_rfl) (fun _ _ _ h => h) hHeld (fun wx hwx => by go_simp; try with_reducible rfl) ?_
    try simp only [Act.put, List.setIfInBounds_toArray, List.set_cons_zero, List.set_cons_succ]
    refine rtake 9 rfl (by rfl) (by kernel_rfl) (by kernel_rfl) (by kernel_rfl) (fun _ _ _ h => h) hHeld (fun wx hwx => by go_simp; try with_reducible rfl) ?_
    try simp only [Act.put, List.setIfInBounds_toArray, List.set_cons_zero, List.set_cons_succ]
    refine rtake 10 rfl (by rfl) (by kernel_rfl) (by kernel_rfl) (by kernel_rfl) (fun _ _ _ h => h) hHeld (fun wx hwx => by go_simp; try with_reducible rfl) ?_
    try simp only [Act.put, List.setIfInBounds_toArray, List.set_cons_zero, List.set_cons_succ]
    refine rtake 11 rfl (by rfl) (by kernel_rfl) (by kernel_rfl) (by kernel_rfl) (fun _ _ _ h => h) hHeld (fun wx hwx => by go_simp; try with_reducible rfl) ?_
    try simp only [Act.put, List.setIfInBounds_toArray, List.set_cons_zero, List.set_cons_succ]
    refine rtake 12 rfl (by rfl) (by kernel_rfl) (by kernel_rfl) (by kernel_rfl) (fun _ _ _ h => h) hHeld (fun wx hwx => by go_simp; try with_reducible rfl) ?_
    try simp only [Act.put, List.setIfInBounds_toArray, List.set_cons_zero, List.set_cons_succ]
    refine rtake 13 rfl (by rfl) (by kernel_rfl) (by kernel_rfl) (by kernel_rfl) (fun _ _ _ h => h) hHeld (fun wx hwx => by go_simp; try with_reducible rfl) ?_
    try simp only [Act.put, List.setIfInBounds_toArray, List.set_cons_zero, List.set_cons_succ]
    refine rtake 14 rfl (by rfl) (by kernel_rfl) (by kernel_rfl) (by kernel_rfl) (fun _ _ _ h => h) hHeld (fun wx hwx => by go_simp; try with_reducible rfl) ?_
    try simp only [Act.put, List.setIfInBounds_toArray, List.set_cons_zero, List.set_cons_succ]
    refine rtake 15 rfl (by rfl) (by kernel_rfl) (by kernel_rfl) (by kernel_rfl) (fun _ _ _ h => h) hHeld (fun wx hwx => by go_simp; try with_reducible rfl) ?_
    try simp only [Act.put, List.setIfInBounds_toArray, List.set_cons_zero, List.set_cons_succ]
    refine rtake 16 rfl (by rfl) (by kernel_rfl) (by kernel_rfl) (by kernel_rfl) (fun _ _ _ h => h) hHeld (fun wx hwx => by go_simp; try with_reducible rfl) ?_
    try simp only [Act.put, List.setIfInBounds_toArray, List.set_cons_zero, List.set_cons_succ]
    refine rtake 17 rfl (by rfl) (by kernel_rfl) (by kernel_rfl) (by kernel_rfl) (fun _ _ _ h => h) hHeld (fun wx hwx => by go_simp; try with_reducible rfl) ?_
    try simp only [Act.put, List.setIfInBounds_toArray, List.set_cons_zero, List.set_cons_succ]
    refine rtake 18 rfl (by rfl) (by kernel_rfl) (by kernel_rfl) (by kernel_rfl) (fun _ _ _ h => h) hHeld (fun wx hwx => by go_simp; try with_reducible rfl) ?_
    try simp only [Act.put, List.setIfInBounds_toArray, List.set_cons_zero, List.set_cons_succ]
    refine rtake 19 rfl (by rfl) (by kernel_rfl) (by kernel_rfl) (by kernel_rfl) (fun _ _ _ h => h) hHeld (fun wx hwx => by go_simp; try with_reducible rfl) ?_
    try simp only [Act.put, List.setIfInBounds_toArray, List.set_cons_zero, List.set_cons_succ]
    refine rtake 20 rfl (by rfl) (by kernel_rfl) (by kernel_rfl) (by kernel_rfl) (fun _ _ _ h => h) hHeld (fun wx hwx => by go_simp; try with_reducible rfl) ?_
    try simp only [Act.put, List.setIfInBounds_toArray, List.set_cons_zero, List.set_cons_succ]
    refine rpass 21 rfl (by rfl) (by kernel_rfl) (by kernel_rfl) (by kernel_rfl) (fun _ _ _ h => h) hHeld ?_
    try simp only [Act.put, List.setIfInBounds_toArray, List.set_cons_zero, List.set_cons_succ]
    refine rpass 22 rfl (by rfl) (by kernel_rfl) (by kernel_rfl) (by kernel_rfl) (fun _ _ _ h => h) hHeld ?_
    try simp only [Act.put, List.setIfInBounds_toArray, List.set_cons_zero, List.set_cons_succ]
    refine rpass 23 rfl (by rfl) (by kernel_rfl) (by kernel_rfl) (by kernel_rfl) (fun _ _ _ h => h) hHeld ?_
    try simp only [Act.put, List.setIfInBounds_toArray, List.set_cons_zero, List.set_cons_succ]
    refine rpass 24 rfl (by rfl) (by kernel_rfl) (by kernel_rfl) (by kernel_rfl) (fun _ _ _ h => h) hHeld ?_
    try simp only [Act.put, List.setIfInBounds_toArray, List.set_cons_zero, List.set_cons_succ]
    refine rpass 25 rfl (by rfl) (by kernel_rfl) (by kernel_rfl) (by kernel_rfl) (fun _ _ _ h => h) hHeld ?_
    try simp only [Act.put, List.setIfInBounds_toArray, List.set_cons_zero, List.set_cons_succ]
    refine rpass 26 rfl (by rfl) (by kernel_rfl) (by kernel_rfl) (by kernel_rfl) (fun _ _ _ h => h) hHeld ?_
    try simp only [Act.put, List.setIfInBounds_toArray, List.set_cons_zero, List.set_cons_succ]
    refine rpass 27 rfl (by rfl) (by kernel_rfl) (by kernel_rfl) (by kernel_rfl) (fun _ _ _ h => h) hHeld ?_
    try simp only [Act.put, List.setIfInBounds_toArray, List.set_cons_zero, List.set_cons_succ]
    refine rpass 28 rfl (by rfl) (by kernel_rfl) (by kernel_rfl) (by kernel_rfl) (fun _ _ _ h => h) hHeld ?_
    try simp only [Act.put, List.setIfInBounds_toArray, List.set_cons_zero, List.set_cons_succ]
    refine rtake 29 rfl (by rfl) (by kernel_rfl) (by kernel_rfl) (by kernel_rfl) (fun _ _ _ h => h) hHeld (fun wx hwx => by go_simp; try with_reducible rfl) ?_
    try simp only [Act.put, List.setIfInBounds_toArray, List.set_cons_zero, List.set_cons_succ]
    refine wpAnyH_done (by kernel_rfl) ?_ _
    replace hB := hB.below hbd
    replace hX := hX.below hbd
    replace ho := ho.next hbd
    clear hHeld hbd c0 c1 c3 c5 x0 x6 x9 x10
    have e2 : respD (exOf ⟨me, dm, ⟨sq, out, false, ta⟩⟩) m = 0 := resp_d hno
    have e3 : respS (exOf ⟨me, dm, ⟨sq, out, false, ta⟩⟩) m = exOf ⟨me, dm, ⟨sq, out, false, ta⟩⟩ := by unfold respS; rw [hno]; rfl
    replace e1 := hid hno
    replace e2 := hid e2
    replace e3 := hid e3
    clear hno
    go_wp2_with fail
    go_ret2
    exact ⟨by rw [e1.out, e2.out]; rfl, by rw [e3.out]; exact ⟨_, hB, _, rfl, rfl, HQ.out⟩, ho⟩
  obtain rfl : out = true := hq.1 rfl
  by_cases hsq : sq = m.1.sq
  case neg =>
    have n1 : (m.1.sq != sq) = true := by simp [Ne.symm hsq]
    have hno : respB (exOf ⟨me, dm, ⟨sq, true, true, ta⟩⟩) m = false := by unfold respB exOf; simp [Ne.symm hsq]
    go_upto_region 1 with fail
    change Code.wp Try.prog _ _ _ (w.alloc (Obj.cells (msK.enc m).toArray 34))
    generalize w.alloc (Obj.cells (msK.enc m).toArray 34) = W at *
    generalize w.heap.size = gx at *
    refine wp_region_held_drew (S := fun w' => Below W.drew.heap.size W.drew w') (by kernel_rfl) (Below.refl _ _) ?_
    intro hHeld
    have hbd := Below.drew (Below.refl W.heap.size W)
    generalize W.drew = WD at *
    have c0 : ∀ wx, Below WD.heap.size WD wx → wx.cell? ⟨g, 0, none⟩ = some (.int .u64 m.2.tc) := fun wx h => (hB.below (bnext hbd h)).cell 0 _ (by first | rfl | (rw [← ht0]; rfl))
    have c1 : ∀ wx, Below WD.heap.size WD wx → wx.cell? ⟨g, 1, none⟩ = some (.int .i64 m.2.tp) := fun wx h => (hB.below (bnext hbd h)).cell 1 _ (by first | rfl | (rw [← ht1]; rfl))
    have c5 : ∀ wx, Below WD.heap.size WD wx → wx.cell? ⟨g, 5, none⟩ = some (.bool true) := fun wx h => (hB.below (bnext hbd h)).cell 5 _ rfl
    have c3 : ∀ wx, Below WD.heap.size WD wx → wx.cell? ⟨g, 3, none⟩ = some (.int .i64 sq) := fun wx h => (hB.below (bnext hbd h)).cell 3 _ (by first | rfl | (rw [← hsq]; rfl))
    have x0 : ∀ wx, Below WD.heap.size WD wx → wx.cell? ⟨gx, 0, none⟩ = some (.int .i64 9) := fun wx h => (hX.below (bnext hbd h)).cell 0 _ (by first | rfl | (rw [← hty]; rfl))
    have x9 : ∀ wx, Below WD.heap.size WD wx → wx.cell? ⟨gx, 9, none⟩ = some (.int .u64 m.2.tc) := fun wx h => (hX.below (bnext hbd h)).cell 9 _ rfl
    have x10 : ∀ wx, Below WD.heap.size WD wx → wx.cell? ⟨gx, 10, none⟩ = some (.int .i64 m.2.tp) := fun wx h => (hX.below (bnext hbd h)).cell 10 _ rfl
    have x6 : ∀ wx, Below WD.heap.size WD wx → wx.cell? ⟨gx, 6, none⟩ = some (.int .i64 m.1.sq) := fun wx h => (hX.below (bnext hbd h)).cell 6 _ rfl
    refine rtake 0 rfl (by rfl) (by kernel_rfl) (by kernel_rfl) (by kernel_rfl) (fun _ _ _ h => h) hHeld (fun wx hwx => by go_simp; try with_reducible rfl) ?_
    try simp only [Act.put, List.setIfInBounds_toArray, List.set_cons_zero, List.set_cons_succ]
    refine rtake 1 rfl (by rfl) (by kernel_rfl) (by kernel_rfl) (by kernel_rfl) (fun _ _ _ h => h) hHeld (fun wx hwx => by go_simp; try with_reducible rfl) ?_
    try simp only [Act.put, List.setIfInBounds_toArray, List.set_cons_zero, List.set_cons_succ]
    refine rtake 2 rfl (by rfl) (by kernel_rfl) (by kernel_rfl) (by kernel_rfl) (fun _ _ _ h => h) hHeld (fun wx hwx => by go_simp; try with_reducible rfl) ?_
    try simp only [Act.put, List.setIfInBounds_toArray, List.set_cons_zero, List.set_cons_succ]
    refine rtake 3 rfl (by rfl) (by kernel_rfl) (by kernel_rfl) (by kernel_rfl) (fun _ _ _ h => h) hHeld (fun wx hwx => by go_simp; try with_reducible rfl) ?_
    try simp only [Act.put, List.setIfInBounds_toArray, List.set_cons_zero, List.set_cons_succ]
    refine rtake 4 rfl (by rfl) (by kernel_rfl) (by kernel_rfl) (by kernel_rfl) (fun _ _ _ h => h) hHeld (fun wx hwx => by go_simp; try with_reducible rfl) ?_
    try simp only [Act.put, List.setIfInBounds_toArray, List.set_cons_zero, List.set_cons_succ]
    refine rtake 5 rfl (by rfl) (by kernel_rfl) (by kernel_rfl) (by kernel_rfl) (fun _ _ _ h => h) hHeld (fun wx hwx => by go_simp; try with_reducible rfl) ?_
    try simp only [Act.put, List.setIfInBounds_toArray, List.set_cons_zero, List.set_cons_succ]
    refine rtake 6 rfl (by rfl) (by kernel_rfl) (by kernel_rfl) (by kernel_rfl) (fun _ _ _ h => h) hHeld (fun wx hwx => by go_simp; try with_reducible rfl) ?_
    try simp only [Act.put, List.setIfInBounds_toArray, List.set_cons_zero, List.set_cons_succ]
    refine rtake 7 rfl (by rfl) (by kernel_rfl) (by kernel_rfl) (by kernel_rfl) (fun _ _ _ h => h) hHeld (fun wx hwx => by go_simp; try with_reducible rfl) ?_
    try simp only [Act.put, List.setIfInBounds_toArray, List.set_cons_zero, List.set_cons_succ]
    refine rtake 8 rfl (by rfl) (by kernel_rfl) (by kernel_rfl) (by kernel_rfl) (fun _ _ _ h => h) hHeld (fun wx hwx => by go_simp; try with_reducible rfl) ?_
    try simp only [Act.put, List.setIfInBounds_toArray, List.set_cons_zero, List.set_cons_succ]
    refine rtake 9 rfl (by rfl) (by kernel_rfl) (by kernel_rfl) (by kernel_rfl) (fun _ _ _ h => h) hHeld (fun wx hwx => by go_simp; try with_reducible rfl) ?_
    try simp only [Act.put, List.setIfInBounds_toArray, List.set_cons_zero, List.set_cons_succ]
    refine rtake 10 rfl (by rfl) (by kernel_rfl) (by kernel_rfl) (by kernel_rfl) (fun _ _ _ h => h) hHeld (fun wx hwx => by go_simp; try with_reducible rfl) ?_
    try simp only [Act.put, List.setIfInBounds_toArray, List.set_cons_zero, List.set_cons_succ]
    refine rtake 11 rfl (by rfl) (by kernel_rfl) (by kernel_rfl) (by kernel_rfl) (fun _ _ _ h => h) hHeld (fun wx hwx => by go_simp; try with_reducible rfl) ?_
    try simp only [Act.put, List.setIfInBounds_toArray, List.set_cons_zero, List.set_cons_succ]
    refine rtake 12 rfl (by rfl) (by kernel_rfl) (by kernel_rfl) (by kernel_rfl) (fun _ _ _ h => h) hHeld (fun wx hwx => by go_simp; try with_reducible rfl) ?_
    try simp only [Act.put, List.setIfInBounds_toArray, List.set_cons_zero, List.set_cons_succ]
    refine rtake 13 rfl (by rfl) (by kernel_rfl) (by kernel_rfl) (by kernel_rfl) (fun _ _ _ h => h) hHeld (fun wx hwx => by go_simp; try with_reducible rfl) ?_
    try simp only [Act.put, List.setIfInBounds_toArray, List.set_cons_zero, List.set_cons_succ]
    refine rtake 14 rfl (by rfl) (by kernel_rfl) (by kernel_rfl) (by kernel_rfl) (fun _ _ _ h => h) hHeld (fun wx hwx => by go_simp; try with_reducible rfl) ?_
    try simp only [Act.put, List.setIfInBounds_toArray, List.set_cons_zero, List.set_cons_succ]
    refine rtake 15 rfl (by rfl) (by kernel_rfl) (by kernel_rfl) (by kernel_rfl) (fun _ _ _ h => h) hHeld (fun wx hwx => by go_simp; try with_reducible rfl) ?_
    try simp only [Act.put, List.setIfInBounds_toArray, List.set_cons_zero, List.set_cons_succ]
    refine rtake 16 rfl (by rfl) (by kernel_rfl) (by kernel_rfl) (by kernel_rfl) (fun _ _ _ h => h) hHeld (fun wx hwx => by go_simp; try with_reducible rfl) ?_
    try simp only [Act.put, List.setIfInBounds_toArray, List.set_cons_zero, List.set_cons_succ]
    refine rtake 17 rfl (by rfl) (by kernel_rfl) (by kernel_rfl) (by kernel_rfl) (fun _ _ _ h => h) hHeld (fun wx hwx => by go_simp; try with_reducible rfl) ?_
    try simp only [Act.put, List.setIfInBounds_toArray, List.set_cons_zero, List.set_cons_succ]
    refine rtake 18 rfl (by rfl) (by kernel_rfl) (by kernel_rfl) (by kernel_rfl) (fun _ _ _ h => h) hHeld (fun wx hwx => by go_simp; try with_reducible rfl) ?_
    try simp only [Act.put, List.setIfInBounds_toArray, List.set_cons_zero, List.set_cons_succ]
    refine rtake 19 rfl (by rfl) (by kernel_rfl) (by kernel_rfl) (by kernel_rfl) (fun _ _ _ h => h) hHeld (fun wx hwx => by go_simp; try with_reducible rfl) ?_
    try simp only [Act.put, List.setIfInBounds_toArray, List.set_cons_zero, List.set_cons_succ]
    refine rtake 20 rfl (by rfl) (by kernel_rfl) (by kernel_rfl) (by kernel_rfl) (fun _ _ _ h => h) hHeld (fun wx hwx => by go_simp; try with_reducible rfl) ?_
    try simp only [Act.put, List.setIfInBounds_toArray, List.set_cons_zero, List.set_cons_succ]
    refine rtake 21 rfl (by rfl) (by kernel_rfl) (by kernel_rfl) (by kernel_rfl) (fun _ _ _ h => h) hHeld (fun wx hwx => by go_simp; try with_reducible rfl) ?_
    try simp only [Act.put, List.setIfInBounds_toArray, List.set_cons_zero, List.set_cons_succ]
    refine rtake 22 rfl (by rfl) (by kernel_rfl) (by kernel_rfl) (by kernel_rfl) (fun _ _ _ h => h) hHeld (fun wx hwx => by go_simp; try with_reducible rfl) ?_
    try simp only [Act.put, List.setIfInBounds_toArray, List.set_cons_zero, List.set_cons_succ]
    refine rtake 23 rfl (by rfl) (by kernel_rfl) (by kernel_rfl) (by kernel_rfl) (fun _ _ _ h => h) hHeld (fun wx hwx => by go_simp; try with_reducible rfl) ?_
    try simp only [Act.put, List.setIfInBounds_toArray, List.set_cons_zero, List.set_cons_succ]
    refine rtake 24 rfl (by rfl) (by kernel_rfl) (by kernel_rfl) (by kernel_rfl) (fun _ _ _ h => h) hHeld (fun wx hwx => by go_simp; try with_reducible rfl) ?_
    try simp only [Act.put, List.setIfInBounds_toArray, List.set_cons_zero, List.set_cons_succ]
    refine rtake 25 rfl (by rfl) (by kernel_rfl) (by kernel_rfl) (by kernel_rfl) (fun _ _ _ h => h) hHeld (fun wx hwx => by go_simp; try with_reducible rfl) ?_
    try simp only [Act.put, List.setIfInBounds_toArray, List.set_cons_zero, List.set_cons_succ]
    refine rtake 26 rfl (by rfl) (by kernel_rfl) (by kernel_rfl) (by kernel_rfl) (fun _ _ _ h => h) hHeld (fun wx hwx => by go_simp; try with_reducible rfl) ?_
    try simp only [Act.put, List.setIfInBounds_toArray, List.set_cons_zero, List.set_cons_succ]
    refine rtake 27 rfl (by rfl) (by kernel_rfl) (by kernel_rfl) (by kernel_rfl) (fun _ _ _ h => h) hHeld (fun wx hwx => by go_simp; try with_reducible rfl) ?_
    try simp only [Act.put, List.setIfInBounds_toArray, List.set_cons_zero, List.set_cons_succ]
    refine rtake 28 rfl (by rfl) (by kernel_rfl) (by kernel_rfl) (by kernel_rfl) (fun _ _ _ h => h) hHeld (fun wx hwx => by go_simp; try with_reducible rfl) ?_
    try simp only [Act.put, List.setIfInBounds_toArray, List.set_cons_zero, List.set_cons_succ]
    refine rtake 29 rfl (by rfl) (by kernel_rfl) (by kernel_rfl) (by kernel_rfl) (fun _ _ _ h => h) hHeld (fun wx hwx => by go_simp; try with_reducible rfl) ?_
    try simp only [Act.put, List.setIfInBounds_toArray, List.set_cons_zero, List.set_cons_succ]
    refine wpAnyH_done (by kernel_rfl) ?_ _
    replace hB := hB.below hbd
    replace hX := hX.below hbd
    replace ho := ho.next hbd
    clear hHeld hbd c0 c1 c3 c5 x0 x6 x9 x10
    have e2 : respD (exOf ⟨me, dm, ⟨sq, true, true, ta⟩⟩) m = 0 := resp_d hno
    have e3 : respS (exOf ⟨me, dm, ⟨sq, true, true, ta⟩⟩) m = exOf ⟨me, dm, ⟨sq, true, true, ta⟩⟩ := by unfold respS; rw [hno]; rfl
    replace e1 := hid hno
    replace e2 := hid e2
    replace e3 := hid e3
    clear hno
    go_wp2_with fail
    go_ret2
    exact ⟨by rw [e1.out, e2.out]; rfl, by rw [e3.out]; exact ⟨_, hB, _, rfl, rfl, HQ.out⟩, ho⟩
  have e := resp_yes (x := exOf ⟨me, dm, ⟨sq, true, true, ta⟩⟩) (m := m) (s := sq) (t := ta) rfl hty (show m.2.tc = me.1 from ht0.symm) (show m.2.tp = me.2 from ht1.symm) hsq.symm
  obtain ⟨e1, e2, e3⟩ := e
  have dX : diffX m.2.st ta m.1.co = IntKind.i64.wrap (IntKind.i64.wrap (m.2.st - ta) - m.1.co / 65536) := by unfold diffX; rw [IntKind.wrap_i64, IntKind.wrap_i64]; unfold wrap64; rfl
  rw [dX] at e2
  clear dX
  replace e1 := hid e1
  replace e2 := hid e2
  replace e3 := hid e3
  go_upto_region 1 with fail
  change Code.wp Try.prog _ _ _ (w.alloc (Obj.cells (msK.enc m).toArray 34))
  generalize w.alloc (Obj.cells (msK.enc m).toArray 34) = W at *
  generalize w.heap.size = gx at *
  refine wp_region_held_drew (S := fun w' => Below W.drew.heap.size W.drew w') (by kernel_rfl) (Below.refl _ _) ?_
  intro hHeld
  have hbd := Below.drew (Below.refl W.heap.size W)
  generalize W.drew = WD at *
  have c0 : ∀ wx, Below WD.heap.size WD wx → wx.cell? ⟨g, 0, none⟩ = some (.int .u64 m.2.tc) := fun wx h => (hB.below (bnext hbd h)).cell 0 _ (by first | rfl | (rw [← ht0]; rfl))
  have c1 : ∀ wx, Below WD.heap.size WD wx → wx.cell? ⟨g, 1, none⟩ = some (.int .i64 m.2.tp) := fun wx h => (hB.below (bnext hbd h)).cell 1 _ (by first | rfl | (rw [← ht1]; rfl))
  have c5 : ∀ wx, Below WD.heap.size WD wx → wx.cell? ⟨g, 5, none⟩ = some (.bool true) := fun wx h => (hB.below (bnext hbd h)).cell 5 _ rfl
  have c3 : ∀ wx, Below WD.heap.size WD wx → wx.cell? ⟨g, 3, none⟩ = some (.int .i64 m.1.sq) := fun wx h => (hB.below (bnext hbd h)).cell 3 _ (by first | rfl | (rw [← hsq]; rfl))
  have x0 : ∀ wx, Below WD.heap.size WD wx → wx.cell? ⟨gx, 0, none⟩ = some (.int .i64 9) := fun wx h => (hX.below (bnext hbd h)).cell 0 _ (by first | rfl | (rw [← hty]; rfl))
  have x9 : ∀ wx, Below WD.heap.size WD wx → wx.cell? ⟨gx, 9, none⟩ = some (.int .u64 m.2.tc) := fun wx h => (hX.below (bnext hbd h)).cell 9 _ rfl
  have x10 : ∀ wx, Below WD.heap.size WD wx → wx.cell? ⟨gx, 10, none⟩ = some (.int .i64 m.2.tp) := fun wx h => (hX.below (bnext hbd h)).cell 10 _ rfl
  have x6 : ∀ wx, Below WD.heap.size WD wx → wx.cell? ⟨gx, 6, none⟩ = some (.int .i64 m.1.sq) := fun wx h => (hX.below (bnext hbd h)).cell 6 _ rfl
  refine rtake 0 rfl (by rfl) (by kernel_rfl) (by kernel_rfl) (by kernel_rfl) (fun _ _ _ h => h) hHeld (fun wx hwx => by go_simp; try with_reducible rfl) ?_
  try simp only [Act.put, List.setIfInBounds_toArray, List.set_cons_zero, List.set_cons_succ]
  refine rtake 1 rfl (by rfl) (by kernel_rfl) (by kernel_rfl) (by kernel_rfl) (fun _ _ _ h => h) hHeld (fun wx hwx => by go_simp; try with_reducible rfl) ?_
  try simp only [Act.put, List.setIfInBounds_toArray, List.set_cons_zero, List.set_cons_succ]
  refine rtake 2 rfl (by rfl) (by kernel_rfl) (by kernel_rfl) (by kernel_rfl) (fun _ _ _ h => h) hHeld (fun wx hwx => by go_simp; try with_reducible rfl) ?_
  try simp only [Act.put, List.setIfInBounds_toArray, List.set_cons_zero, List.set_cons_succ]
  refine rtake 3 rfl (by rfl) (by kernel_rfl) (by kernel_rfl) (by kernel_rfl) (fun _ _ _ h => h) hHeld (fun wx hwx => by go_simp; try with_reducible rfl) ?_
  try simp only [Act.put, List.setIfInBounds_toArray, List.set_cons_zero, List.set_cons_succ]
  refine rtake 4 rfl (by rfl) (by kernel_rfl) (by kernel_rfl) (by kernel_rfl) (fun _ _ _ h => h) hHeld (fun wx hwx => by go_simp; try with_reducible rfl) ?_
  try simp only [Act.put, List.setIfInBounds_toArray, List.set_cons_zero, List.set_cons_succ]
  refine rtake 5 rfl (by rfl) (by kernel_rfl) (by kernel_rfl) (by kernel_rfl) (fun _ _ _ h => h) hHeld (fun wx hwx => by go_simp; try with_reducible rfl) ?_
  try simp only [Act.put, List.setIfInBounds_toArray, List.set_cons_zero, List.set_cons_succ]
  refine rtake 6 rfl (by rfl) (by kernel_rfl) (by kernel_rfl) (by kernel_rfl) (fun _ _ _ h => h) hHeld (fun wx hwx => by go_simp; try with_reducible rfl) ?_
  try simp only [Act.put, List.setIfInBounds_toArray, List.set_cons_zero, List.set_cons_succ]
  refine rtake 7 rfl (by rfl) (by kernel_rfl) (by kernel_rfl) (by kernel_rfl) (fun _ _ _ h => h) hHeld (fun wx hwx => by go_simp; try with_reducible rfl) ?_
  try simp only [Act.put, List.setIfInBounds_toArray, List.set_cons_zero, List.set_cons_succ]
  refine rtake 8 rfl (by rfl) (by kernel_rfl) (by kernel_rfl) (by kernel_rfl) (fun _ _ _ h => h) hHeld (fun wx hwx => by go_simp; try with_reducible rfl) ?_
  try simp only [Act.put, List.setIfInBounds_toArray, List.set_cons_zero, List.set_cons_succ]
  refine rtake 9 rfl (by rfl) (by kernel_rfl) (by kernel_rfl) (by kernel_rfl) (fun _ _ _ h => h) hHeld (fun wx hwx => by go_simp; try with_reducible rfl) ?_
  try simp only [Act.put, List.setIfInBounds_toArray, List.set_cons_zero, List.set_cons_succ]
  refine rtake 10 rfl (by rfl) (by kernel_rfl) (by kernel_rfl) (by kernel_rfl) (fun _ _ _ h => h) hHeld (fun wx hwx => by go_simp; try with_reducible rfl) ?_
  try simp only [Act.put, List.setIfInBounds_toArray, List.set_cons_zero, List.set_cons_succ]
  refine rtake 11 rfl (by rfl) (by kernel_rfl) (by kernel_rfl) (by kernel_rfl) (fun _ _ _ h => h) hHeld (fun wx hwx => by go_simp; try with_reducible rfl) ?_
  try simp only [Act.put, List.setIfInBounds_toArray, List.set_cons_zero, List.set_cons_succ]
  refine rtake 12 rfl (by rfl) (by kernel_rfl) (by kernel_rfl) (by kernel_rfl) (fun _ _ _ h => h) hHeld (fun wx hwx => by go_simp; try with_reducible rfl) ?_
  try simp only [Act.put, List.setIfInBounds_toArray, List.set_cons_zero, List.set_cons_succ]
  refine rtake 13 rfl (by rfl) (by kernel_rfl) (by kernel_rfl) (by kernel_rfl) (fun _ _ _ h => h) hHeld (fun wx hwx => by go_simp; try with_reducible rfl) ?_
  try simp only [Act.put, List.setIfInBounds_toArray, List.set_cons_zero, List.set_cons_succ]
  refine rtake 14 rfl (by rfl) (by kernel_rfl) (by kernel_rfl) (by kernel_rfl) (fun _ _ _ h => h) hHeld (fun wx hwx => by go_simp; try with_reducible rfl) ?_
  try simp only [Act.put, List.setIfInBounds_toArray, List.set_cons_zero, List.set_cons_succ]
  refine rtake 15 rfl (by rfl) (by kernel_rfl) (by kernel_rfl) (by kernel_rfl) (fun _ _ _ h => h) hHeld (fun wx hwx => by go_simp; try with_reducible rfl) ?_
  try simp only [Act.put, List.setIfInBounds_toArray, List.set_cons_zero, List.set_cons_succ]
  refine rtake 16 rfl (by rfl) (by kernel_rfl) (by kernel_rfl) (by kernel_rfl) (fun _ _ _ h => h) hHeld (fun wx hwx => by go_simp; try with_reducible rfl) ?_
  try simp only [Act.put, List.setIfInBounds_toArray, List.set_cons_zero, List.set_cons_succ]
  refine rtake 17 rfl (by rfl) (by kernel_rfl) (by kernel_rfl) (by kernel_rfl) (fun _ _ _ h => h) hHeld (fun wx hwx => by go_simp; try with_reducible rfl) ?_
  try simp only [Act.put, List.setIfInBounds_toArray, List.set_cons_zero, List.set_cons_succ]
  refine rtake 18 rfl (by rfl) (by kernel_rfl) (by kernel_rfl) (by kernel_rfl) (fun _ _ _ h => h) hHeld (fun wx hwx => by go_simp; try with_reducible rfl) ?_
  try simp only [Act.put, List.setIfInBounds_toArray, List.set_cons_zero, List.set_cons_succ]
  refine rtake 19 rfl (by rfl) (by kernel_rfl) (by kernel_rfl) (by kernel_rfl) (fun _ _ _ h => h) hHeld (fun wx hwx => by go_simp; try with_reducible rfl) ?_
  try simp only [Act.put, List.setIfInBounds_toArray, List.set_cons_zero, List.set_cons_succ]
  refine rtake 20 rfl (by rfl) (by kernel_rfl) (by kernel_rfl) (by kernel_rfl) (fun _ _ _ h => h) hHeld (fun wx hwx => by go_simp; try with_reducible rfl) ?_
  try simp only [Act.put, List.setIfInBounds_toArray, List.set_cons_zero, List.set_cons_succ]
  refine rtake 21 rfl (by rfl) (by kernel_rfl) (by kernel_rfl) (by kernel_rfl) (fun _ _ _ h => h) hHeld (fun wx hwx => by go_simp; try with_reducible rfl) ?_
  try simp only [Act.put, List.setIfInBounds_toArray, List.set_cons_zero, List.set_cons_succ]
  refine rtake 22 rfl (by rfl) (by kernel_rfl) (by kernel_rfl) (by kernel_rfl) (fun _ _ _ h => h) hHeld (fun wx hwx => by go_simp; try with_reducible rfl) ?_
  try simp only [Act.put, List.setIfInBounds_toArray, List.set_cons_zero, List.set_cons_succ]
  refine rtake 23 rfl (by rfl) (by kernel_rfl) (by kernel_rfl) (by kernel_rfl) (fun _ _ _ h => h) hHeld (fun wx hwx => by go_simp; try with_reducible rfl) ?_
  try simp only [Act.put, List.setIfInBounds_toArray, List.set_cons_zero, List.set_cons_succ]
  refine rtake 24 rfl (by rfl) (by kernel_rfl) (by kernel_rfl) (by kernel_rfl) (fun _ _ _ h => h) hHeld (fun wx hwx => by go_simp; try with_reducible rfl) ?_
  try simp only [Act.put, List.setIfInBounds_toArray, List.set_cons_zero, List.set_cons_succ]
  refine rtake 25 rfl (by rfl) (by kernel_rfl) (by kernel_rfl) (by kernel_rfl) (fun _ _ _ h => h) hHeld (fun wx hwx => by go_simp; try with_reducible rfl) ?_
  try simp only [Act.put, List.setIfInBounds_toArray, List.set_cons_zero, List.set_cons_succ]
  refine rtake 26 rfl (by rfl) (by kernel_rfl) (by kernel_rfl) (by kernel_rfl) (fun _ _ _ h => h) hHeld (fun wx hwx => by go_simp; try with_reducible rfl) ?_
  try simp only [Act.put, List.setIfInBounds_toArray, List.set_cons_zero, List.set_cons_succ]
  refine rtake 27 rfl (by rfl) (by kernel_rfl) (by kernel_rfl) (by kernel_rfl) (fun _ _ _ h => h) hHeld (fun wx hwx => by go_simp; try with_reducible rfl) ?_
  try simp only [Act.put, List.setIfInBounds_toArray, List.set_cons_zero, List.set_cons_succ]
  refine rtake 28 rfl (by rfl) (by kernel_rfl) (by kernel_rfl) (by kernel_rfl) (fun _ _ _ h => h) hHeld (fun wx hwx => by go_simp; try with_reducible rfl) ?_
  try simp only [Act.put, List.setIfInBounds_toArray, List.set_cons_zero, List.set_cons_succ]
  refine rtake 29 rfl (by rfl) (by kernel_rfl) (by kernel_rfl) (by kernel_rfl) (fun _ _ _ h => h) hHeld (fun wx hwx => by go_simp; try with_reducible rfl) ?_
  try simp only [Act.put, List.setIfInBounds_toArray, List.set_cons_zero, List.set_cons_succ]
  refine wpAnyH_done (by kernel_rfl) ?_ _
  replace hB := hB.below hbd
  replace hX := hX.below hbd
  replace ho := ho.next hbd
  clear hHeld hbd c0 c1 c3 c5 x0 x6 x9 x10
  go_upto_region 3 with fail
  refine wp_region_held_drew (S := fun w' => Below WD.drew.heap.size WD.drew w') (by kernel_rfl) (Below.refl _ _) ?_
  intro hHeld
  have hbd := Below.drew (Below.refl WD.heap.size WD)
  generalize WD.drew = WE at *
  have x8 : ∀ wx, Below WE.heap.size WE wx → wx.cell? ⟨gx, 8, none⟩ = some (.int .i64 m.2.st) := fun wx h => (hX.below (bnext hbd h)).cell 8 _ rfl
  have x3 : ∀ wx, Below WE.heap.size WE wx → wx.cell? ⟨gx, 3, none⟩ = some (.int .i64 m.1.co) := fun wx h => (hX.below (bnext hbd h)).cell 3 _ rfl
  have c6 : ∀ wx, Below WE.heap.size WE wx → wx.cell? ⟨g, 6, none⟩ = some (.int .i64 ta) := fun wx h => (hB.below (bnext hbd h)).cell 6 _ rfl
  refine rtake 0 rfl (by rfl) (by kernel_rfl) (by kernel_rfl) (by kernel_rfl) (fun _ _ _ h => h) hHeld (fun wx hwx => by go_simp; try with_reducible rfl) ?_
  try simp only [Act.put, List.setIfInBounds_toArray, List.set_cons_zero, List.set_cons_succ]
  refine rtake 1 rfl (by rfl) (by kernel_rfl) (by kernel_rfl) (by kernel_rfl) (fun _ _ _ h => h) hHeld (fun wx hwx => by go_simp; try with_reducible rfl) ?_
  try simp only [Act.put, List.setIfInBounds_toArray, List.set_cons_zero, List.set_cons_succ]
  refine rtake 2 rfl (by rfl) (by kernel_rfl) (by kernel_rfl) (by kernel_rfl) (fun _ _ _ h => h) hHeld (fun wx hwx => by go_simp; try with_reducible rfl) ?_
  try simp only [Act.put, List.setIfInBounds_toArray, List.set_cons_zero, List.set_cons_succ]
  refine rtake 3 rfl (by rfl) (by kernel_rfl) (by kernel_rfl) (by kernel_rfl) (fun _ _ _ h => h) hHeld (fun wx hwx => by go_simp; try with_reducible rfl) ?_
  try simp only [Act.put, List.setIfInBounds_toArray, List.set_cons_zero, List.set_cons_succ]
  refine rtake 4 rfl (by rfl) (by kernel_rfl) (by kernel_rfl) (by kernel_rfl) (fun _ _ _ h => h) hHeld (fun wx hwx => by go_simp; try with_reducible rfl) ?_
  try simp only [Act.put, List.setIfInBounds_toArray, List.set_cons_zero, List.set_cons_succ]
  refine rtake 5 rfl (by rfl) (by kernel_rfl) (by kernel_rfl) (by kernel_rfl) (fun _ _ _ h => h) hHeld (fun wx hwx => by go_simp; try with_reducible rfl) ?_
  try simp only [Act.put, List.setIfInBounds_toArray, List.set_cons_zero, List.set_cons_succ]
  refine rtake 6 rfl (by rfl) (by kernel_rfl) (by kernel_rfl) (by kernel_rfl) (fun _ _ _ h => h) hHeld (fun wx hwx => by go_simp; try with_reducible rfl) ?_
  try simp only [Act.put, List.setIfInBounds_toArray, List.set_cons_zero, List.set_cons_succ]
  refine rtake 7 rfl (by rfl) (by kernel_rfl) (by kernel_rfl) (by kernel_rfl) (fun _ _ _ h => h) hHeld (fun wx hwx => by go_simp; try with_reducible rfl) ?_
  try simp only [Act.put, List.setIfInBounds_toArray, List.set_cons_zero, List.set_cons_succ]
  refine rtake 8 rfl (by rfl) (by kernel_rfl) (by kernel_rfl) (by kernel_rfl) (fun _ _ _ h => h) hHeld (fun wx hwx => by go_simp; try with_reducible rfl) ?_
  try simp only [Act.put, List.setIfInBounds_toArray, List.set_cons_zero, List.set_cons_succ]
  refine rtake 9 rfl (by rfl) (by kernel_rfl) (by kernel_rfl) (by kernel_rfl) (fun _ _ _ h => h) hHeld (fun wx hwx => by go_simp; try with_reducible rfl) ?_
  try simp only [Act.put, List.setIfInBounds_toArray, List.set_cons_zero, List.set_cons_succ]
  refine rcall 10 rfl (by kernel_rfl) (by rfl) (fun K' hK => ?_)
  go_simp
  refine (floor_any _ _ hm.2.2.1 hm.2.2.2).mono ?_
  rintro e wy ⟨rfl, rfl⟩
  refine hK.out _ _ hHeld ?_
  clear hK K'
  try simp only [Act.put, List.setIfInBounds_toArray, List.set_cons_zero, List.set_cons_succ]
  refine rtake 11 rfl (by rfl) (by kernel_rfl) (by kernel_rfl) (by kernel_rfl) (fun _ _ _ h => h) hHeld (fun wx hwx => by go_simp; try with_reducible rfl) ?_
  try simp only [Act.put, List.setIfInBounds_toArray, List.set_cons_zero, List.set_cons_succ]
  refine rtake 12 rfl (by rfl) (by kernel_rfl) (by kernel_rfl) (by kernel_rfl) (fun _ _ _ h => h) hHeld (fun wx hwx => by go_simp; try with_reducible rfl) ?_
  try simp only [Act.put, List.setIfInBounds_toArray, List.set_cons_zero, List.set_cons_succ]
  refine wpAnyH_done (by kernel_rfl) ?_ _
  replace hB := hB.below hbd
  replace ho := ho.next hbd
  clear hHeld hbd x8 x3 c6
  go_wp2_with fail
  refine (clearX_any g _ WE hB).mono ?_
  rintro e w2 ⟨rfl, hB2, oq⟩
  go_wp2_with fail
  go_ret2
  exact ⟨by rw [e1.out, e2.out]; rfl, by rw [e3.out]; exact ⟨_, hB2, _, rfl, rfl, ok_zero⟩, ho.trans oq⟩

set_option maxRecDepth 100000 in
set_option maxHeartbeats 8000000 in
theorem answer_any (m : Hd × Bd) (me : Int × Int) (at' log : Int) (w : World) :
    Calls Try.prog 9 #[.agg (msK.enc m).toArray, .agg (prK.enc me).toArray, .int .i64 at', .int .i64 log] w fun e w' => e = .returned (.tuple #[.agg (msK.enc (answM m me at' log)).toArray, .bool (answB m at')]) ∧ Below w.heap.size w w' := by
  have z0 := bnew w (Obj.cells (msK.enc m).toArray 34)
  have hX := Box.new w (msK.enc m) 34
  have z1 := bnew (w.alloc (Obj.cells (msK.enc m).toArray 34)) (Obj.cells (prK.enc me).toArray 24)
  have hP := Box.new (w.alloc (Obj.cells (msK.enc m).toArray 34)) (prK.enc me) 24
  replace hX := hX.below z1
  have z2 := bnew ((w.alloc (Obj.cells (msK.enc m).toArray 34)).alloc (Obj.cells (prK.enc me).toArray 24)) (Obj.cells (msK.enc zeroM).toArray 34)
  have hN := Box.new ((w.alloc (Obj.cells (msK.enc m).toArray 34)).alloc (Obj.cells (prK.enc me).toArray 24)) (msK.enc zeroM) 34
  replace hX := hX.below z2
  replace hP := hP.below z2
  have hb := z0
  replace hb := bnext hb z1
  replace hb := bnext hb z2
  clear z0
  clear z1
  clear z2
  have s1 : (w.alloc (Obj.cells (msK.enc m).toArray 34)).heap.size = w.heap.size + 1 := by simp
  rw [s1] at hP
  have s2 : ((w.alloc (Obj.cells (msK.enc m).toArray 34)).alloc (Obj.cells (prK.enc me).toArray 24)).heap.size = w.heap.size + 1 + 1 := by simp
  rw [s2] at hN
  go_enter Try.func9, Try.ntmps9
  go_upto_region 1 with fail
  change Code.wp Try.prog _ _ _ (((w.alloc (Obj.cells (msK.enc m).toArray 34)).alloc (Obj.cells (prK.enc me).toArray 24)).alloc (Obj.cells (msK.enc zeroM).toArray 34))
  generalize (((w.alloc (Obj.cells (msK.enc m).toArray 34)).alloc (Obj.cells (prK.enc me).toArray 24)).alloc (Obj.cells (msK.enc zeroM).toArray 34)) = W at *
  clear s1
  clear s2
  generalize hG : w.heap.size = G at *
  rw [← hG] at hb
  have l_hX : w.heap.size ≤ G := by omega
  have l_hP : w.heap.size ≤ G + 1 := by omega
  have n_hX_hP : G ≠ G + 1 := by omega
  have l_hN : w.heap.size ≤ G + 1 + 1 := by omega
  have n_hX_hN : G ≠ G + 1 + 1 := by omega
  have n_hP_hN : G + 1 ≠ G + 1 + 1 := by omega
  have x0 : W.cell? ⟨G, 0, none⟩ = some (.int .i64 m.1.ty) := hX.cell 0 _ rfl
  have x1 : W.cell? ⟨G, 1, none⟩ = some (.int .i64 m.1.dm) := hX.cell 1 _ rfl
  have x3 : W.cell? ⟨G, 3, none⟩ = some (.int .i64 m.1.co) := hX.cell 3 _ rfl
  have x4 : W.cell? ⟨G, 4, none⟩ = some (.int .u64 m.1.sc) := hX.cell 4 _ rfl
  have x5 : W.cell? ⟨G, 5, none⟩ = some (.int .i64 m.1.sp) := hX.cell 5 _ rfl
  have x6 : W.cell? ⟨G, 6, none⟩ = some (.int .i64 m.1.sq) := hX.cell 6 _ rfl
  have p0 : W.cell? ⟨G + 1, 0, none⟩ = some (.int .u64 me.1) := hP.cell 0 _ rfl
  have p1 : W.cell? ⟨G + 1, 1, none⟩ = some (.int .i64 me.2) := hP.cell 1 _ rfl
  clear n_hX_hP n_hX_hN n_hP_hN l_hX l_hP hX hP
  by_cases hty : m.1.ty = 1
  case neg =>
    have n0 : (m.1.ty == 1) = false := beq_false_of_ne hty
    have e1 : answB m at' = false := by simp [answB, hty]
    have e2 : answM m me at' log = zeroM := by unfold answM; rw [e1]; rfl
    go_wp2_with (first | (guard_target =~ wpList _ _ _ (⟨some 18, _, _, _, _, _⟩ :: _) _ _; refine wpList_build_any (op := ⟨some 18, .build _ _, _, _, _, _⟩) (by rfl) _ _ (by rfl) _ (by rfl) (msK.enc zeroM).toArray (by kernel_rfl) ?_) | (guard_target =~ wpList _ _ _ (⟨none, _, _, _, _, _⟩ :: _) _ _; refine msT.store (op := ⟨none, .store _ _ _, _, _, _, _⟩) (by rfl) _ _ (by rfl) (G + 1 + 1) (zeroM) (zeroM) _ (by rfl) (by rfl) hN ?_))
    exact bodyPost_ret (v := .tuple #[.agg (msK.enc (zeroM)).toArray, .bool false]) (msT.result2 rfl _ _ (G + 1 + 1) _ _ _ rfl rfl (hN.rowK _)) rfl ⟨by rw [e1, e2], below_setRow hb (by omega) _⟩
  rw [hty] at x0
  cases hmay : mayB at'
  case false =>
    have e1 : answB m at' = false := by simp [answB, hmay]
    have e2 : answM m me at' log = zeroM := by unfold answM; rw [e1]; rfl
    go_wp2_with fail
    refine (may_any _ _).mono ?_
    rintro e w1 ⟨rfl, rfl⟩
    rw [hmay]
    go_wp2_with (first | (guard_target =~ wpList _ _ _ (⟨some 18, _, _, _, _, _⟩ :: _) _ _; refine wpList_build_any (op := ⟨some 18, .build _ _, _, _, _, _⟩) (by rfl) _ _ (by rfl) _ (by rfl) (msK.enc zeroM).toArray (by kernel_rfl) ?_) | (guard_target =~ wpList _ _ _ (⟨none, _, _, _, _, _⟩ :: _) _ _; refine msT.store (op := ⟨none, .store _ _ _, _, _, _, _⟩) (by rfl) _ _ (by rfl) (G + 1 + 1) (zeroM) (zeroM) _ (by rfl) (by rfl) hN ?_))
    exact bodyPost_ret (v := .tuple #[.agg (msK.enc (zeroM)).toArray, .bool false]) (msT.result2 rfl _ _ (G + 1 + 1) _ _ _ rfl rfl (hN.rowK _)) rfl ⟨by rw [e1, e2], below_setRow hb (by omega) _⟩
  have e1 : answB m at' = true := by simp [answB, hmay, hty]
  obtain ⟨m1, hm1⟩ : ∃ m1 : Hd × Bd, m1 = (⟨9, m.1.dm, 0, m.1.co, me.1, me.2, m.1.sq, log⟩, { bd0 with st := at', tc := m.1.sc, tp := m.1.sp }) := ⟨_, rfl⟩
  have e2 : answM m me at' log = m1 := by unfold answM; rw [e1, hm1]; rfl
  replace hm1 := hid hm1
  go_wp2_with fail
  refine (may_any _ _).mono ?_
  rintro e w1 ⟨rfl, rfl⟩
  rw [hmay]
  go_wp2_with (first | (guard_target =~ wpList _ _ _ (⟨some 30, _, _, _, _, _⟩ :: _) _ _; refine wpList_build_any (op := ⟨some 30, .build _ _, _, _, _, _⟩) (by rfl) _ _ (by rfl) _ (by rfl) (msK.enc m1).toArray (by rw [hm1.out]; kernel_rfl) ?_) | (guard_target =~ wpList _ _ _ (⟨none, _, _, _, _, _⟩ :: _) _ _; refine msT.store (op := ⟨none, .store _ _ _, _, _, _, _⟩) (by rfl) _ _ (by rfl) (G + 1 + 1) (m1) (zeroM) _ (by rfl) (by rfl) hN ?_))
  exact bodyPost_ret (v := .tuple #[.agg (msK.enc (m1)).toArray, .bool true]) (msT.result2 rfl _ _ (G + 1 + 1) _ _ _ rfl rfl (hN.rowK _)) rfl ⟨by rw [e1, e2], below_setRow hb (by omega) _⟩

theorem ownAns : CAns := fun m me at' log w _ => answer_any m me at' log w
end Go.Proofs.Ytnlmncpiccehjaa
