/- The walk of the law QualityLimits (its region's 24 orders: gen_quality.py). -/
import Derived.Test.YtknbflipockegaaQualRef
import Derived.Test.YtknbflipockegaaQualLaws
import Derived.Test.YtknbflipockegaaQualOrd
import Derived.Test.YtknbflipockegaaPerm
namespace Go.Proofs.Ytknbflipockegaa
open Go.RowKit Go.Proofs
set_option linter.unusedVariables false
set_option linter.unusedSimpArgs false

theorem below4 (w : World) (a b c d : Obj) : Below w.heap.size w ((((w.alloc a).alloc b).alloc c).alloc d) := bnext (bnew _ _) (bnext (bnew _ _) (bnext (bnew _ _) (bnew _ _)))

/-- Four blocks from n on, in any order. -/
def Four (n a b c d : Nat) : Prop := n ≤ a ∧ a < n + 4 ∧ n ≤ b ∧ b < n + 4 ∧ n ≤ c ∧ c < n + 4 ∧ n ≤ d ∧ d < n + 4 ∧ a ≠ b ∧ a ≠ c ∧ a ≠ d ∧ b ≠ c ∧ b ≠ d ∧ c ≠ d

theorem four_box (w : World) (xs : List Value) (t : TypeId) (g : Nat) (h0 : w.heap.size ≤ g) (h1 : g < w.heap.size + 4) :
    Box ((((w.alloc (.cells xs.toArray t)).alloc (.cells xs.toArray t)).alloc (.cells xs.toArray t)).alloc (.cells xs.toArray t)) g xs t := by
  generalize hw1 : w.alloc (.cells xs.toArray t) = w1
  generalize hw2 : w1.alloc (.cells xs.toArray t) = w2
  generalize hw3 : w2.alloc (.cells xs.toArray t) = w3
  have s1 : w1.heap.size = w.heap.size + 1 := by rw [← hw1]; simp
  have s2 : w2.heap.size = w1.heap.size + 1 := by rw [← hw2]; simp
  have s3 : w3.heap.size = w2.heap.size + 1 := by rw [← hw3]; simp
  rcases (by omega : g = w.heap.size ∨ g = w1.heap.size ∨ g = w2.heap.size ∨ g = w3.heap.size) with rfl | rfl | rfl | rfl
  · have h : Box w1 w.heap.size xs t := by rw [← hw1]; exact Box.new _ _ _
    exact h.below (bnext (show Below w1.heap.size w1 w2 by rw [← hw2]; exact bnew _ _) (bnext (show Below w2.heap.size w2 w3 by rw [← hw3]; exact bnew _ _) (bnew _ _)))
  · have h : Box w2 w1.heap.size xs t := by rw [← hw2]; exact Box.new _ _ _
    exact h.below (bnext (show Below w2.heap.size w2 w3 by rw [← hw3]; exact bnew _ _) (bnew _ _))
  · have h : Box w3 w2.heap.size xs t := by rw [← hw3]; exact Box.new _ _ _
    exact h.below (bnew _ _)
  · exact Box.new _ _ _

theorem four_boxes (w : World) (xs : List Value) (t : TypeId) (a b c d g : Nat) (hg : Box w g xs t) (h : Four w.heap.size a b c d) :
    Box ((((w.alloc (.cells xs.toArray t)).alloc (.cells xs.toArray t)).alloc (.cells xs.toArray t)).alloc (.cells xs.toArray t)) g xs t ∧
    Box ((((w.alloc (.cells xs.toArray t)).alloc (.cells xs.toArray t)).alloc (.cells xs.toArray t)).alloc (.cells xs.toArray t)) a xs t ∧
    Box ((((w.alloc (.cells xs.toArray t)).alloc (.cells xs.toArray t)).alloc (.cells xs.toArray t)).alloc (.cells xs.toArray t)) b xs t ∧
    Box ((((w.alloc (.cells xs.toArray t)).alloc (.cells xs.toArray t)).alloc (.cells xs.toArray t)).alloc (.cells xs.toArray t)) c xs t ∧
    Box ((((w.alloc (.cells xs.toArray t)).alloc (.cells xs.toArray t)).alloc (.cells xs.toArray t)).alloc (.cells xs.toArray t)) d xs t ∧
    (g < a ∧ g < b ∧ g < c ∧ g < d) ∧ (a ≠ b ∧ a ≠ c ∧ a ≠ d ∧ b ≠ c ∧ b ≠ d ∧ c ≠ d) := by
  obtain ⟨h1, h2, h3, h4, h5, h6, h7, h8, hd⟩ := h
  have hlt := hg.lt
  exact ⟨hg.below (below4 _ _ _ _ _), four_box w xs t a h1 h2, four_box w xs t b h3 h4, four_box w xs t c h5 h6, four_box w xs t d h7 h8, by omega, hd⟩

set_option maxRecDepth 100000 in
set_option maxHeartbeats 40000000 in
theorem qualityLimits_walk (w : World) :
    Calls Try.prog 8 #[] w fun e w' => e = .returned (.bool true) ∧ Below w.heap.size w w' := by
  go_enter Try.func8, Try.ntmps8
  go_upto_region 2 with fail
  obtain ⟨W, hWe, hbw, HX, HY, HZ⟩ := qbox1 w 255 255 65535
  have hA : Box W w.heap.size [.int .i64 255, .int .i64 255, .int .i64 65535] 24 := by rw [hWe]; exact Box.new _ _ _
  rw [← hWe]
  clear hWe
  go_cut [2, 3, 4, 5] (fun s2 s3 s4 s5 wx => ∃ (wd : World) (g2 g3 g4 g5 : Nat), Below W.heap.size W wd ∧ wx = (((wd.alloc (Obj.cells #[.int .i64 255, .int .i64 255, .int .i64 65535] 24)).alloc (Obj.cells #[.int .i64 255, .int .i64 255, .int .i64 65535] 24)).alloc (Obj.cells #[.int .i64 255, .int .i64 255, .int .i64 65535] 24)).alloc (Obj.cells #[.int .i64 255, .int .i64 255, .int .i64 65535] 24) ∧ s2 = .pointer (some ⟨g2, 0, none⟩) ∧ s3 = .pointer (some ⟨g3, 0, none⟩) ∧ s4 = .pointer (some ⟨g4, 0, none⟩) ∧ s5 = .pointer (some ⟨g5, 0, none⟩) ∧ Four wd.heap.size g2 g3 g4 g5)
  case first =>
-- LIMITS
    refine wp_region_held_drew (S := fun w' => Below W.drew.heap.size W.drew w') (by kernel_rfl) (Below.refl _ _) ?_
    intro hHeld
    have hbW := Below.drew (Below.refl W.heap.size W)
    generalize W.drew = wd at *
    have hcX := fun wx h => HX.out wx (bnext hbW h)
    have hcY := fun wx h => HY.out wx (bnext hbW h)
    have hcZ := fun wx h => HZ.out wx (bnext hbW h)
    refine rtake 0 rfl (by rfl) (by kernel_rfl) (by kernel_rfl) (by kernel_rfl) (fun _ _ _ h => h) hHeld (fun wx hwx => by go_simp; try with_reducible rfl) ?_
    try simp only [Act.put, List.setIfInBounds_toArray, List.set_cons_zero, List.set_cons_succ]
    refine rtake 1 rfl (by rfl) (by kernel_rfl) (by kernel_rfl) (by kernel_rfl) (fun _ _ _ h => h) hHeld (fun wx hwx => by go_simp; try with_reducible rfl) ?_
    try simp only [Act.put, List.setIfInBounds_toArray, List.set_cons_zero, List.set_cons_succ]
    refine rtake 2 rfl (by rfl) (by kernel_rfl) (by kernel_rfl) (by kernel_rfl) (fun _ _ _ h => h) hHeld (fun wx hwx => by go_simp; try with_reducible rfl) ?_
    try simp only [Act.put, List.setIfInBounds_toArray, List.set_cons_zero, List.set_cons_succ]
    refine rtake 3 rfl (by rfl) (by kernel_rfl) (by kernel_rfl) (by kernel_rfl) (fun _ _ _ h => h) hHeld (fun wx hwx => by go_simp; try with_reducible rfl) ?_
    try simp only [Act.put, List.setIfInBounds_toArray, List.set_cons_zero, List.set_cons_succ]
    refine rfour 4 5 6 7 rfl rfl rfl rfl (by kernel_rfl) (by rfl) (by rfl) (by rfl) (by rfl) (fun K hK => ?_) (fun K hK => ?_) (fun K hK => ?_) (fun K hK => ?_)
    · go_simp
      replace hHeld := hHeld.alloc hHeld.size (Obj.cells #[.int .i64 0, .int .i64 0, .int .i64 0] 24)
      refine hK.out _ _ hHeld ?_
      clear hK K
      try simp only [Act.put, List.setIfInBounds_toArray, List.set_cons_zero, List.set_cons_succ]
      refine rthree 5 6 7 rfl rfl rfl (by kernel_rfl) (by rfl) (by rfl) (by rfl) (fun K hK => ?_) (fun K hK => ?_) (fun K hK => ?_)
      · go_simp
        replace hHeld := hHeld.alloc hHeld.size (Obj.cells #[.int .i64 0, .int .i64 0, .int .i64 0] 24)
        refine hK.out _ _ hHeld ?_
        clear hK K
        try simp only [Act.put, List.setIfInBounds_toArray, List.set_cons_zero, List.set_cons_succ]
        refine rtwo 6 7 rfl rfl (by kernel_rfl) (by rfl) (by rfl) (fun K hK => ?_) (fun K hK => ?_)
        · go_simp
          replace hHeld := hHeld.alloc hHeld.size (Obj.cells #[.int .i64 0, .int .i64 0, .int .i64 0] 24)
          refine hK.out _ _ hHeld ?_
          clear hK K
          try simp only [Act.put, List.setIfInBounds_toArray, List.set_cons_zero, List.set_cons_succ]
          refine rcall 7 rfl (by kernel_rfl) (by rfl) (fun K hK => ?_)
          go_simp
          replace hHeld := hHeld.alloc hHeld.size (Obj.cells #[.int .i64 0, .int .i64 0, .int .i64 0] 24)
          refine hK.out _ _ hHeld ?_
          clear hK K
          try simp only [Act.put, List.setIfInBounds_toArray, List.set_cons_zero, List.set_cons_succ]
          refine rcall 8 rfl (by kernel_rfl) (by rfl) (fun K hK => ?_)
          go_simp
          refine hK.out _ _ ?_ ?_
          · exact below4 _ _ _ _ _
          clear hK K
          try simp only [Act.put, List.setIfInBounds_toArray, List.set_cons_zero, List.set_cons_succ]
          refine rcall 9 rfl (by kernel_rfl) (by rfl) (fun K hK => ?_)
          go_simp
          refine hK.out _ _ ?_ ?_
          · exact below4 _ _ _ _ _
          clear hK K
          try simp only [Act.put, List.setIfInBounds_toArray, List.set_cons_zero, List.set_cons_succ]
          refine rcall 10 rfl (by kernel_rfl) (by rfl) (fun K hK => ?_)
          go_simp
          refine hK.out _ _ ?_ ?_
          · exact below4 _ _ _ _ _
          clear hK K
          try simp only [Act.put, List.setIfInBounds_toArray, List.set_cons_zero, List.set_cons_succ]
          refine rcall 11 rfl (by kernel_rfl) (by rfl) (fun K hK => ?_)
          go_simp
          refine hK.out _ _ ?_ ?_
          · exact below4 _ _ _ _ _
          clear hK K
          try simp only [Act.put, List.setIfInBounds_toArray, List.set_cons_zero, List.set_cons_succ]
          refine wpAnyH_done (by kernel_rfl) ?_ _
          go_wp2_with fail
          go_meet
          case rel => exact ⟨wd, _, _, _, _, hbW, rfl, rfl, rfl, rfl, rfl, by unfold Four; omega⟩
        · go_simp
          replace hHeld := hHeld.alloc hHeld.size (Obj.cells #[.int .i64 0, .int .i64 0, .int .i64 0] 24)
          refine hK.out _ _ hHeld ?_
          clear hK K
          try simp only [Act.put, List.setIfInBounds_toArray, List.set_cons_zero, List.set_cons_succ]
          refine rcall 6 rfl (by kernel_rfl) (by rfl) (fun K hK => ?_)
          go_simp
          replace hHeld := hHeld.alloc hHeld.size (Obj.cells #[.int .i64 0, .int .i64 0, .int .i64 0] 24)
          refine hK.out _ _ hHeld ?_
          clear hK K
          try simp only [Act.put, List.setIfInBounds_toArray, List.set_cons_zero, List.set_cons_succ]
          refine rcall 8 rfl (by kernel_rfl) (by rfl) (fun K hK => ?_)
          go_simp
          refine hK.out _ _ ?_ ?_
          · exact below4 _ _ _ _ _
          clear hK K
          try simp only [Act.put, List.setIfInBounds_toArray, List.set_cons_zero, List.set_cons_succ]
          refine rcall 9 rfl (by kernel_rfl) (by rfl) (fun K hK => ?_)
          go_simp
          refine hK.out _ _ ?_ ?_
          · exact below4 _ _ _ _ _
          clear hK K
          try simp only [Act.put, List.setIfInBounds_toArray, List.set_cons_zero, List.set_cons_succ]
          refine rcall 10 rfl (by kernel_rfl) (by rfl) (fun K hK => ?_)
          go_simp
          refine hK.out _ _ ?_ ?_
          · exact below4 _ _ _ _ _
          clear hK K
          try simp only [Act.put, List.setIfInBounds_toArray, List.set_cons_zero, List.set_cons_succ]
          refine rcall 11 rfl (by kernel_rfl) (by rfl) (fun K hK => ?_)
          go_simp
          refine hK.out _ _ ?_ ?_
          · exact below4 _ _ _ _ _
          clear hK K
          try simp only [Act.put, List.setIfInBounds_toArray, List.set_cons_zero, List.set_cons_succ]
          refine wpAnyH_done (by kernel_rfl) ?_ _
          go_wp2_with fail
          go_meet
          case rel => exact ⟨wd, _, _, _, _, hbW, rfl, rfl, rfl, rfl, rfl, by unfold Four; omega⟩
      · go_simp
        replace hHeld := hHeld.alloc hHeld.size (Obj.cells #[.int .i64 0, .int .i64 0, .int .i64 0] 24)
        refine hK.out _ _ hHeld ?_
        clear hK K
        try simp only [Act.put, List.setIfInBounds_toArray, List.set_cons_zero, List.set_cons_succ]
        refine rtwo 5 7 rfl rfl (by kernel_rfl) (by rfl) (by rfl) (fun K hK => ?_) (fun K hK => ?_)
        · go_simp
          replace hHeld := hHeld.alloc hHeld.size (Obj.cells #[.int .i64 0, .int .i64 0, .int .i64 0] 24)
          refine hK.out _ _ hHeld ?_
          clear hK K
          try simp only [Act.put, List.setIfInBounds_toArray, List.set_cons_zero, List.set_cons_succ]
          refine rcall 7 rfl (by kernel_rfl) (by rfl) (fun K hK => ?_)
          go_simp
          replace hHeld := hHeld.alloc hHeld.size (Obj.cells #[.int .i64 0, .int .i64 0, .int .i64 0] 24)
          refine hK.out _ _ hHeld ?_
          clear hK K
          try simp only [Act.put, List.setIfInBounds_toArray, List.set_cons_zero, List.set_cons_succ]
          refine rcall 8 rfl (by kernel_rfl) (by rfl) (fun K hK => ?_)
          go_simp
          refine hK.out _ _ ?_ ?_
          · exact below4 _ _ _ _ _
          clear hK K
          try simp only [Act.put, List.setIfInBounds_toArray, List.set_cons_zero, List.set_cons_succ]
          refine rcall 9 rfl (by kernel_rfl) (by rfl) (fun K hK => ?_)
          go_simp
          refine hK.out _ _ ?_ ?_
          · exact below4 _ _ _ _ _
          clear hK K
          try simp only [Act.put, List.setIfInBounds_toArray, List.set_cons_zero, List.set_cons_succ]
          refine rcall 10 rfl (by kernel_rfl) (by rfl) (fun K hK => ?_)
          go_simp
          refine hK.out _ _ ?_ ?_
          · exact below4 _ _ _ _ _
          clear hK K
          try simp only [Act.put, List.setIfInBounds_toArray, List.set_cons_zero, List.set_cons_succ]
          refine rcall 11 rfl (by kernel_rfl) (by rfl) (fun K hK => ?_)
          go_simp
          refine hK.out _ _ ?_ ?_
          · exact below4 _ _ _ _ _
          clear hK K
          try simp only [Act.put, List.setIfInBounds_toArray, List.set_cons_zero, List.set_cons_succ]
          refine wpAnyH_done (by kernel_rfl) ?_ _
          go_wp2_with fail
          go_meet
          case rel => exact ⟨wd, _, _, _, _, hbW, rfl, rfl, rfl, rfl, rfl, by unfold Four; omega⟩
        · go_simp
          replace hHeld := hHeld.alloc hHeld.size (Obj.cells #[.int .i64 0, .int .i64 0, .int .i64 0] 24)
          refine hK.out _ _ hHeld ?_
          clear hK K
          try simp only [Act.put, List.setIfInBounds_toArray, List.set_cons_zero, List.set_cons_succ]
          refine rcall 5 rfl (by kernel_rfl) (by rfl) (fun K hK => ?_)
          go_simp
          replace hHeld := hHeld.alloc hHeld.size (Obj.cells #[.int .i64 0, .int .i64 0, .int .i64 0] 24)
          refine hK.out _ _ hHeld ?_
          clear hK K
          try simp only [Act.put, List.setIfInBounds_toArray, List.set_cons_zero, List.set_cons_succ]
          refine rcall 8 rfl (by kernel_rfl) (by rfl) (fun K hK => ?_)
          go_simp
          refine hK.out _ _ ?_ ?_
          · exact below4 _ _ _ _ _
          clear hK K
          try simp only [Act.put, List.setIfInBounds_toArray, List.set_cons_zero, List.set_cons_succ]
          refine rcall 9 rfl (by kernel_rfl) (by rfl) (fun K hK => ?_)
          go_simp
          refine hK.out _ _ ?_ ?_
          · exact below4 _ _ _ _ _
          clear hK K
          try simp only [Act.put, List.setIfInBounds_toArray, List.set_cons_zero, List.set_cons_succ]
          refine rcall 10 rfl (by kernel_rfl) (by rfl) (fun K hK => ?_)
          go_simp
          refine hK.out _ _ ?_ ?_
          · exact below4 _ _ _ _ _
          clear hK K
          try simp only [Act.put, List.setIfInBounds_toArray, List.set_cons_zero, List.set_cons_succ]
          refine rcall 11 rfl (by kernel_rfl) (by rfl) (fun K hK => ?_)
          go_simp
          refine hK.out _ _ ?_ ?_
          · exact below4 _ _ _ _ _
          clear hK K
          try simp only [Act.put, List.setIfInBounds_toArray, List.set_cons_zero, List.set_cons_succ]
          refine wpAnyH_done (by kernel_rfl) ?_ _
          go_wp2_with fail
          go_meet
          case rel => exact ⟨wd, _, _, _, _, hbW, rfl, rfl, rfl, rfl, rfl, by unfold Four; omega⟩
      · go_simp
        replace hHeld := hHeld.alloc hHeld.size (Obj.cells #[.int .i64 0, .int .i64 0, .int .i64 0] 24)
        refine hK.out _ _ hHeld ?_
        clear hK K
        try simp only [Act.put, List.setIfInBounds_toArray, List.set_cons_zero, List.set_cons_succ]
        refine rtwo 5 6 rfl rfl (by kernel_rfl) (by rfl) (by rfl) (fun K hK => ?_) (fun K hK => ?_)
        · go_simp
          replace hHeld := hHeld.alloc hHeld.size (Obj.cells #[.int .i64 0, .int .i64 0, .int .i64 0] 24)
          refine hK.out _ _ hHeld ?_
          clear hK K
          try simp only [Act.put, List.setIfInBounds_toArray, List.set_cons_zero, List.set_cons_succ]
          refine rcall 6 rfl (by kernel_rfl) (by rfl) (fun K hK => ?_)
          go_simp
          replace hHeld := hHeld.alloc hHeld.size (Obj.cells #[.int .i64 0, .int .i64 0, .int .i64 0] 24)
          refine hK.out _ _ hHeld ?_
          clear hK K
          try simp only [Act.put, List.setIfInBounds_toArray, List.set_cons_zero, List.set_cons_succ]
          refine rcall 8 rfl (by kernel_rfl) (by rfl) (fun K hK => ?_)
          go_simp
          refine hK.out _ _ ?_ ?_
          · exact below4 _ _ _ _ _
          clear hK K
          try simp only [Act.put, List.setIfInBounds_toArray, List.set_cons_zero, List.set_cons_succ]
          refine rcall 9 rfl (by kernel_rfl) (by rfl) (fun K hK => ?_)
          go_simp
          refine hK.out _ _ ?_ ?_
          · exact below4 _ _ _ _ _
          clear hK K
          try simp only [Act.put, List.setIfInBounds_toArray, List.set_cons_zero, List.set_cons_succ]
          refine rcall 10 rfl (by kernel_rfl) (by rfl) (fun K hK => ?_)
          go_simp
          refine hK.out _ _ ?_ ?_
          · exact below4 _ _ _ _ _
          clear hK K
          try simp only [Act.put, List.setIfInBounds_toArray, List.set_cons_zero, List.set_cons_succ]
          refine rcall 11 rfl (by kernel_rfl) (by rfl) (fun K hK => ?_)
          go_simp
          refine hK.out _ _ ?_ ?_
          · exact below4 _ _ _ _ _
          clear hK K
          try simp only [Act.put, List.setIfInBounds_toArray, List.set_cons_zero, List.set_cons_succ]
          refine wpAnyH_done (by kernel_rfl) ?_ _
          go_wp2_with fail
          go_meet
          case rel => exact ⟨wd, _, _, _, _, hbW, rfl, rfl, rfl, rfl, rfl, by unfold Four; omega⟩
        · go_simp
          replace hHeld := hHeld.alloc hHeld.size (Obj.cells #[.int .i64 0, .int .i64 0, .int .i64 0] 24)
          refine hK.out _ _ hHeld ?_
          clear hK K
          try simp only [Act.put, List.setIfInBounds_toArray, List.set_cons_zero, List.set_cons_succ]
          refine rcall 5 rfl (by kernel_rfl) (by rfl) (fun K hK => ?_)
          go_simp
          replace hHeld := hHeld.alloc hHeld.size (Obj.cells #[.int .i64 0, .int .i64 0, .int .i64 0] 24)
          refine hK.out _ _ hHeld ?_
          clear hK K
          try simp only [Act.put, List.setIfInBounds_toArray, List.set_cons_zero, List.set_cons_succ]
          refine rcall 8 rfl (by kernel_rfl) (by rfl) (fun K hK => ?_)
          go_simp
          refine hK.out _ _ ?_ ?_
          · exact below4 _ _ _ _ _
          clear hK K
          try simp only [Act.put, List.setIfInBounds_toArray, List.set_cons_zero, List.set_cons_succ]
          refine rcall 9 rfl (by kernel_rfl) (by rfl) (fun K hK => ?_)
          go_simp
          refine hK.out _ _ ?_ ?_
          · exact below4 _ _ _ _ _
          clear hK K
          try simp only [Act.put, List.setIfInBounds_toArray, List.set_cons_zero, List.set_cons_succ]
          refine rcall 10 rfl (by kernel_rfl) (by rfl) (fun K hK => ?_)
          go_simp
          refine hK.out _ _ ?_ ?_
          · exact below4 _ _ _ _ _
          clear hK K
          try simp only [Act.put, List.setIfInBounds_toArray, List.set_cons_zero, List.set_cons_succ]
          refine rcall 11 rfl (by kernel_rfl) (by rfl) (fun K hK => ?_)
          go_simp
          refine hK.out _ _ ?_ ?_
          · exact below4 _ _ _ _ _
          clear hK K
          try simp only [Act.put, List.setIfInBounds_toArray, List.set_cons_zero, List.set_cons_succ]
          refine wpAnyH_done (by kernel_rfl) ?_ _
          go_wp2_with fail
          go_meet
          case rel => exact ⟨wd, _, _, _, _, hbW, rfl, rfl, rfl, rfl, rfl, by unfold Four; omega⟩
    · go_simp
      replace hHeld := hHeld.alloc hHeld.size (Obj.cells #[.int .i64 0, .int .i64 0, .int .i64 0] 24)
      refine hK.out _ _ hHeld ?_
      clear hK K
      try simp only [Act.put, List.setIfInBounds_toArray, List.set_cons_zero, List.set_cons_succ]
      refine rthree 4 6 7 rfl rfl rfl (by kernel_rfl) (by rfl) (by rfl) (by rfl) (fun K hK => ?_) (fun K hK => ?_) (fun K hK => ?_)
      · go_simp
        replace hHeld := hHeld.alloc hHeld.size (Obj.cells #[.int .i64 0, .int .i64 0, .int .i64 0] 24)
        refine hK.out _ _ hHeld ?_
        clear hK K
        try simp only [Act.put, List.setIfInBounds_toArray, List.set_cons_zero, List.set_cons_succ]
        refine rtwo 6 7 rfl rfl (by kernel_rfl) (by rfl) (by rfl) (fun K hK => ?_) (fun K hK => ?_)
        · go_simp
          replace hHeld := hHeld.alloc hHeld.size (Obj.cells #[.int .i64 0, .int .i64 0, .int .i64 0] 24)
          refine hK.out _ _ hHeld ?_
          clear hK K
          try simp only [Act.put, List.setIfInBounds_toArray, List.set_cons_zero, List.set_cons_succ]
          refine rcall 7 rfl (by kernel_rfl) (by rfl) (fun K hK => ?_)
          go_simp
          replace hHeld := hHeld.alloc hHeld.size (Obj.cells #[.int .i64 0, .int .i64 0, .int .i64 0] 24)
          refine hK.out _ _ hHeld ?_
          clear hK K
          try simp only [Act.put, List.setIfInBounds_toArray, List.set_cons_zero, List.set_cons_succ]
          refine rcall 8 rfl (by kernel_rfl) (by rfl) (fun K hK => ?_)
          go_simp
          refine hK.out _ _ ?_ ?_
          · exact below4 _ _ _ _ _
          clear hK K
          try simp only [Act.put, List.setIfInBounds_toArray, List.set_cons_zero, List.set_cons_succ]
          refine rcall 9 rfl (by kernel_rfl) (by rfl) (fun K hK => ?_)
          go_simp
          refine hK.out _ _ ?_ ?_
          · exact below4 _ _ _ _ _
          clear hK K
          try simp only [Act.put, List.setIfInBounds_toArray, List.set_cons_zero, List.set_cons_succ]
          refine rcall 10 rfl (by kernel_rfl) (by rfl) (fun K hK => ?_)
          go_simp
          refine hK.out _ _ ?_ ?_
          · exact below4 _ _ _ _ _
          clear hK K
          try simp only [Act.put, List.setIfInBounds_toArray, List.set_cons_zero, List.set_cons_succ]
          refine rcall 11 rfl (by kernel_rfl) (by rfl) (fun K hK => ?_)
          go_simp
          refine hK.out _ _ ?_ ?_
          · exact below4 _ _ _ _ _
          clear hK K
          try simp only [Act.put, List.setIfInBounds_toArray, List.set_cons_zero, List.set_cons_succ]
          refine wpAnyH_done (by kernel_rfl) ?_ _
          go_wp2_with fail
          go_meet
          case rel => exact ⟨wd, _, _, _, _, hbW, rfl, rfl, rfl, rfl, rfl, by unfold Four; omega⟩
        · go_simp
          replace hHeld := hHeld.alloc hHeld.size (Obj.cells #[.int .i64 0, .int .i64 0, .int .i64 0] 24)
          refine hK.out _ _ hHeld ?_
          clear hK K
          try simp only [Act.put, List.setIfInBounds_toArray, List.set_cons_zero, List.set_cons_succ]
          refine rcall 6 rfl (by kernel_rfl) (by rfl) (fun K hK => ?_)
          go_simp
          replace hHeld := hHeld.alloc hHeld.size (Obj.cells #[.int .i64 0, .int .i64 0, .int .i64 0] 24)
          refine hK.out _ _ hHeld ?_
          clear hK K
          try simp only [Act.put, List.setIfInBounds_toArray, List.set_cons_zero, List.set_cons_succ]
          refine rcall 8 rfl (by kernel_rfl) (by rfl) (fun K hK => ?_)
          go_simp
          refine hK.out _ _ ?_ ?_
          · exact below4 _ _ _ _ _
          clear hK K
          try simp only [Act.put, List.setIfInBounds_toArray, List.set_cons_zero, List.set_cons_succ]
          refine rcall 9 rfl (by kernel_rfl) (by rfl) (fun K hK => ?_)
          go_simp
          refine hK.out _ _ ?_ ?_
          · exact below4 _ _ _ _ _
          clear hK K
          try simp only [Act.put, List.setIfInBounds_toArray, List.set_cons_zero, List.set_cons_succ]
          refine rcall 10 rfl (by kernel_rfl) (by rfl) (fun K hK => ?_)
          go_simp
          refine hK.out _ _ ?_ ?_
          · exact below4 _ _ _ _ _
          clear hK K
          try simp only [Act.put, List.setIfInBounds_toArray, List.set_cons_zero, List.set_cons_succ]
          refine rcall 11 rfl (by kernel_rfl) (by rfl) (fun K hK => ?_)
          go_simp
          refine hK.out _ _ ?_ ?_
          · exact below4 _ _ _ _ _
          clear hK K
          try simp only [Act.put, List.setIfInBounds_toArray, List.set_cons_zero, List.set_cons_succ]
          refine wpAnyH_done (by kernel_rfl) ?_ _
          go_wp2_with fail
          go_meet
          case rel => exact ⟨wd, _, _, _, _, hbW, rfl, rfl, rfl, rfl, rfl, by unfold Four; omega⟩
      · go_simp
        replace hHeld := hHeld.alloc hHeld.size (Obj.cells #[.int .i64 0, .int .i64 0, .int .i64 0] 24)
        refine hK.out _ _ hHeld ?_
        clear hK K
        try simp only [Act.put, List.setIfInBounds_toArray, List.set_cons_zero, List.set_cons_succ]
        refine rtwo 4 7 rfl rfl (by kernel_rfl) (by rfl) (by rfl) (fun K hK => ?_) (fun K hK => ?_)
        · go_simp
          replace hHeld := hHeld.alloc hHeld.size (Obj.cells #[.int .i64 0, .int .i64 0, .int .i64 0] 24)
          refine hK.out _ _ hHeld ?_
          clear hK K
          try simp only [Act.put, List.setIfInBounds_toArray, List.set_cons_zero, List.set_cons_succ]
          refine rcall 7 rfl (by kernel_rfl) (by rfl) (fun K hK => ?_)
          go_simp
          replace hHeld := hHeld.alloc hHeld.size (Obj.cells #[.int .i64 0, .int .i64 0, .int .i64 0] 24)
          refine hK.out _ _ hHeld ?_
          clear hK K
          try simp only [Act.put, List.setIfInBounds_toArray, List.set_cons_zero, List.set_cons_succ]
          refine rcall 8 rfl (by kernel_rfl) (by rfl) (fun K hK => ?_)
          go_simp
          refine hK.out _ _ ?_ ?_
          · exact below4 _ _ _ _ _
          clear hK K
          try simp only [Act.put, List.setIfInBounds_toArray, List.set_cons_zero, List.set_cons_succ]
          refine rcall 9 rfl (by kernel_rfl) (by rfl) (fun K hK => ?_)
          go_simp
          refine hK.out _ _ ?_ ?_
          · exact below4 _ _ _ _ _
          clear hK K
          try simp only [Act.put, List.setIfInBounds_toArray, List.set_cons_zero, List.set_cons_succ]
          refine rcall 10 rfl (by kernel_rfl) (by rfl) (fun K hK => ?_)
          go_simp
          refine hK.out _ _ ?_ ?_
          · exact below4 _ _ _ _ _
          clear hK K
          try simp only [Act.put, List.setIfInBounds_toArray, List.set_cons_zero, List.set_cons_succ]
          refine rcall 11 rfl (by kernel_rfl) (by rfl) (fun K hK => ?_)
          go_simp
          refine hK.out _ _ ?_ ?_
          · exact below4 _ _ _ _ _
          clear hK K
          try simp only [Act.put, List.setIfInBounds_toArray, List.set_cons_zero, List.set_cons_succ]
          refine wpAnyH_done (by kernel_rfl) ?_ _
          go_wp2_with fail
          go_meet
          case rel => exact ⟨wd, _, _, _, _, hbW, rfl, rfl, rfl, rfl, rfl, by unfold Four; omega⟩
        · go_simp
          replace hHeld := hHeld.alloc hHeld.size (Obj.cells #[.int .i64 0, .int .i64 0, .int .i64 0] 24)
          refine hK.out _ _ hHeld ?_
          clear hK K
          try simp only [Act.put, List.setIfInBounds_toArray, List.set_cons_zero, List.set_cons_succ]
          refine rcall 4 rfl (by kernel_rfl) (by rfl) (fun K hK => ?_)
          go_simp
          replace hHeld := hHeld.alloc hHeld.size (Obj.cells #[.int .i64 0, .int .i64 0, .int .i64 0] 24)
          refine hK.out _ _ hHeld ?_
          clear hK K
          try simp only [Act.put, List.setIfInBounds_toArray, List.set_cons_zero, List.set_cons_succ]
          refine rcall 8 rfl (by kernel_rfl) (by rfl) (fun K hK => ?_)
          go_simp
          refine hK.out _ _ ?_ ?_
          · exact below4 _ _ _ _ _
          clear hK K
          try simp only [Act.put, List.setIfInBounds_toArray, List.set_cons_zero, List.set_cons_succ]
          refine rcall 9 rfl (by kernel_rfl) (by rfl) (fun K hK => ?_)
          go_simp
          refine hK.out _ _ ?_ ?_
          · exact below4 _ _ _ _ _
          clear hK K
          try simp only [Act.put, List.setIfInBounds_toArray, List.set_cons_zero, List.set_cons_succ]
          refine rcall 10 rfl (by kernel_rfl) (by rfl) (fun K hK => ?_)
          go_simp
          refine hK.out _ _ ?_ ?_
          · exact below4 _ _ _ _ _
          clear hK K
          try simp only [Act.put, List.setIfInBounds_toArray, List.set_cons_zero, List.set_cons_succ]
          refine rcall 11 rfl (by kernel_rfl) (by rfl) (fun K hK => ?_)
          go_simp
          refine hK.out _ _ ?_ ?_
          · exact below4 _ _ _ _ _
          clear hK K
          try simp only [Act.put, List.setIfInBounds_toArray, List.set_cons_zero, List.set_cons_succ]
          refine wpAnyH_done (by kernel_rfl) ?_ _
          go_wp2_with fail
          go_meet
          case rel => exact ⟨wd, _, _, _, _, hbW, rfl, rfl, rfl, rfl, rfl, by unfold Four; omega⟩
      · go_simp
        replace hHeld := hHeld.alloc hHeld.size (Obj.cells #[.int .i64 0, .int .i64 0, .int .i64 0] 24)
        refine hK.out _ _ hHeld ?_
        clear hK K
        try simp only [Act.put, List.setIfInBounds_toArray, List.set_cons_zero, List.set_cons_succ]
        refine rtwo 4 6 rfl rfl (by kernel_rfl) (by rfl) (by rfl) (fun K hK => ?_) (fun K hK => ?_)
        · go_simp
          replace hHeld := hHeld.alloc hHeld.size (Obj.cells #[.int .i64 0, .int .i64 0, .int .i64 0] 24)
          refine hK.out _ _ hHeld ?_
          clear hK K
          try simp only [Act.put, List.setIfInBounds_toArray, List.set_cons_zero, List.set_cons_succ]
          refine rcall 6 rfl (by kernel_rfl) (by rfl) (fun K hK => ?_)
          go_simp
          replace hHeld := hHeld.alloc hHeld.size (Obj.cells #[.int .i64 0, .int .i64 0, .int .i64 0] 24)
          refine hK.out _ _ hHeld ?_
          clear hK K
          try simp only [Act.put, List.setIfInBounds_toArray, List.set_cons_zero, List.set_cons_succ]
          refine rcall 8 rfl (by kernel_rfl) (by rfl) (fun K hK => ?_)
          go_simp
          refine hK.out _ _ ?_ ?_
          · exact below4 _ _ _ _ _
          clear hK K
          try simp only [Act.put, List.setIfInBounds_toArray, List.set_cons_zero, List.set_cons_succ]
          refine rcall 9 rfl (by kernel_rfl) (by rfl) (fun K hK => ?_)
          go_simp
          refine hK.out _ _ ?_ ?_
          · exact below4 _ _ _ _ _
          clear hK K
          try simp only [Act.put, List.setIfInBounds_toArray, List.set_cons_zero, List.set_cons_succ]
          refine rcall 10 rfl (by kernel_rfl) (by rfl) (fun K hK => ?_)
          go_simp
          refine hK.out _ _ ?_ ?_
          · exact below4 _ _ _ _ _
          clear hK K
          try simp only [Act.put, List.setIfInBounds_toArray, List.set_cons_zero, List.set_cons_succ]
          refine rcall 11 rfl (by kernel_rfl) (by rfl) (fun K hK => ?_)
          go_simp
          refine hK.out _ _ ?_ ?_
          · exact below4 _ _ _ _ _
          clear hK K
          try simp only [Act.put, List.setIfInBounds_toArray, List.set_cons_zero, List.set_cons_succ]
          refine wpAnyH_done (by kernel_rfl) ?_ _
          go_wp2_with fail
          go_meet
          case rel => exact ⟨wd, _, _, _, _, hbW, rfl, rfl, rfl, rfl, rfl, by unfold Four; omega⟩
        · go_simp
          replace hHeld := hHeld.alloc hHeld.size (Obj.cells #[.int .i64 0, .int .i64 0, .int .i64 0] 24)
          refine hK.out _ _ hHeld ?_
          clear hK K
          try simp only [Act.put, List.setIfInBounds_toArray, List.set_cons_zero, List.set_cons_succ]
          refine rcall 4 rfl (by kernel_rfl) (by rfl) (fun K hK => ?_)
          go_simp
          replace hHeld := hHeld.alloc hHeld.size (Obj.cells #[.int .i64 0, .int .i64 0, .int .i64 0] 24)
          refine hK.out _ _ hHeld ?_
          clear hK K
          try simp only [Act.put, List.setIfInBounds_toArray, List.set_cons_zero, List.set_cons_succ]
          refine rcall 8 rfl (by kernel_rfl) (by rfl) (fun K hK => ?_)
          go_simp
          refine hK.out _ _ ?_ ?_
          · exact below4 _ _ _ _ _
          clear hK K
          try simp only [Act.put, List.setIfInBounds_toArray, List.set_cons_zero, List.set_cons_succ]
          refine rcall 9 rfl (by kernel_rfl) (by rfl) (fun K hK => ?_)
          go_simp
          refine hK.out _ _ ?_ ?_
          · exact below4 _ _ _ _ _
          clear hK K
          try simp only [Act.put, List.setIfInBounds_toArray, List.set_cons_zero, List.set_cons_succ]
          refine rcall 10 rfl (by kernel_rfl) (by rfl) (fun K hK => ?_)
          go_simp
          refine hK.out _ _ ?_ ?_
          · exact below4 _ _ _ _ _
          clear hK K
          try simp only [Act.put, List.setIfInBounds_toArray, List.set_cons_zero, List.set_cons_succ]
          refine rcall 11 rfl (by kernel_rfl) (by rfl) (fun K hK => ?_)
          go_simp
          refine hK.out _ _ ?_ ?_
          · exact below4 _ _ _ _ _
          clear hK K
          try simp only [Act.put, List.setIfInBounds_toArray, List.set_cons_zero, List.set_cons_succ]
          refine wpAnyH_done (by kernel_rfl) ?_ _
          go_wp2_with fail
          go_meet
          case rel => exact ⟨wd, _, _, _, _, hbW, rfl, rfl, rfl, rfl, rfl, by unfold Four; omega⟩
    · go_simp
      replace hHeld := hHeld.alloc hHeld.size (Obj.cells #[.int .i64 0, .int .i64 0, .int .i64 0] 24)
      refine hK.out _ _ hHeld ?_
      clear hK K
      try simp only [Act.put, List.setIfInBounds_toArray, List.set_cons_zero, List.set_cons_succ]
      refine rthree 4 5 7 rfl rfl rfl (by kernel_rfl) (by rfl) (by rfl) (by rfl) (fun K hK => ?_) (fun K hK => ?_) (fun K hK => ?_)
      · go_simp
        replace hHeld := hHeld.alloc hHeld.size (Obj.cells #[.int .i64 0, .int .i64 0, .int .i64 0] 24)
        refine hK.out _ _ hHeld ?_
        clear hK K
        try simp only [Act.put, List.setIfInBounds_toArray, List.set_cons_zero, List.set_cons_succ]
        refine rtwo 5 7 rfl rfl (by kernel_rfl) (by rfl) (by rfl) (fun K hK => ?_) (fun K hK => ?_)
        · go_simp
          replace hHeld := hHeld.alloc hHeld.size (Obj.cells #[.int .i64 0, .int .i64 0, .int .i64 0] 24)
          refine hK.out _ _ hHeld ?_
          clear hK K
          try simp only [Act.put, List.setIfInBounds_toArray, List.set_cons_zero, List.set_cons_succ]
          refine rcall 7 rfl (by kernel_rfl) (by rfl) (fun K hK => ?_)
          go_simp
          replace hHeld := hHeld.alloc hHeld.size (Obj.cells #[.int .i64 0, .int .i64 0, .int .i64 0] 24)
          refine hK.out _ _ hHeld ?_
          clear hK K
          try simp only [Act.put, List.setIfInBounds_toArray, List.set_cons_zero, List.set_cons_succ]
          refine rcall 8 rfl (by kernel_rfl) (by rfl) (fun K hK => ?_)
          go_simp
          refine hK.out _ _ ?_ ?_
          · exact below4 _ _ _ _ _
          clear hK K
          try simp only [Act.put, List.setIfInBounds_toArray, List.set_cons_zero, List.set_cons_succ]
          refine rcall 9 rfl (by kernel_rfl) (by rfl) (fun K hK => ?_)
          go_simp
          refine hK.out _ _ ?_ ?_
          · exact below4 _ _ _ _ _
          clear hK K
          try simp only [Act.put, List.setIfInBounds_toArray, List.set_cons_zero, List.set_cons_succ]
          refine rcall 10 rfl (by kernel_rfl) (by rfl) (fun K hK => ?_)
          go_simp
          refine hK.out _ _ ?_ ?_
          · exact below4 _ _ _ _ _
          clear hK K
          try simp only [Act.put, List.setIfInBounds_toArray, List.set_cons_zero, List.set_cons_succ]
          refine rcall 11 rfl (by kernel_rfl) (by rfl) (fun K hK => ?_)
          go_simp
          refine hK.out _ _ ?_ ?_
          · exact below4 _ _ _ _ _
          clear hK K
          try simp only [Act.put, List.setIfInBounds_toArray, List.set_cons_zero, List.set_cons_succ]
          refine wpAnyH_done (by kernel_rfl) ?_ _
          go_wp2_with fail
          go_meet
          case rel => exact ⟨wd, _, _, _, _, hbW, rfl, rfl, rfl, rfl, rfl, by unfold Four; omega⟩
        · go_simp
          replace hHeld := hHeld.alloc hHeld.size (Obj.cells #[.int .i64 0, .int .i64 0, .int .i64 0] 24)
          refine hK.out _ _ hHeld ?_
          clear hK K
          try simp only [Act.put, List.setIfInBounds_toArray, List.set_cons_zero, List.set_cons_succ]
          refine rcall 5 rfl (by kernel_rfl) (by rfl) (fun K hK => ?_)
          go_simp
          replace hHeld := hHeld.alloc hHeld.size (Obj.cells #[.int .i64 0, .int .i64 0, .int .i64 0] 24)
          refine hK.out _ _ hHeld ?_
          clear hK K
          try simp only [Act.put, List.setIfInBounds_toArray, List.set_cons_zero, List.set_cons_succ]
          refine rcall 8 rfl (by kernel_rfl) (by rfl) (fun K hK => ?_)
          go_simp
          refine hK.out _ _ ?_ ?_
          · exact below4 _ _ _ _ _
          clear hK K
          try simp only [Act.put, List.setIfInBounds_toArray, List.set_cons_zero, List.set_cons_succ]
          refine rcall 9 rfl (by kernel_rfl) (by rfl) (fun K hK => ?_)
          go_simp
          refine hK.out _ _ ?_ ?_
          · exact below4 _ _ _ _ _
          clear hK K
          try simp only [Act.put, List.setIfInBounds_toArray, List.set_cons_zero, List.set_cons_succ]
          refine rcall 10 rfl (by kernel_rfl) (by rfl) (fun K hK => ?_)
          go_simp
          refine hK.out _ _ ?_ ?_
          · exact below4 _ _ _ _ _
          clear hK K
          try simp only [Act.put, List.setIfInBounds_toArray, List.set_cons_zero, List.set_cons_succ]
          refine rcall 11 rfl (by kernel_rfl) (by rfl) (fun K hK => ?_)
          go_simp
          refine hK.out _ _ ?_ ?_
          · exact below4 _ _ _ _ _
          clear hK K
          try simp only [Act.put, List.setIfInBounds_toArray, List.set_cons_zero, List.set_cons_succ]
          refine wpAnyH_done (by kernel_rfl) ?_ _
          go_wp2_with fail
          go_meet
          case rel => exact ⟨wd, _, _, _, _, hbW, rfl, rfl, rfl, rfl, rfl, by unfold Four; omega⟩
      · go_simp
        replace hHeld := hHeld.alloc hHeld.size (Obj.cells #[.int .i64 0, .int .i64 0, .int .i64 0] 24)
        refine hK.out _ _ hHeld ?_
        clear hK K
        try simp only [Act.put, List.setIfInBounds_toArray, List.set_cons_zero, List.set_cons_succ]
        refine rtwo 4 7 rfl rfl (by kernel_rfl) (by rfl) (by rfl) (fun K hK => ?_) (fun K hK => ?_)
        · go_simp
          replace hHeld := hHeld.alloc hHeld.size (Obj.cells #[.int .i64 0, .int .i64 0, .int .i64 0] 24)
          refine hK.out _ _ hHeld ?_
          clear hK K
          try simp only [Act.put, List.setIfInBounds_toArray, List.set_cons_zero, List.set_cons_succ]
          refine rcall 7 rfl (by kernel_rfl) (by rfl) (fun K hK => ?_)
          go_simp
          replace hHeld := hHeld.alloc hHeld.size (Obj.cells #[.int .i64 0, .int .i64 0, .int .i64 0] 24)
          refine hK.out _ _ hHeld ?_
          clear hK K
          try simp only [Act.put, List.setIfInBounds_toArray, List.set_cons_zero, List.set_cons_succ]
          refine rcall 8 rfl (by kernel_rfl) (by rfl) (fun K hK => ?_)
          go_simp
          refine hK.out _ _ ?_ ?_
          · exact below4 _ _ _ _ _
          clear hK K
          try simp only [Act.put, List.setIfInBounds_toArray, List.set_cons_zero, List.set_cons_succ]
          refine rcall 9 rfl (by kernel_rfl) (by rfl) (fun K hK => ?_)
          go_simp
          refine hK.out _ _ ?_ ?_
          · exact below4 _ _ _ _ _
          clear hK K
          try simp only [Act.put, List.setIfInBounds_toArray, List.set_cons_zero, List.set_cons_succ]
          refine rcall 10 rfl (by kernel_rfl) (by rfl) (fun K hK => ?_)
          go_simp
          refine hK.out _ _ ?_ ?_
          · exact below4 _ _ _ _ _
          clear hK K
          try simp only [Act.put, List.setIfInBounds_toArray, List.set_cons_zero, List.set_cons_succ]
          refine rcall 11 rfl (by kernel_rfl) (by rfl) (fun K hK => ?_)
          go_simp
          refine hK.out _ _ ?_ ?_
          · exact below4 _ _ _ _ _
          clear hK K
          try simp only [Act.put, List.setIfInBounds_toArray, List.set_cons_zero, List.set_cons_succ]
          refine wpAnyH_done (by kernel_rfl) ?_ _
          go_wp2_with fail
          go_meet
          case rel => exact ⟨wd, _, _, _, _, hbW, rfl, rfl, rfl, rfl, rfl, by unfold Four; omega⟩
        · go_simp
          replace hHeld := hHeld.alloc hHeld.size (Obj.cells #[.int .i64 0, .int .i64 0, .int .i64 0] 24)
          refine hK.out _ _ hHeld ?_
          clear hK K
          try simp only [Act.put, List.setIfInBounds_toArray, List.set_cons_zero, List.set_cons_succ]
          refine rcall 4 rfl (by kernel_rfl) (by rfl) (fun K hK => ?_)
          go_simp
          replace hHeld := hHeld.alloc hHeld.size (Obj.cells #[.int .i64 0, .int .i64 0, .int .i64 0] 24)
          refine hK.out _ _ hHeld ?_
          clear hK K
          try simp only [Act.put, List.setIfInBounds_toArray, List.set_cons_zero, List.set_cons_succ]
          refine rcall 8 rfl (by kernel_rfl) (by rfl) (fun K hK => ?_)
          go_simp
          refine hK.out _ _ ?_ ?_
          · exact below4 _ _ _ _ _
          clear hK K
          try simp only [Act.put, List.setIfInBounds_toArray, List.set_cons_zero, List.set_cons_succ]
          refine rcall 9 rfl (by kernel_rfl) (by rfl) (fun K hK => ?_)
          go_simp
          refine hK.out _ _ ?_ ?_
          · exact below4 _ _ _ _ _
          clear hK K
          try simp only [Act.put, List.setIfInBounds_toArray, List.set_cons_zero, List.set_cons_succ]
          refine rcall 10 rfl (by kernel_rfl) (by rfl) (fun K hK => ?_)
          go_simp
          refine hK.out _ _ ?_ ?_
          · exact below4 _ _ _ _ _
          clear hK K
          try simp only [Act.put, List.setIfInBounds_toArray, List.set_cons_zero, List.set_cons_succ]
          refine rcall 11 rfl (by kernel_rfl) (by rfl) (fun K hK => ?_)
          go_simp
          refine hK.out _ _ ?_ ?_
          · exact below4 _ _ _ _ _
          clear hK K
          try simp only [Act.put, List.setIfInBounds_toArray, List.set_cons_zero, List.set_cons_succ]
          refine wpAnyH_done (by kernel_rfl) ?_ _
          go_wp2_with fail
          go_meet
          case rel => exact ⟨wd, _, _, _, _, hbW, rfl, rfl, rfl, rfl, rfl, by unfold Four; omega⟩
      · go_simp
        replace hHeld := hHeld.alloc hHeld.size (Obj.cells #[.int .i64 0, .int .i64 0, .int .i64 0] 24)
        refine hK.out _ _ hHeld ?_
        clear hK K
        try simp only [Act.put, List.setIfInBounds_toArray, List.set_cons_zero, List.set_cons_succ]
        refine rtwo 4 5 rfl rfl (by kernel_rfl) (by rfl) (by rfl) (fun K hK => ?_) (fun K hK => ?_)
        · go_simp
          replace hHeld := hHeld.alloc hHeld.size (Obj.cells #[.int .i64 0, .int .i64 0, .int .i64 0] 24)
          refine hK.out _ _ hHeld ?_
          clear hK K
          try simp only [Act.put, List.setIfInBounds_toArray, List.set_cons_zero, List.set_cons_succ]
          refine rcall 5 rfl (by kernel_rfl) (by rfl) (fun K hK => ?_)
          go_simp
          replace hHeld := hHeld.alloc hHeld.size (Obj.cells #[.int .i64 0, .int .i64 0, .int .i64 0] 24)
          refine hK.out _ _ hHeld ?_
          clear hK K
          try simp only [Act.put, List.setIfInBounds_toArray, List.set_cons_zero, List.set_cons_succ]
          refine rcall 8 rfl (by kernel_rfl) (by rfl) (fun K hK => ?_)
          go_simp
          refine hK.out _ _ ?_ ?_
          · exact below4 _ _ _ _ _
          clear hK K
          try simp only [Act.put, List.setIfInBounds_toArray, List.set_cons_zero, List.set_cons_succ]
          refine rcall 9 rfl (by kernel_rfl) (by rfl) (fun K hK => ?_)
          go_simp
          refine hK.out _ _ ?_ ?_
          · exact below4 _ _ _ _ _
          clear hK K
          try simp only [Act.put, List.setIfInBounds_toArray, List.set_cons_zero, List.set_cons_succ]
          refine rcall 10 rfl (by kernel_rfl) (by rfl) (fun K hK => ?_)
          go_simp
          refine hK.out _ _ ?_ ?_
          · exact below4 _ _ _ _ _
          clear hK K
          try simp only [Act.put, List.setIfInBounds_toArray, List.set_cons_zero, List.set_cons_succ]
          refine rcall 11 rfl (by kernel_rfl) (by rfl) (fun K hK => ?_)
          go_simp
          refine hK.out _ _ ?_ ?_
          · exact below4 _ _ _ _ _
          clear hK K
          try simp only [Act.put, List.setIfInBounds_toArray, List.set_cons_zero, List.set_cons_succ]
          refine wpAnyH_done (by kernel_rfl) ?_ _
          go_wp2_with fail
          go_meet
          case rel => exact ⟨wd, _, _, _, _, hbW, rfl, rfl, rfl, rfl, rfl, by unfold Four; omega⟩
        · go_simp
          replace hHeld := hHeld.alloc hHeld.size (Obj.cells #[.int .i64 0, .int .i64 0, .int .i64 0] 24)
          refine hK.out _ _ hHeld ?_
          clear hK K
          try simp only [Act.put, List.setIfInBounds_toArray, List.set_cons_zero, List.set_cons_succ]
          refine rcall 4 rfl (by kernel_rfl) (by rfl) (fun K hK => ?_)
          go_simp
          replace hHeld := hHeld.alloc hHeld.size (Obj.cells #[.int .i64 0, .int .i64 0, .int .i64 0] 24)
          refine hK.out _ _ hHeld ?_
          clear hK K
          try simp only [Act.put, List.setIfInBounds_toArray, List.set_cons_zero, List.set_cons_succ]
          refine rcall 8 rfl (by kernel_rfl) (by rfl) (fun K hK => ?_)
          go_simp
          refine hK.out _ _ ?_ ?_
          · exact below4 _ _ _ _ _
          clear hK K
          try simp only [Act.put, List.setIfInBounds_toArray, List.set_cons_zero, List.set_cons_succ]
          refine rcall 9 rfl (by kernel_rfl) (by rfl) (fun K hK => ?_)
          go_simp
          refine hK.out _ _ ?_ ?_
          · exact below4 _ _ _ _ _
          clear hK K
          try simp only [Act.put, List.setIfInBounds_toArray, List.set_cons_zero, List.set_cons_succ]
          refine rcall 10 rfl (by kernel_rfl) (by rfl) (fun K hK => ?_)
          go_simp
          refine hK.out _ _ ?_ ?_
          · exact below4 _ _ _ _ _
          clear hK K
          try simp only [Act.put, List.setIfInBounds_toArray, List.set_cons_zero, List.set_cons_succ]
          refine rcall 11 rfl (by kernel_rfl) (by rfl) (fun K hK => ?_)
          go_simp
          refine hK.out _ _ ?_ ?_
          · exact below4 _ _ _ _ _
          clear hK K
          try simp only [Act.put, List.setIfInBounds_toArray, List.set_cons_zero, List.set_cons_succ]
          refine wpAnyH_done (by kernel_rfl) ?_ _
          go_wp2_with fail
          go_meet
          case rel => exact ⟨wd, _, _, _, _, hbW, rfl, rfl, rfl, rfl, rfl, by unfold Four; omega⟩
    · go_simp
      replace hHeld := hHeld.alloc hHeld.size (Obj.cells #[.int .i64 0, .int .i64 0, .int .i64 0] 24)
      refine hK.out _ _ hHeld ?_
      clear hK K
      try simp only [Act.put, List.setIfInBounds_toArray, List.set_cons_zero, List.set_cons_succ]
      refine rthree 4 5 6 rfl rfl rfl (by kernel_rfl) (by rfl) (by rfl) (by rfl) (fun K hK => ?_) (fun K hK => ?_) (fun K hK => ?_)
      · go_simp
        replace hHeld := hHeld.alloc hHeld.size (Obj.cells #[.int .i64 0, .int .i64 0, .int .i64 0] 24)
        refine hK.out _ _ hHeld ?_
        clear hK K
        try simp only [Act.put, List.setIfInBounds_toArray, List.set_cons_zero, List.set_cons_succ]
        refine rtwo 5 6 rfl rfl (by kernel_rfl) (by rfl) (by rfl) (fun K hK => ?_) (fun K hK => ?_)
        · go_simp
          replace hHeld := hHeld.alloc hHeld.size (Obj.cells #[.int .i64 0, .int .i64 0, .int .i64 0] 24)
          refine hK.out _ _ hHeld ?_
          clear hK K
          try simp only [Act.put, List.setIfInBounds_toArray, List.set_cons_zero, List.set_cons_succ]
          refine rcall 6 rfl (by kernel_rfl) (by rfl) (fun K hK => ?_)
          go_simp
          replace hHeld := hHeld.alloc hHeld.size (Obj.cells #[.int .i64 0, .int .i64 0, .int .i64 0] 24)
          refine hK.out _ _ hHeld ?_
          clear hK K
          try simp only [Act.put, List.setIfInBounds_toArray, List.set_cons_zero, List.set_cons_succ]
          refine rcall 8 rfl (by kernel_rfl) (by rfl) (fun K hK => ?_)
          go_simp
          refine hK.out _ _ ?_ ?_
          · exact below4 _ _ _ _ _
          clear hK K
          try simp only [Act.put, List.setIfInBounds_toArray, List.set_cons_zero, List.set_cons_succ]
          refine rcall 9 rfl (by kernel_rfl) (by rfl) (fun K hK => ?_)
          go_simp
          refine hK.out _ _ ?_ ?_
          · exact below4 _ _ _ _ _
          clear hK K
          try simp only [Act.put, List.setIfInBounds_toArray, List.set_cons_zero, List.set_cons_succ]
          refine rcall 10 rfl (by kernel_rfl) (by rfl) (fun K hK => ?_)
          go_simp
          refine hK.out _ _ ?_ ?_
          · exact below4 _ _ _ _ _
          clear hK K
          try simp only [Act.put, List.setIfInBounds_toArray, List.set_cons_zero, List.set_cons_succ]
          refine rcall 11 rfl (by kernel_rfl) (by rfl) (fun K hK => ?_)
          go_simp
          refine hK.out _ _ ?_ ?_
          · exact below4 _ _ _ _ _
          clear hK K
          try simp only [Act.put, List.setIfInBounds_toArray, List.set_cons_zero, List.set_cons_succ]
          refine wpAnyH_done (by kernel_rfl) ?_ _
          go_wp2_with fail
          go_meet
          case rel => exact ⟨wd, _, _, _, _, hbW, rfl, rfl, rfl, rfl, rfl, by unfold Four; omega⟩
        · go_simp
          replace hHeld := hHeld.alloc hHeld.size (Obj.cells #[.int .i64 0, .int .i64 0, .int .i64 0] 24)
          refine hK.out _ _ hHeld ?_
          clear hK K
          try simp only [Act.put, List.setIfInBounds_toArray, List.set_cons_zero, List.set_cons_succ]
          refine rcall 5 rfl (by kernel_rfl) (by rfl) (fun K hK => ?_)
          go_simp
          replace hHeld := hHeld.alloc hHeld.size (Obj.cells #[.int .i64 0, .int .i64 0, .int .i64 0] 24)
          refine hK.out _ _ hHeld ?_
          clear hK K
          try simp only [Act.put, List.setIfInBounds_toArray, List.set_cons_zero, List.set_cons_succ]
          refine rcall 8 rfl (by kernel_rfl) (by rfl) (fun K hK => ?_)
          go_simp
          refine hK.out _ _ ?_ ?_
          · exact below4 _ _ _ _ _
          clear hK K
          try simp only [Act.put, List.setIfInBounds_toArray, List.set_cons_zero, List.set_cons_succ]
          refine rcall 9 rfl (by kernel_rfl) (by rfl) (fun K hK => ?_)
          go_simp
          refine hK.out _ _ ?_ ?_
          · exact below4 _ _ _ _ _
          clear hK K
          try simp only [Act.put, List.setIfInBounds_toArray, List.set_cons_zero, List.set_cons_succ]
          refine rcall 10 rfl (by kernel_rfl) (by rfl) (fun K hK => ?_)
          go_simp
          refine hK.out _ _ ?_ ?_
          · exact below4 _ _ _ _ _
          clear hK K
          try simp only [Act.put, List.setIfInBounds_toArray, List.set_cons_zero, List.set_cons_succ]
          refine rcall 11 rfl (by kernel_rfl) (by rfl) (fun K hK => ?_)
          go_simp
          refine hK.out _ _ ?_ ?_
          · exact below4 _ _ _ _ _
          clear hK K
          try simp only [Act.put, List.setIfInBounds_toArray, List.set_cons_zero, List.set_cons_succ]
          refine wpAnyH_done (by kernel_rfl) ?_ _
          go_wp2_with fail
          go_meet
          case rel => exact ⟨wd, _, _, _, _, hbW, rfl, rfl, rfl, rfl, rfl, by unfold Four; omega⟩
      · go_simp
        replace hHeld := hHeld.alloc hHeld.size (Obj.cells #[.int .i64 0, .int .i64 0, .int .i64 0] 24)
        refine hK.out _ _ hHeld ?_
        clear hK K
        try simp only [Act.put, List.setIfInBounds_toArray, List.set_cons_zero, List.set_cons_succ]
        refine rtwo 4 6 rfl rfl (by kernel_rfl) (by rfl) (by rfl) (fun K hK => ?_) (fun K hK => ?_)
        · go_simp
          replace hHeld := hHeld.alloc hHeld.size (Obj.cells #[.int .i64 0, .int .i64 0, .int .i64 0] 24)
          refine hK.out _ _ hHeld ?_
          clear hK K
          try simp only [Act.put, List.setIfInBounds_toArray, List.set_cons_zero, List.set_cons_succ]
          refine rcall 6 rfl (by kernel_rfl) (by rfl) (fun K hK => ?_)
          go_simp
          replace hHeld := hHeld.alloc hHeld.size (Obj.cells #[.int .i64 0, .int .i64 0, .int .i64 0] 24)
          refine hK.out _ _ hHeld ?_
          clear hK K
          try simp only [Act.put, List.setIfInBounds_toArray, List.set_cons_zero, List.set_cons_succ]
          refine rcall 8 rfl (by kernel_rfl) (by rfl) (fun K hK => ?_)
          go_simp
          refine hK.out _ _ ?_ ?_
          · exact below4 _ _ _ _ _
          clear hK K
          try simp only [Act.put, List.setIfInBounds_toArray, List.set_cons_zero, List.set_cons_succ]
          refine rcall 9 rfl (by kernel_rfl) (by rfl) (fun K hK => ?_)
          go_simp
          refine hK.out _ _ ?_ ?_
          · exact below4 _ _ _ _ _
          clear hK K
          try simp only [Act.put, List.setIfInBounds_toArray, List.set_cons_zero, List.set_cons_succ]
          refine rcall 10 rfl (by kernel_rfl) (by rfl) (fun K hK => ?_)
          go_simp
          refine hK.out _ _ ?_ ?_
          · exact below4 _ _ _ _ _
          clear hK K
          try simp only [Act.put, List.setIfInBounds_toArray, List.set_cons_zero, List.set_cons_succ]
          refine rcall 11 rfl (by kernel_rfl) (by rfl) (fun K hK => ?_)
          go_simp
          refine hK.out _ _ ?_ ?_
          · exact below4 _ _ _ _ _
          clear hK K
          try simp only [Act.put, List.setIfInBounds_toArray, List.set_cons_zero, List.set_cons_succ]
          refine wpAnyH_done (by kernel_rfl) ?_ _
          go_wp2_with fail
          go_meet
          case rel => exact ⟨wd, _, _, _, _, hbW, rfl, rfl, rfl, rfl, rfl, by unfold Four; omega⟩
        · go_simp
          replace hHeld := hHeld.alloc hHeld.size (Obj.cells #[.int .i64 0, .int .i64 0, .int .i64 0] 24)
          refine hK.out _ _ hHeld ?_
          clear hK K
          try simp only [Act.put, List.setIfInBounds_toArray, List.set_cons_zero, List.set_cons_succ]
          refine rcall 4 rfl (by kernel_rfl) (by rfl) (fun K hK => ?_)
          go_simp
          replace hHeld := hHeld.alloc hHeld.size (Obj.cells #[.int .i64 0, .int .i64 0, .int .i64 0] 24)
          refine hK.out _ _ hHeld ?_
          clear hK K
          try simp only [Act.put, List.setIfInBounds_toArray, List.set_cons_zero, List.set_cons_succ]
          refine rcall 8 rfl (by kernel_rfl) (by rfl) (fun K hK => ?_)
          go_simp
          refine hK.out _ _ ?_ ?_
          · exact below4 _ _ _ _ _
          clear hK K
          try simp only [Act.put, List.setIfInBounds_toArray, List.set_cons_zero, List.set_cons_succ]
          refine rcall 9 rfl (by kernel_rfl) (by rfl) (fun K hK => ?_)
          go_simp
          refine hK.out _ _ ?_ ?_
          · exact below4 _ _ _ _ _
          clear hK K
          try simp only [Act.put, List.setIfInBounds_toArray, List.set_cons_zero, List.set_cons_succ]
          refine rcall 10 rfl (by kernel_rfl) (by rfl) (fun K hK => ?_)
          go_simp
          refine hK.out _ _ ?_ ?_
          · exact below4 _ _ _ _ _
          clear hK K
          try simp only [Act.put, List.setIfInBounds_toArray, List.set_cons_zero, List.set_cons_succ]
          refine rcall 11 rfl (by kernel_rfl) (by rfl) (fun K hK => ?_)
          go_simp
          refine hK.out _ _ ?_ ?_
          · exact below4 _ _ _ _ _
          clear hK K
          try simp only [Act.put, List.setIfInBounds_toArray, List.set_cons_zero, List.set_cons_succ]
          refine wpAnyH_done (by kernel_rfl) ?_ _
          go_wp2_with fail
          go_meet
          case rel => exact ⟨wd, _, _, _, _, hbW, rfl, rfl, rfl, rfl, rfl, by unfold Four; omega⟩
      · go_simp
        replace hHeld := hHeld.alloc hHeld.size (Obj.cells #[.int .i64 0, .int .i64 0, .int .i64 0] 24)
        refine hK.out _ _ hHeld ?_
        clear hK K
        try simp only [Act.put, List.setIfInBounds_toArray, List.set_cons_zero, List.set_cons_succ]
        refine rtwo 4 5 rfl rfl (by kernel_rfl) (by rfl) (by rfl) (fun K hK => ?_) (fun K hK => ?_)
        · go_simp
          replace hHeld := hHeld.alloc hHeld.size (Obj.cells #[.int .i64 0, .int .i64 0, .int .i64 0] 24)
          refine hK.out _ _ hHeld ?_
          clear hK K
          try simp only [Act.put, List.setIfInBounds_toArray, List.set_cons_zero, List.set_cons_succ]
          refine rcall 5 rfl (by kernel_rfl) (by rfl) (fun K hK => ?_)
          go_simp
          replace hHeld := hHeld.alloc hHeld.size (Obj.cells #[.int .i64 0, .int .i64 0, .int .i64 0] 24)
          refine hK.out _ _ hHeld ?_
          clear hK K
          try simp only [Act.put, List.setIfInBounds_toArray, List.set_cons_zero, List.set_cons_succ]
          refine rcall 8 rfl (by kernel_rfl) (by rfl) (fun K hK => ?_)
          go_simp
          refine hK.out _ _ ?_ ?_
          · exact below4 _ _ _ _ _
          clear hK K
          try simp only [Act.put, List.setIfInBounds_toArray, List.set_cons_zero, List.set_cons_succ]
          refine rcall 9 rfl (by kernel_rfl) (by rfl) (fun K hK => ?_)
          go_simp
          refine hK.out _ _ ?_ ?_
          · exact below4 _ _ _ _ _
          clear hK K
          try simp only [Act.put, List.setIfInBounds_toArray, List.set_cons_zero, List.set_cons_succ]
          refine rcall 10 rfl (by kernel_rfl) (by rfl) (fun K hK => ?_)
          go_simp
          refine hK.out _ _ ?_ ?_
          · exact below4 _ _ _ _ _
          clear hK K
          try simp only [Act.put, List.setIfInBounds_toArray, List.set_cons_zero, List.set_cons_succ]
          refine rcall 11 rfl (by kernel_rfl) (by rfl) (fun K hK => ?_)
          go_simp
          refine hK.out _ _ ?_ ?_
          · exact below4 _ _ _ _ _
          clear hK K
          try simp only [Act.put, List.setIfInBounds_toArray, List.set_cons_zero, List.set_cons_succ]
          refine wpAnyH_done (by kernel_rfl) ?_ _
          go_wp2_with fail
          go_meet
          case rel => exact ⟨wd, _, _, _, _, hbW, rfl, rfl, rfl, rfl, rfl, by unfold Four; omega⟩
        · go_simp
          replace hHeld := hHeld.alloc hHeld.size (Obj.cells #[.int .i64 0, .int .i64 0, .int .i64 0] 24)
          refine hK.out _ _ hHeld ?_
          clear hK K
          try simp only [Act.put, List.setIfInBounds_toArray, List.set_cons_zero, List.set_cons_succ]
          refine rcall 4 rfl (by kernel_rfl) (by rfl) (fun K hK => ?_)
          go_simp
          replace hHeld := hHeld.alloc hHeld.size (Obj.cells #[.int .i64 0, .int .i64 0, .int .i64 0] 24)
          refine hK.out _ _ hHeld ?_
          clear hK K
          try simp only [Act.put, List.setIfInBounds_toArray, List.set_cons_zero, List.set_cons_succ]
          refine rcall 8 rfl (by kernel_rfl) (by rfl) (fun K hK => ?_)
          go_simp
          refine hK.out _ _ ?_ ?_
          · exact below4 _ _ _ _ _
          clear hK K
          try simp only [Act.put, List.setIfInBounds_toArray, List.set_cons_zero, List.set_cons_succ]
          refine rcall 9 rfl (by kernel_rfl) (by rfl) (fun K hK => ?_)
          go_simp
          refine hK.out _ _ ?_ ?_
          · exact below4 _ _ _ _ _
          clear hK K
          try simp only [Act.put, List.setIfInBounds_toArray, List.set_cons_zero, List.set_cons_succ]
          refine rcall 10 rfl (by kernel_rfl) (by rfl) (fun K hK => ?_)
          go_simp
          refine hK.out _ _ ?_ ?_
          · exact below4 _ _ _ _ _
          clear hK K
          try simp only [Act.put, List.setIfInBounds_toArray, List.set_cons_zero, List.set_cons_succ]
          refine rcall 11 rfl (by kernel_rfl) (by rfl) (fun K hK => ?_)
          go_simp
          refine hK.out _ _ ?_ ?_
          · exact below4 _ _ _ _ _
          clear hK K
          try simp only [Act.put, List.setIfInBounds_toArray, List.set_cons_zero, List.set_cons_succ]
          refine wpAnyH_done (by kernel_rfl) ?_ _
          go_wp2_with fail
          go_meet
          case rel => exact ⟨wd, _, _, _, _, hbW, rfl, rfl, rfl, rfl, rfl, by unfold Four; omega⟩
-- END LIMITS
  case rest =>
    obtain ⟨wd, g2, g3, g4, g5, hbW, rfl, rfl, rfl, rfl, rfl, hF⟩ := hcut
    have hsz := hbW.size
    have hge : W.heap.size ≤ g2 ∧ W.heap.size ≤ g3 ∧ W.heap.size ≤ g4 ∧ W.heap.size ≤ g5 := by unfold Four at hF; omega
    have b1 : Box wd w.heap.size [.int .i64 255, .int .i64 255, .int .i64 65535] 24 := hA.below hbW
    have n1 := b1.lt
    obtain ⟨B1, B2, B3, B4, B5, hlt, d⟩ := four_boxes wd [.int .i64 255, .int .i64 255, .int .i64 65535] 24 g2 g3 g4 g5 w.heap.size b1 hF
    have hbc := bnext hbW (below4 wd (Obj.cells #[.int .i64 255, .int .i64 255, .int .i64 65535] 24) (Obj.cells #[.int .i64 255, .int .i64 255, .int .i64 65535] 24) (Obj.cells #[.int .i64 255, .int .i64 255, .int .i64 65535] 24) (Obj.cells #[.int .i64 255, .int .i64 255, .int .i64 65535] 24))
    generalize hwc : (((wd.alloc (Obj.cells #[.int .i64 255, .int .i64 255, .int .i64 65535] 24)).alloc (Obj.cells #[.int .i64 255, .int .i64 255, .int .i64 65535] 24)).alloc (Obj.cells #[.int .i64 255, .int .i64 255, .int .i64 65535] 24)).alloc (Obj.cells #[.int .i64 255, .int .i64 255, .int .i64 65535] 24) = wc at *
    clear hwc hbW b1 n1 hF hsz
    have hc := B2.cell 0 _ rfl
    have hf := B2.free 0
    go_upto_region 4 with fail
    clear hf hc
    replace B1 := B1.other (k := g2) (by omega) 0 (.int .i64 256)
    replace B2 := B2.set 0 (.int .i64 256)
    replace B3 := B3.other (k := g2) (by omega) 0 (.int .i64 256)
    replace B4 := B4.other (k := g2) (by omega) 0 (.int .i64 256)
    replace B5 := B5.other (k := g2) (by omega) 0 (.int .i64 256)
    replace hbc := hbc.setCell (p := ⟨g2, 0, none⟩) (by simp only; omega) (.int .i64 256)
    generalize World.setCell _ ⟨g2, 0, none⟩ _ = wsB at *
    have hc := B3.cell 1 _ rfl
    have hf := B3.free 1
    go_upto_region 5 with fail
    clear hf hc
    replace B1 := B1.other (k := g3) (by omega) 1 (.int .i64 256)
    replace B2 := B2.other (k := g3) (by omega) 1 (.int .i64 256)
    replace B3 := B3.set 1 (.int .i64 256)
    replace B4 := B4.other (k := g3) (by omega) 1 (.int .i64 256)
    replace B5 := B5.other (k := g3) (by omega) 1 (.int .i64 256)
    replace hbc := hbc.setCell (p := ⟨g3, 1, none⟩) (by simp only; omega) (.int .i64 256)
    generalize World.setCell _ ⟨g3, 1, none⟩ _ = wsC at *
    have hc := B4.cell 2 _ rfl
    have hf := B4.free 2
    go_upto_region 6 with fail
    clear hf hc
    replace B1 := B1.other (k := g4) (by omega) 2 (.int .i64 65536)
    replace B2 := B2.other (k := g4) (by omega) 2 (.int .i64 65536)
    replace B3 := B3.other (k := g4) (by omega) 2 (.int .i64 65536)
    replace B4 := B4.set 2 (.int .i64 65536)
    replace B5 := B5.other (k := g4) (by omega) 2 (.int .i64 65536)
    replace hbc := hbc.setCell (p := ⟨g4, 2, none⟩) (by simp only; omega) (.int .i64 65536)
    generalize World.setCell _ ⟨g4, 2, none⟩ _ = wsD at *
    have hc := B5.cell 0 _ rfl
    have hf := B5.free 0
    go_upto_region 7 with fail
    clear hf hc
    replace B1 := B1.other (k := g5) (by omega) 0 (.int .i64 (-1))
    replace B2 := B2.other (k := g5) (by omega) 0 (.int .i64 (-1))
    replace B3 := B3.other (k := g5) (by omega) 0 (.int .i64 (-1))
    replace B4 := B4.other (k := g5) (by omega) 0 (.int .i64 (-1))
    replace B5 := B5.set 0 (.int .i64 (-1))
    replace hbc := hbc.setCell (p := ⟨g5, 0, none⟩) (by simp only; omega) (.int .i64 (-1))
    generalize World.setCell _ ⟨g5, 0, none⟩ _ = wsE at *
    have hA := hid fun wx (h : Below wsE.heap.size wsE wx) => B1.below h
    have hB := hid fun wx (h : Below wsE.heap.size wsE wx) => B2.below h
    have hC := hid fun wx (h : Below wsE.heap.size wsE wx) => B3.below h
    have hD := hid fun wx (h : Below wsE.heap.size wsE wx) => B4.below h
    have hE := hid fun wx (h : Below wsE.heap.size wsE wx) => B5.below h
    clear B1 B2 B3 B4 B5
    have hb := Below.refl wsE.heap.size wsE
    have c0 := (hA.out _ hb).cell 0 _ rfl
    have c1 := (hA.out _ hb).cell 1 _ rfl
    have c2 := (hA.out _ hb).cell 2 _ rfl
    go_wp2_with fail
    refine (mayQ_any _ _ _ _).mono ?_
    rintro e w1 ⟨rfl, hbel⟩
    replace hb := bnext hb hbel
    clear hbel
    rw [show mayQ 255 255 65535 = true by decide]
    clear c0 c1 c2
    go_wp2_with fail
    refine (mayQ_any _ _ _ _).mono ?_
    rintro e w2 ⟨rfl, hbel⟩
    replace hb := bnext hb hbel
    clear hbel
    rw [show mayQ 0 0 0 = true by decide]
    have c0 := (hB.out _ hb).cell 0 _ rfl
    have c1 := (hB.out _ hb).cell 1 _ rfl
    have c2 := (hB.out _ hb).cell 2 _ rfl
    go_wp2_with fail
    refine (mayQ_any _ _ _ _).mono ?_
    rintro e w3 ⟨rfl, hbel⟩
    replace hb := bnext hb hbel
    clear hbel
    rw [show mayQ 256 255 65535 = false by decide]
    clear c0 c1 c2
    have c0 := (hC.out _ hb).cell 0 _ rfl
    have c1 := (hC.out _ hb).cell 1 _ rfl
    have c2 := (hC.out _ hb).cell 2 _ rfl
    go_wp2_with fail
    refine (mayQ_any _ _ _ _).mono ?_
    rintro e w4 ⟨rfl, hbel⟩
    replace hb := bnext hb hbel
    clear hbel
    rw [show mayQ 255 256 65535 = false by decide]
    clear c0 c1 c2
    have c0 := (hD.out _ hb).cell 0 _ rfl
    have c1 := (hD.out _ hb).cell 1 _ rfl
    have c2 := (hD.out _ hb).cell 2 _ rfl
    go_wp2_with fail
    refine (mayQ_any _ _ _ _).mono ?_
    rintro e w5 ⟨rfl, hbel⟩
    replace hb := bnext hb hbel
    clear hbel
    rw [show mayQ 255 255 65536 = false by decide]
    clear c0 c1 c2
    have c0 := (hE.out _ hb).cell 0 _ rfl
    have c1 := (hE.out _ hb).cell 1 _ rfl
    have c2 := (hE.out _ hb).cell 2 _ rfl
    go_wp2_with fail
    refine (mayQ_any _ _ _ _).mono ?_
    rintro e w6 ⟨rfl, hbel⟩
    replace hb := bnext hb hbel
    clear hbel
    rw [show mayQ (-1) 255 65535 = false by decide]
    clear c0 c1 c2
    have c0 := (hA.out _ hb).cell 0 _ rfl
    have c1 := (hA.out _ hb).cell 1 _ rfl
    have c2 := (hA.out _ hb).cell 2 _ rfl
    go_wp2_with fail
    refine (qualPut_any _ [] 255 255 65535 _ (Bytes.nil _) (by decide)).mono ?_
    rintro e w7 ⟨x7, rfl, own, hbel⟩
    rw [show [] ++ qualS 255 255 65535 = [255, 255, 255, 255] by decide] at own
    have hst := own.bytes.strs
    replace hb := bnext hb hbel
    clear hbel c0 c1 c2
    have hs0 := hst _ (Below.refl _ _)
    clear hst own
    go_wp2_with fail
    refine (awake05_any _).mono ?_
    rintro e w8 ⟨rfl, hbel⟩
    replace hb := bnext hb hbel
    go_wp2_with fail
    go_ret
    exact ⟨rfl, bnext hbw (bnext hbc hb)⟩
end Go.Proofs.Ytknbflipockegaa
