/- CompareBack and CompareOrder, from contracts of the program's own (gen_veclaws.py). -/
import Derived.Test.YtkhgkngapgaigaaVecLaws0
namespace Go.Proofs.Ytkhgkngapgaigaa
open Go.RowKit Go.Proofs
set_option maxRecDepth 50000
set_option linter.unusedVariables false
set_option linter.unusedSimpArgs false

set_option maxRecDepth 100000 in
set_option maxHeartbeats 8000000 in
theorem compareBack_from (HG : CGrand) (HC : CComp) (HO : COwn) (HB : CNone) (a b : Vc) (ha : VcIn a) (hb0 : VcIn b) (w : World) :
    Calls Try.prog 3 #[.agg (vcL a).toArray, .agg (vcL b).toArray] w fun e w' => e = .returned (.bool true) ∧ Below w.heap.size w w' := by
  have h12 := fun w => HC a b w ha hb0
  have h21 := fun w => HC b a w hb0 ha
  have h11 := fun w => HC a a w ha ha
  have g12 := fun w => HG a b w ha hb0
  have g21 := fun w => HG b a w hb0 ha
  rw [comp_back a b] at h21
  rw [comp_same] at h11
  rw [grand_back a b] at g21
  have hr := comp_range a b
  have hgr := grand_range a b
  have hcg := @comp_grand a b
  generalize compV a b = x at *
  generalize grandV a b = g at *
  have hcase : (g = 1 ∧ x = 2) ∨ (g = -1 ∧ x = -2) ∨ (g = 0 ∧ x = -2) ∨ (g = 0 ∧ x = -1) ∨ (g = 0 ∧ x = 0) ∨ (g = 0 ∧ x = 1) ∨ (g = 0 ∧ x = 2) := by
    rcases hgr with h | h | h
    · have := hcg (by omega); omega
    · omega
    · have := hcg (by omega); omega
  clear hr hgr hcg ha hb0
  go_enter Try.func3, Try.ntmps3
  go_upto_region 1 with fail
  have hM1 : Box ((w.alloc (Obj.cells (vcL a).toArray 28)).alloc (Obj.cells (vcL b).toArray 28)) w.heap.size (vcL a) 28 := (Box.new w _ _).below (bnew _ _)
  have hM2 : Box ((w.alloc (Obj.cells (vcL a).toArray 28)).alloc (Obj.cells (vcL b).toArray 28)) (w.heap.size + 1) (vcL b) 28 := heap_alloc2_new w _ _
  have hb := ((Below.refl w.heap.size w).alloc (Nat.le_refl _) (Obj.cells (vcL a).toArray 28)).alloc (by have := bnew w (Obj.cells (vcL a).toArray 28); exact this.size) (Obj.cells (vcL b).toArray 28)
  change Code.wp Try.prog _ _ _ ((w.alloc (Obj.cells (vcL a).toArray 28)).alloc (Obj.cells (vcL b).toArray 28))
  generalize ((w.alloc (Obj.cells (vcL a).toArray 28)).alloc (Obj.cells (vcL b).toArray 28)) = W at *
  generalize w.heap.size + 1 = G at *
  refine wp_region_held_drew (S := fun w' => Below W.drew.heap.size W.drew w') (by kernel_rfl) (Below.refl _ _) ?_
  intro hHeld
  have hbd := Below.drew (Below.refl W.heap.size W)
  replace hb := bnext hb hbd
  replace hM1 := hM1.below hbd
  replace hM2 := hM2.below hbd
  clear hbd
  generalize W.drew = wd at *
  refine rtake 0 rfl (by rfl) (by kernel_rfl) (by kernel_rfl) (by kernel_rfl) (fun _ _ _ h => h) hHeld (fun wx hwx => exec_load_vec _ rfl w.heap.size rfl a _ (hM1.below hwx)) ?_
  try simp only [Act.put, List.setIfInBounds_toArray, List.set_cons_zero, List.set_cons_succ]
  refine rtake 1 rfl (by rfl) (by kernel_rfl) (by kernel_rfl) (by kernel_rfl) (fun _ _ _ h => h) hHeld (fun wx hwx => exec_load_vec _ rfl G rfl b _ (hM2.below hwx)) ?_
  try simp only [Act.put, List.setIfInBounds_toArray, List.set_cons_zero, List.set_cons_succ]
  refine rtake 3 rfl (by rfl) (by kernel_rfl) (by kernel_rfl) (by kernel_rfl) (fun _ _ _ h => h) hHeld (fun wx hwx => exec_load_vec _ rfl G rfl b _ (hM2.below hwx)) ?_
  try simp only [Act.put, List.setIfInBounds_toArray, List.set_cons_zero, List.set_cons_succ]
  refine rtake 4 rfl (by rfl) (by kernel_rfl) (by kernel_rfl) (by kernel_rfl) (fun _ _ _ h => h) hHeld (fun wx hwx => exec_load_vec _ rfl w.heap.size rfl a _ (hM1.below hwx)) ?_
  try simp only [Act.put, List.setIfInBounds_toArray, List.set_cons_zero, List.set_cons_succ]
  refine rcall 2 rfl (by kernel_rfl) (by rfl) (fun K hK => ?_)
  go_simp
  refine (h12 _).mono ?_
  rintro e w1 ⟨rfl, ba⟩
  refine hK.out _ _ ba ?_
  clear hK K
  refine wpAnyH_mono (S' := fun w' => Below w1.heap.size w1 w') (fun w' h => bnext ba h) _ _ _ _ ?_
  replace hb := bnext hb ba
  replace hM1 := hM1.below ba
  replace hM2 := hM2.below ba
  clear hHeld ba
  have hHeld := Below.refl w1.heap.size w1
  try simp only [Act.put, List.setIfInBounds_toArray, List.set_cons_zero, List.set_cons_succ]
  refine rcall 5 rfl (by kernel_rfl) (by rfl) (fun K hK => ?_)
  go_simp
  refine (h21 _).mono ?_
  rintro e w2 ⟨rfl, ba⟩
  refine hK.out _ _ ba ?_
  clear hK K
  refine wpAnyH_mono (S' := fun w' => Below w2.heap.size w2 w') (fun w' h => bnext ba h) _ _ _ _ ?_
  replace hb := bnext hb ba
  replace hM1 := hM1.below ba
  replace hM2 := hM2.below ba
  clear hHeld ba
  have hHeld := Below.refl w2.heap.size w2
  try simp only [Act.put, List.setIfInBounds_toArray, List.set_cons_zero, List.set_cons_succ]
  refine rtake 6 rfl (by rfl) (by kernel_rfl) (by kernel_rfl) (by kernel_rfl) (fun _ _ _ h => h) hHeld (fun wx hwx => by go_simp; try with_reducible rfl) ?_
  try simp only [Act.put, List.setIfInBounds_toArray, List.set_cons_zero, List.set_cons_succ]
  refine rtake 7 rfl (by rfl) (by kernel_rfl) (by kernel_rfl) (by kernel_rfl) (fun _ _ _ h => h) hHeld (fun wx hwx => by go_simp; try with_reducible rfl) ?_
  try simp only [Act.put, List.setIfInBounds_toArray, List.set_cons_zero, List.set_cons_succ]
  refine wpAnyH_done (by kernel_rfl) ?_ _
  clear hHeld h12 h21
  rcases hcase with ⟨rfl, rfl⟩ | ⟨rfl, rfl⟩ | ⟨rfl, rfl⟩ | ⟨rfl, rfl⟩ | ⟨rfl, rfl⟩ | ⟨rfl, rfl⟩ | ⟨rfl, rfl⟩
  all_goals
    go_wp2_with (first | (guard_target =~ wpList _ _ _ (⟨some 19, _, _, _, _, _⟩ :: _) _ _; refine wpList_load_vec_g (op := ⟨some 19, .load _ _, _, _, _, _⟩) (by rfl) _ (by rfl) w.heap.size (by rfl) (a) _ hM1 ?_) | (guard_target =~ wpList _ _ _ (⟨some 20, _, _, _, _, _⟩ :: _) _ _; refine wpList_load_vec_g (op := ⟨some 20, .load _ _, _, _, _, _⟩) (by rfl) _ (by rfl) w.heap.size (by rfl) (a) _ hM1 ?_))
    refine (h11 _).mono ?_
    rintro e w3 ⟨rfl, b3⟩
    replace hb := bnext hb b3
    replace hM1 := hM1.below b3
    replace hM2 := hM2.below b3
    go_wp2_with (first | (guard_target =~ wpList _ _ _ (⟨some 32, _, _, _, _, _⟩ :: _) _ _; refine wpList_load_vec (op := ⟨some 32, .load _ _, _, _, _, _⟩) (by rfl) _ (by rfl) w.heap.size (by rfl) (a) _ hM1 ?_) | (guard_target =~ wpList _ _ _ (⟨some 33, _, _, _, _, _⟩ :: _) _ _; refine wpList_load_vec (op := ⟨some 33, .load _ _, _, _, _, _⟩) (by rfl) _ (by rfl) G (by rfl) (b) _ hM2 ?_))
    refine (g12 _).mono ?_
    rintro e w4 ⟨rfl, b4⟩
    replace hb := bnext hb b4
    replace hM1 := hM1.below b4
    replace hM2 := hM2.below b4
    go_wp2_with (first | (guard_target =~ wpList _ _ _ (⟨some 44, _, _, _, _, _⟩ :: _) _ _; refine wpList_load_vec_g (op := ⟨some 44, .load _ _, _, _, _, _⟩) (by rfl) _ (by rfl) G (by rfl) (b) _ hM2 ?_) | (guard_target =~ wpList _ _ _ (⟨some 45, _, _, _, _, _⟩ :: _) _ _; refine wpList_load_vec_g (op := ⟨some 45, .load _ _, _, _, _, _⟩) (by rfl) _ (by rfl) w.heap.size (by rfl) (a) _ hM1 ?_))
    refine (g21 _).mono ?_
    rintro e w5 ⟨rfl, b5⟩
    replace hb := bnext hb b5
    go_wp2_with fail
    refine (awake11_from HC HO HB _).mono ?_
    rintro e wz ⟨rfl, bz⟩
    go_wp2_with fail
    go_ret
    exact ⟨rfl, bnext hb bz⟩

set_option maxRecDepth 100000 in
set_option maxHeartbeats 8000000 in
theorem compareOrder_from (HG : CGrand) (HC : CComp) (HO : COwn) (HB : CNone) (a b c : Vc) (ha : VcIn a) (hb0 : VcIn b) (hc0 : VcIn c) (w : World) :
    Calls Try.prog 4 #[.agg (vcL a).toArray, .agg (vcL b).toArray, .agg (vcL c).toArray] w fun e w' => e = .returned (.bool true) ∧ Below w.heap.size w w' := by
  have g12 := fun w => HG a b w ha hb0
  have g23 := fun w => HG b c w hb0 hc0
  have g13 := fun w => HG a c w ha hc0
  have h1 := grand_range a b
  have h2 := grand_range b c
  have h3 := grand_range a c
  have ht := @grand_trans a b c
  generalize grandV a b = x at *
  generalize grandV b c = y at *
  generalize grandV a c = z at *
  clear ha hb0 hc0
  go_enter Try.func4, Try.ntmps4
  go_upto_region 1 with fail
  have hM1 : Box (((w.alloc (Obj.cells (vcL a).toArray 28)).alloc (Obj.cells (vcL b).toArray 28)).alloc (Obj.cells (vcL c).toArray 28)) w.heap.size (vcL a) 28 := ((Box.new w _ _).below (bnew _ _)).below (bnew _ _)
  have hM2 : Box (((w.alloc (Obj.cells (vcL a).toArray 28)).alloc (Obj.cells (vcL b).toArray 28)).alloc (Obj.cells (vcL c).toArray 28)) (w.heap.size + 1) (vcL b) 28 := Box.below (heap_alloc2_new w _ _) (bnew _ _)
  have hM3 : Box (((w.alloc (Obj.cells (vcL a).toArray 28)).alloc (Obj.cells (vcL b).toArray 28)).alloc (Obj.cells (vcL c).toArray 28)) (w.heap.size + 1 + 1) (vcL c) 28 := by
    have h := Box.new ((w.alloc (Obj.cells (vcL a).toArray 28)).alloc (Obj.cells (vcL b).toArray 28)) (vcL c) 28
    have e : ((w.alloc (Obj.cells (vcL a).toArray 28)).alloc (Obj.cells (vcL b).toArray 28)).heap.size = w.heap.size + 1 + 1 := by simp
    rw [e] at h
    exact h
  have hb : Below w.heap.size w (((w.alloc (Obj.cells (vcL a).toArray 28)).alloc (Obj.cells (vcL b).toArray 28)).alloc (Obj.cells (vcL c).toArray 28)) := bnext (bnext (bnew _ _) (bnew _ _)) (bnew _ _)
  change Code.wp Try.prog _ _ _ (((w.alloc (Obj.cells (vcL a).toArray 28)).alloc (Obj.cells (vcL b).toArray 28)).alloc (Obj.cells (vcL c).toArray 28))
  generalize (((w.alloc (Obj.cells (vcL a).toArray 28)).alloc (Obj.cells (vcL b).toArray 28)).alloc (Obj.cells (vcL c).toArray 28)) = W at *
  generalize w.heap.size + 1 + 1 = G3 at *
  generalize w.heap.size + 1 = G at *
  refine wp_region_held_drew (S := fun w' => Below W.drew.heap.size W.drew w') (by kernel_rfl) (Below.refl _ _) ?_
  intro hHeld
  have hbd := Below.drew (Below.refl W.heap.size W)
  replace hb := bnext hb hbd
  replace hM1 := hM1.below hbd
  replace hM2 := hM2.below hbd
  replace hM3 := hM3.below hbd
  clear hbd
  generalize W.drew = wd at *
  refine rtake 0 rfl (by rfl) (by kernel_rfl) (by kernel_rfl) (by kernel_rfl) (fun _ _ _ h => h) hHeld (fun wx hwx => exec_load_vec _ rfl w.heap.size rfl a _ (hM1.below hwx)) ?_
  try simp only [Act.put, List.setIfInBounds_toArray, List.set_cons_zero, List.set_cons_succ]
  refine rtake 1 rfl (by rfl) (by kernel_rfl) (by kernel_rfl) (by kernel_rfl) (fun _ _ _ h => h) hHeld (fun wx hwx => exec_load_vec _ rfl G rfl b _ (hM2.below hwx)) ?_
  try simp only [Act.put, List.setIfInBounds_toArray, List.set_cons_zero, List.set_cons_succ]
  refine rtake 3 rfl (by rfl) (by kernel_rfl) (by kernel_rfl) (by kernel_rfl) (fun _ _ _ h => h) hHeld (fun wx hwx => exec_load_vec _ rfl G rfl b _ (hM2.below hwx)) ?_
  try simp only [Act.put, List.setIfInBounds_toArray, List.set_cons_zero, List.set_cons_succ]
  refine rtake 4 rfl (by rfl) (by kernel_rfl) (by kernel_rfl) (by kernel_rfl) (fun _ _ _ h => h) hHeld (fun wx hwx => exec_load_vec _ rfl G3 rfl c _ (hM3.below hwx)) ?_
  try simp only [Act.put, List.setIfInBounds_toArray, List.set_cons_zero, List.set_cons_succ]
  refine rtake 6 rfl (by rfl) (by kernel_rfl) (by kernel_rfl) (by kernel_rfl) (fun _ _ _ h => h) hHeld (fun wx hwx => exec_load_vec _ rfl w.heap.size rfl a _ (hM1.below hwx)) ?_
  try simp only [Act.put, List.setIfInBounds_toArray, List.set_cons_zero, List.set_cons_succ]
  refine rtake 7 rfl (by rfl) (by kernel_rfl) (by kernel_rfl) (by kernel_rfl) (fun _ _ _ h => h) hHeld (fun wx hwx => exec_load_vec _ rfl G3 rfl c _ (hM3.below hwx)) ?_
  try simp only [Act.put, List.setIfInBounds_toArray, List.set_cons_zero, List.set_cons_succ]
  refine rcall 2 rfl (by kernel_rfl) (by rfl) (fun K hK => ?_)
  go_simp
  refine (g12 _).mono ?_
  rintro e w1 ⟨rfl, ba⟩
  refine hK.out _ _ ba ?_
  clear hK K
  refine wpAnyH_mono (S' := fun w' => Below w1.heap.size w1 w') (fun w' h => bnext ba h) _ _ _ _ ?_
  replace hb := bnext hb ba
  replace hM1 := hM1.below ba
  replace hM2 := hM2.below ba
  replace hM3 := hM3.below ba
  clear hHeld ba
  have hHeld := Below.refl w1.heap.size w1
  try simp only [Act.put, List.setIfInBounds_toArray, List.set_cons_zero, List.set_cons_succ]
  refine rcall 5 rfl (by kernel_rfl) (by rfl) (fun K hK => ?_)
  go_simp
  refine (g23 _).mono ?_
  rintro e w2 ⟨rfl, ba⟩
  refine hK.out _ _ ba ?_
  clear hK K
  refine wpAnyH_mono (S' := fun w' => Below w2.heap.size w2 w') (fun w' h => bnext ba h) _ _ _ _ ?_
  replace hb := bnext hb ba
  replace hM1 := hM1.below ba
  replace hM2 := hM2.below ba
  replace hM3 := hM3.below ba
  clear hHeld ba
  have hHeld := Below.refl w2.heap.size w2
  try simp only [Act.put, List.setIfInBounds_toArray, List.set_cons_zero, List.set_cons_succ]
  refine rcall 8 rfl (by kernel_rfl) (by rfl) (fun K hK => ?_)
  go_simp
  refine (g13 _).mono ?_
  rintro e w3 ⟨rfl, ba⟩
  refine hK.out _ _ ba ?_
  clear hK K
  refine wpAnyH_mono (S' := fun w' => Below w3.heap.size w3 w') (fun w' h => bnext ba h) _ _ _ _ ?_
  replace hb := bnext hb ba
  replace hM1 := hM1.below ba
  replace hM2 := hM2.below ba
  replace hM3 := hM3.below ba
  clear hHeld ba
  have hHeld := Below.refl w3.heap.size w3
  try simp only [Act.put, List.setIfInBounds_toArray, List.set_cons_zero, List.set_cons_succ]
  refine rtake 9 rfl (by rfl) (by kernel_rfl) (by kernel_rfl) (by kernel_rfl) (fun _ _ _ h => h) hHeld (fun wx hwx => by go_simp; try with_reducible rfl) ?_
  try simp only [Act.put, List.setIfInBounds_toArray, List.set_cons_zero, List.set_cons_succ]
  refine rtake 10 rfl (by rfl) (by kernel_rfl) (by kernel_rfl) (by kernel_rfl) (fun _ _ _ h => h) hHeld (fun wx hwx => by go_simp; try with_reducible rfl) ?_
  try simp only [Act.put, List.setIfInBounds_toArray, List.set_cons_zero, List.set_cons_succ]
  refine rtake 11 rfl (by rfl) (by kernel_rfl) (by kernel_rfl) (by kernel_rfl) (fun _ _ _ h => h) hHeld (fun wx hwx => by go_simp; try with_reducible rfl) ?_
  try simp only [Act.put, List.setIfInBounds_toArray, List.set_cons_zero, List.set_cons_succ]
  refine wpAnyH_done (by kernel_rfl) ?_ _
  clear hHeld g12 g23 g13 hM1 hM2 hM3
  have hcase : (0 < x) ∨ (x ≤ 0 ∧ 0 < y) ∨ (x ≤ 0 ∧ y ≤ 0 ∧ z ≤ 0 ∧ (x < 0 → z < 0)) := by
    by_cases e1 : x ≤ 0
    · by_cases e2 : y ≤ 0
      · have := ht e1 e2
        exact .inr (.inr ⟨e1, e2, this.1, this.2.1⟩)
      · exact .inr (.inl ⟨e1, by omega⟩)
    · exact .inl (by omega)
  clear ht
  rcases h1 with rfl | rfl | rfl <;> rcases h2 with rfl | rfl | rfl <;> rcases h3 with rfl | rfl | rfl
  all_goals first
    | (exfalso; omega)
    | (go_wp2_with fail
       refine (awake11_from HC HO HB _).mono ?_
       rintro e wz ⟨rfl, bz⟩
       go_wp2_with fail
       go_ret
       exact ⟨rfl, bnext hb bz⟩)

end Go.Proofs.Ytkhgkngapgaigaa
