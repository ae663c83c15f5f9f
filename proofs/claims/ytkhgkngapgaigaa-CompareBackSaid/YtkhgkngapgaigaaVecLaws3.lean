/- CompareRing, from contracts of the program's own (gen_veclaws.py). -/
import Derived.Test.YtkhgkngapgaigaaVecLaws0
import Derived.Test.YtkhgkngapgaigaaPlace
import Derived.Test.YtkhgkngapgaigaaNum
namespace Go.Proofs.Ytkhgkngapgaigaa
open Go.RowKit Go.Proofs
set_option maxRecDepth 50000
set_option linter.unusedVariables false
set_option linter.unusedSimpArgs false

set_option maxRecDepth 100000 in
set_option maxHeartbeats 8000000 in
theorem compareRing_from (HG : CGrand) (HC : CComp) (HO : COwn) (HB : CNone) (a : Vc) (ha : VcIn a) (sc sp rc rp : Int) (hs : U64 sc ∧ I64 sp) (hr : U64 rc ∧ I64 rp) (w : World) :
    Calls Try.prog 8 #[.agg (vcL a).toArray, .agg #[.int .u64 sc, .int .i64 sp], .agg #[.int .u64 rc, .int .i64 rp]] w fun e w' => e = .returned (.bool true) ∧ Below w.heap.size w w' := by
  have hq := and_mask a.st 8 (by decide)
  rw [show (2 : Int) ^ 8 - 1 = 255 by decide, show (2 : Int) ^ 8 = 256 by decide] at hq
  obtain ⟨q, hq1, hq2, hq3⟩ : ∃ q : Int, a.st % 256 = q ∧ 0 ≤ q ∧ q < 256 := ⟨_, rfl, Int.emod_nonneg _ (by decide), Int.emod_lt_of_pos _ (by decide)⟩
  rw [hq1] at hq
  clear hq1
  obtain ⟨a1, e1⟩ : ∃ a1 : Vc, { a with st := q } = a1 := ⟨_, rfl⟩
  obtain ⟨b2, e2⟩ : ∃ b2 : Vc, { a with st := q + 1, sc := sc, sp := sp, rc := rc, rp := rp } = b2 := ⟨_, rfl⟩
  have i1 : VcIn a1 := by rw [← e1]; obtain ⟨y1, y2, y3, y4, y5, y6, y7, y8⟩ := ha; exact ⟨y1, y2, y3, y4, y5, y6, by unfold I64; simp only; omega, y8⟩
  have i2 : VcIn b2 := by rw [← e2]; obtain ⟨y1, y2, y3, y4, y5, y6, y7, y8⟩ := ha; exact ⟨y1, y2, y3, y4, y5, y6, by unfold I64; simp only; omega, hs.1, hs.2, hr.1, hr.2⟩
  have k21 : compV b2 a1 = longV b2 := by
    rw [← e1, ← e2]
    have h := grand_same a
    unfold compV grandV keyG at *
    simp only at h ⊢
    rw [h, if_neg (by simp), if_neg (by omega), if_neg (by omega), if_pos (by omega)]
  have hlong : longV b2 = if lexL [rc, rp] [sc, sp] = -1 then 2 else if lexL [rc, rp] [sc, sp] = 1 then 1 else 0 := by rw [← e2]; rfl
  have c21 := fun w => HC b2 a1 w i2 i1
  have c12 := fun w => HC a1 b2 w i1 i2
  rw [comp_back b2 a1] at c12
  rw [k21] at c21 c12
  have hset1 : (vcL a).set 6 (.int .i64 q) = vcL a1 := by rw [← e1]; rfl
  have hset2 : (((((vcL a1).set 6 (.int .i64 (q + 1))).set 7 (.int .u64 sc)).set 8 (.int .i64 sp)).set 9 (.int .u64 rc)).set 10 (.int .i64 rp) = vcL b2 := by rw [← e1, ← e2]; rfl
  have hA6 : a1.st = q := by rw [← e1]
  have hcase : (rc = sc ∧ rp = sp ∧ longV b2 = 0) ∨ ((rc == sc) = false ∧ rc < sc ∧ ¬ sc < rc ∧ longV b2 = 2) ∨ (rc = sc ∧ (rp == sp) = false ∧ rp < sp ∧ longV b2 = 2) ∨ ((rc == sc) = false ∧ ¬ rc < sc ∧ longV b2 = 1) ∨ (rc = sc ∧ (rp == sp) = false ∧ ¬ rp < sp ∧ longV b2 = 1) := by
    rw [hlong]
    unfold lexL lexL
    by_cases f1 : rc < sc
    · right; left
      refine ⟨beq_false_of_ne (by omega), f1, by omega, ?_⟩
      rw [if_pos f1]; rfl
    · by_cases f2 : sc < rc
      · right; right; right; left
        refine ⟨beq_false_of_ne (by omega), f1, ?_⟩
        rw [if_neg f1, if_pos f2]; rfl
      · obtain rfl : rc = sc := by omega
        by_cases f3 : rp < sp
        · right; right; left
          refine ⟨rfl, beq_false_of_ne (by omega), f3, ?_⟩
          rw [if_neg f1, if_neg f1, if_pos f3]; rfl
        · by_cases f4 : sp < rp
          · right; right; right; right
            refine ⟨rfl, beq_false_of_ne (by omega), f3, ?_⟩
            rw [if_neg f1, if_neg f1, if_neg f3, if_pos f4]; rfl
          · left
            refine ⟨rfl, by omega, ?_⟩
            rw [if_neg f1, if_neg f1, if_neg f3, if_neg f4]; rfl
  clear hlong k21 i1 i2 ha hs hr
  generalize longV b2 = x at *
  go_enter Try.func8, Try.ntmps8
  go_upto_region 1 with fail
  have hM1 : Box (((w.alloc (Obj.cells (vcL a).toArray 28)).alloc (Obj.cells #[.int .u64 sc, .int .i64 sp] 26)).alloc (Obj.cells #[.int .u64 rc, .int .i64 rp] 26)) w.heap.size (vcL a) 28 := ((Box.new w _ _).below (bnew _ _)).below (bnew _ _)
  have hM2 : Box (((w.alloc (Obj.cells (vcL a).toArray 28)).alloc (Obj.cells #[.int .u64 sc, .int .i64 sp] 26)).alloc (Obj.cells #[.int .u64 rc, .int .i64 rp] 26)) (w.heap.size + 1) [.int .u64 sc, .int .i64 sp] 26 := Box.below (heap_alloc2_new w _ _) (bnew _ _)
  have hM3 : Box (((w.alloc (Obj.cells (vcL a).toArray 28)).alloc (Obj.cells #[.int .u64 sc, .int .i64 sp] 26)).alloc (Obj.cells #[.int .u64 rc, .int .i64 rp] 26)) (w.heap.size + 1 + 1) [.int .u64 rc, .int .i64 rp] 26 := by
    have h := Box.new ((w.alloc (Obj.cells (vcL a).toArray 28)).alloc (Obj.cells #[.int .u64 sc, .int .i64 sp] 26)) [.int .u64 rc, .int .i64 rp] 26
    have e : ((w.alloc (Obj.cells (vcL a).toArray 28)).alloc (Obj.cells #[.int .u64 sc, .int .i64 sp] 26)).heap.size = w.heap.size + 1 + 1 := by simp
    rw [e] at h
    exact h
  have hb : Below w.heap.size w (((w.alloc (Obj.cells (vcL a).toArray 28)).alloc (Obj.cells #[.int .u64 sc, .int .i64 sp] 26)).alloc (Obj.cells #[.int .u64 rc, .int .i64 rp] 26)) := bnext (bnext (bnew _ _) (bnew _ _)) (bnew _ _)
  have hs3 : w.heap.size + 3 ≤ (((w.alloc (Obj.cells (vcL a).toArray 28)).alloc (Obj.cells #[.int .u64 sc, .int .i64 sp] 26)).alloc (Obj.cells #[.int .u64 rc, .int .i64 rp] 26)).heap.size := by simp
  change Code.wp Try.prog _ _ _ (((w.alloc (Obj.cells (vcL a).toArray 28)).alloc (Obj.cells #[.int .u64 sc, .int .i64 sp] 26)).alloc (Obj.cells #[.int .u64 rc, .int .i64 rp] 26))
  generalize (((w.alloc (Obj.cells (vcL a).toArray 28)).alloc (Obj.cells #[.int .u64 sc, .int .i64 sp] 26)).alloc (Obj.cells #[.int .u64 rc, .int .i64 rp] 26)) = W at *
  generalize hG3 : w.heap.size + 1 + 1 = G3 at *
  generalize hG : w.heap.size + 1 = G at *
  have c6 := hM1.cell 6 _ rfl
  have f6 := hM1.free 6
  go_upto_region 2 with fail
  replace hM2 := hM2.other (by omega : G ≠ w.heap.size) 6 (.int .i64 q)
  replace hM3 := hM3.other (by omega : G3 ≠ w.heap.size) 6 (.int .i64 q)
  replace hM1 := hM1.set 6 (.int .i64 q)
  rw [hset1] at hM1
  replace hb := hb.setCell (p := ⟨w.heap.size, 6, none⟩) (Nat.le_refl _) (.int .i64 q)
  have hs4 : w.heap.size + 3 ≤ (W.setCell ⟨w.heap.size, 6, none⟩ (.int .i64 q)).heap.size := by have := hM3.lt; omega
  clear c6 f6 hq hs3
  generalize World.setCell _ _ _ = W2 at *
  have N := Box.new W2 ([.int .i64 0, .int .i64 0, .int .i64 0, .int .i64 0, .int .i64 0, .int .u64 0, .int .i64 0, .int .u64 0, .int .i64 0, .int .u64 0, .int .i64 0]) 28
  have nb := bnew W2 (Obj.cells ([.int .i64 0, .int .i64 0, .int .i64 0, .int .i64 0, .int .i64 0, .int .u64 0, .int .i64 0, .int .u64 0, .int .i64 0, .int .u64 0, .int .i64 0]).toArray 28)
  go_upto_region 3 with (first | (guard_target =~ wpList _ _ _ (⟨some 15, _, _, _, _, _⟩ :: _) _ _; refine wpList_load_vec (op := ⟨some 15, .load _ _, _, _, _, _⟩) (by rfl) _ (by rfl) w.heap.size (by rfl) (a1) _ hM1 ?_) | (guard_target =~ wpList _ _ _ (⟨none, _, _, _, _, _⟩ :: _) _ _; refine wpList_store_vec (op := ⟨none, .store _ _ _, _, _, _, _⟩) (by rfl) _ _ (by rfl) (W2.heap.size) (a1) (zeroV) _ (by rfl) (by rfl) N ?_))
  have B := N.rowV (vcL a1)
  replace nb := below_setRow nb (Nat.le_refl _) (vcL a1).toArray
  change Code.wp _ _ _ _ ((W2.alloc (Obj.cells ([.int .i64 0, .int .i64 0, .int .i64 0, .int .i64 0, .int .i64 0, .int .u64 0, .int .i64 0, .int .u64 0, .int .i64 0, .int .u64 0, .int .i64 0]).toArray 28)).setRow W2.heap.size (vcL a1).toArray)
  generalize ((W2.alloc (Obj.cells ([.int .i64 0, .int .i64 0, .int .i64 0, .int .i64 0, .int .i64 0, .int .u64 0, .int .i64 0, .int .u64 0, .int .i64 0, .int .u64 0, .int .i64 0]).toArray 28)).setRow W2.heap.size (vcL a1).toArray) = W3 at *
  generalize hgB : W2.heap.size = gB at *
  have nc : Below W2.heap.size W2 W3 := by rw [hgB]; exact nb
  replace hb := bnext hb nc
  replace hM1 := hM1.below nc
  replace hM2 := hM2.below nc
  replace hM3 := hM3.below nc
  clear N nb nc
  have hgB : G3 < gB := by omega
  have c6 := hM1.cell 6 _ rfl
  rw [hA6] at c6
  have d6 := B.cell 6 _ rfl
  have f6 := B.free 6
  have hw1 : IntKind.i64.wrap (q + 1) = q + 1 := by rw [IntKind.wrap_i64]; omega
  go_upto_region 4 with fail
  replace hM1 := hM1.other (by omega : w.heap.size ≠ gB) 6 (.int .i64 (q + 1))
  replace hM2 := hM2.other (by omega : G ≠ gB) 6 (.int .i64 (q + 1))
  replace hM3 := hM3.other (by omega : G3 ≠ gB) 6 (.int .i64 (q + 1))
  replace B := B.set 6 (.int .i64 (q + 1))
  replace hb := hb.setCell (p := ⟨gB, 6, none⟩) (by show w.heap.size ≤ gB; omega) (.int .i64 (q + 1))
  clear c6 d6 f6 hw1
  generalize World.setCell _ _ _ = W4 at *
  have hbd := Below.drew (Below.refl W4.heap.size W4)
  refine wp_region_held_drew (S := fun w' => Below w.heap.size w w' ∧ Box w' G [.int .u64 sc, .int .i64 sp] 26 ∧ Box w' G3 [.int .u64 rc, .int .i64 rp] 26) (by kernel_rfl) ⟨bnext hb hbd, hM2.below hbd, hM3.below hbd⟩ ?_
  intro hHeld
  replace hb := bnext hb hbd
  replace hM1 := hM1.below hbd
  replace hM2 := hM2.below hbd
  replace hM3 := hM3.below hbd
  replace B := B.below hbd
  clear hbd
  generalize W4.drew = wd at *
  refine rtake 0 rfl (by rfl) (by kernel_rfl) (by kernel_rfl) (by kernel_rfl) (fun _ _ _ h => h) hHeld (fun wx hwx => by have e0 := hwx.2.1.cell 0 _ rfl; have e1 := hwx.2.1.cell 1 _ rfl; go_simp; try with_reducible rfl) ?_
  try simp only [Act.put, List.setIfInBounds_toArray, List.set_cons_zero, List.set_cons_succ]
  refine rtake 1 rfl (by rfl) (by kernel_rfl) (by kernel_rfl) (by kernel_rfl) (fun _ _ _ h => h) hHeld (fun wx hwx => by have e0 := hwx.2.2.cell 0 _ rfl; have e1 := hwx.2.2.cell 1 _ rfl; go_simp; try with_reducible rfl) ?_
  try simp only [Act.put, List.setIfInBounds_toArray, List.set_cons_zero, List.set_cons_succ]
  refine rtake 2 rfl (by rfl) (by kernel_rfl) (by kernel_rfl) (by kernel_rfl) (fun _ _ _ h => h) hHeld (fun wx hwx => by go_simp; try with_reducible rfl) ?_
  try simp only [Act.put, List.setIfInBounds_toArray, List.set_cons_zero, List.set_cons_succ]
  refine rcall 3 rfl (by kernel_rfl) (by rfl) (fun K hK => ?_)
  have d0 := B.cell 7 _ rfl
  have d1 := B.cell 8 _ rfl
  have f0 := B.free 7
  have f1 := B.free 8
  have d1' := (B.set 7 (.int .u64 sc)).cell 8 _ rfl
  have f1' := (B.set 7 (.int .u64 sc)).free 8
  go_simp
  replace hM1 := (hM1.other (k := gB) (by omega) 7 (.int .u64 sc)).other (k := gB) (by omega) 8 (.int .i64 sp)
  replace hM2 := (hM2.other (k := gB) (by omega) 7 (.int .u64 sc)).other (k := gB) (by omega) 8 (.int .i64 sp)
  replace hM3 := (hM3.other (k := gB) (by omega) 7 (.int .u64 sc)).other (k := gB) (by omega) 8 (.int .i64 sp)
  replace B := (B.set 7 (.int .u64 sc)).set 8 (.int .i64 sp)
  replace hb := (hb.setCell (p := ⟨gB, 7, none⟩) (by show w.heap.size ≤ gB; omega) (.int .u64 sc)).setCell (p := ⟨gB, 8, none⟩) (by show w.heap.size ≤ gB; omega) (.int .i64 sp)
  refine hK.out _ _ ⟨hb, hM2, hM3⟩ ?_
  clear hK K d0 d1 f0 f1 d1' f1' hHeld
  have hHeld := (⟨hb, hM2, hM3⟩ : _ ∧ _ ∧ _)
  generalize World.setCell _ _ _ = wd3 at *
  try simp only [Act.put, List.setIfInBounds_toArray, List.set_cons_zero, List.set_cons_succ]
  refine rtake 4 rfl (by rfl) (by kernel_rfl) (by kernel_rfl) (by kernel_rfl) (fun _ _ _ h => h) hHeld (fun wx hwx => by go_simp; try with_reducible rfl) ?_
  try simp only [Act.put, List.setIfInBounds_toArray, List.set_cons_zero, List.set_cons_succ]
  refine rcall 5 rfl (by kernel_rfl) (by rfl) (fun K hK => ?_)
  have d0 := B.cell 9 _ rfl
  have d1 := B.cell 10 _ rfl
  have f0 := B.free 9
  have f1 := B.free 10
  have d1' := (B.set 9 (.int .u64 rc)).cell 10 _ rfl
  have f1' := (B.set 9 (.int .u64 rc)).free 10
  go_simp
  replace hM1 := (hM1.other (k := gB) (by omega) 9 (.int .u64 rc)).other (k := gB) (by omega) 10 (.int .i64 rp)
  replace hM2 := (hM2.other (k := gB) (by omega) 9 (.int .u64 rc)).other (k := gB) (by omega) 10 (.int .i64 rp)
  replace hM3 := (hM3.other (k := gB) (by omega) 9 (.int .u64 rc)).other (k := gB) (by omega) 10 (.int .i64 rp)
  replace B := (B.set 9 (.int .u64 rc)).set 10 (.int .i64 rp)
  replace hb := (hb.setCell (p := ⟨gB, 9, none⟩) (by show w.heap.size ≤ gB; omega) (.int .u64 rc)).setCell (p := ⟨gB, 10, none⟩) (by show w.heap.size ≤ gB; omega) (.int .i64 rp)
  refine hK.out _ _ ⟨hb, hM2, hM3⟩ ?_
  clear hK K d0 d1 f0 f1 d1' f1' hHeld
  have hHeld := (⟨hb, hM2, hM3⟩ : _ ∧ _ ∧ _)
  generalize World.setCell _ _ _ = wd5 at *
  try simp only [Act.put, List.setIfInBounds_toArray, List.set_cons_zero, List.set_cons_succ]
  refine wpAnyH_done (by kernel_rfl) ?_ _
  clear hHeld
  rw [hset2] at B
  go_wp2_with (first | (guard_target =~ wpList _ _ _ (⟨some 24, _, _, _, _, _⟩ :: _) _ _; refine wpList_load_vec (op := ⟨some 24, .load _ _, _, _, _, _⟩) (by rfl) _ (by rfl) gB (by rfl) (b2) _ B ?_) | (guard_target =~ wpList _ _ _ (⟨some 25, _, _, _, _, _⟩ :: _) _ _; refine wpList_load_vec (op := ⟨some 25, .load _ _, _, _, _, _⟩) (by rfl) _ (by rfl) w.heap.size (by rfl) (a1) _ hM1 ?_))
  refine (c21 _).mono ?_
  rintro e w7 ⟨rfl, b7⟩
  replace hb := bnext hb b7
  replace hM1 := hM1.below b7
  replace hM2 := hM2.below b7
  replace hM3 := hM3.below b7
  replace B := B.below b7
  have s0 := hM2.cell 0 _ rfl
  have s1 := hM2.cell 1 _ rfl
  have r0 := hM3.cell 0 _ rfl
  have r1 := hM3.cell 1 _ rfl
  clear c21
  rcases hcase with ⟨rfl, rfl, rfl⟩ | ⟨t1, t2, t3, rfl⟩ | ⟨rfl, t1, t2, rfl⟩ | ⟨t1, t2, rfl⟩ | ⟨rfl, t1, t2, rfl⟩
  all_goals
    go_upto_region 12 with fail
    try clear t1
    try clear t2
    try clear t3
    go_wp2_with (first | (guard_target =~ wpList _ _ _ (⟨some 56, _, _, _, _, _⟩ :: _) _ _; refine wpList_load_vec_g (op := ⟨some 56, .load _ _, _, _, _, _⟩) (by rfl) _ (by rfl) w.heap.size (by rfl) (a1) _ hM1 ?_) | (guard_target =~ wpList _ _ _ (⟨some 57, _, _, _, _, _⟩ :: _) _ _; refine wpList_load_vec_g (op := ⟨some 57, .load _ _, _, _, _, _⟩) (by rfl) _ (by rfl) gB (by rfl) (b2) _ B ?_))
    refine (c12 _).mono ?_
    rintro e w8 ⟨rfl, b8⟩
    replace hb := bnext hb b8
    go_wp2_with fail
    refine (awake11_from HC HO HB _).mono ?_
    rintro e wz ⟨rfl, bz⟩
    go_wp2_with fail
    go_ret
    exact ⟨rfl, bnext hb bz⟩

end Go.Proofs.Ytkhgkngapgaigaa
