/- CompareSteps and CompareRing, from contracts of the program's own (gen_veclaws.py). -/
import Derived.Test.YtkhgkngapgaigaaVecLaws0
import Derived.Test.YtkhgkngapgaigaaPlace
namespace Go.Proofs.Ytkhgkngapgaigaa
open Go.RowKit Go.Proofs
set_option maxRecDepth 50000
set_option linter.unusedVariables false
set_option linter.unusedSimpArgs false

set_option maxRecDepth 100000 in
set_option maxHeartbeats 8000000 in
theorem compareSteps_from (HG : CGrand) (HC : CComp) (HO : COwn) (HB : CNone) (a : Vc) (ha : VcIn a) (more : Int) (c p : Int) (hc : U64 c) (hp : I64 p) (w : World) :
    Calls Try.prog 5 #[.agg (vcL a).toArray, .int .i64 more, .agg #[.int .u64 c, .int .i64 p]] w fun e w' => e = .returned (.bool true) ∧ Below w.heap.size w w' := by
  obtain ⟨v1, hv1, hv2, hv3⟩ : ∃ v1 : Int, a.st % 200 = v1 ∧ 0 ≤ v1 ∧ v1 < 200 := ⟨_, rfl, Int.emod_nonneg _ (by decide), Int.emod_lt_of_pos _ (by decide)⟩
  obtain ⟨k, hk1, hk2, hk3⟩ : ∃ k : Int, more % 50 = k ∧ 0 ≤ k ∧ k < 50 := ⟨_, rfl, Int.emod_nonneg _ (by decide), Int.emod_lt_of_pos _ (by decide)⟩
  have hp1 := place_any a.st 200
  have hp2 := place_any more 50
  rw [hv1] at hp1
  rw [hk1] at hp2
  clear hv1 hk1
  obtain ⟨a1, e1⟩ : ∃ a1 : Vc, { a with st := v1 } = a1 := ⟨_, rfl⟩
  obtain ⟨b1, e2⟩ : ∃ b1 : Vc, { a with st := v1 + 2 + k } = b1 := ⟨_, rfl⟩
  obtain ⟨b2, e3⟩ : ∃ b2 : Vc, { a with st := v1, sc := c, sp := p } = b2 := ⟨_, rfl⟩
  have i1 : VcIn a1 := by rw [← e1]; obtain ⟨y1, y2, y3, y4, y5, y6, y7, y8⟩ := ha; exact ⟨y1, y2, y3, y4, y5, y6, by unfold I64; simp only; omega, y8⟩
  have i2 : VcIn b1 := by rw [← e2]; obtain ⟨y1, y2, y3, y4, y5, y6, y7, y8⟩ := ha; exact ⟨y1, y2, y3, y4, y5, y6, by unfold I64; simp only; omega, y8⟩
  have i3 : VcIn b2 := by rw [← e3]; obtain ⟨y1, y2, y3, y4, y5, y6, y7, y8, y9, y10⟩ := ha; exact ⟨y1, y2, y3, y4, y5, y6, by unfold I64; simp only; omega, hc, hp, y10⟩
  have k12 : compV a1 b1 = -2 := by
    rw [← e1, ← e2]
    have h := grand_same a
    unfold compV grandV keyG at *
    simp only at h ⊢
    rw [h, if_neg (by simp), if_neg (by omega), if_pos (by omega)]
  have k21 : compV b1 a1 = 2 := by rw [comp_back, k12]; rfl
  have k13 : compV a1 b2 = lexL [a.sc, a.sp, a.rp] [c, p, a.rp] := by
    rw [← e1, ← e3]
    have h := grand_same a
    unfold compV grandV keyG at *
    simp only at h ⊢
    rw [h, if_neg (by simp), if_neg (by omega), if_neg (by omega), if_neg (by omega), if_neg (by omega)]
  have c12 := fun w => HC a1 b1 w i1 i2
  have c21 := fun w => HC b1 a1 w i2 i1
  have c13 := fun w => HC a1 b2 w i1 i3
  rw [k12] at c12
  rw [k21] at c21
  rw [k13] at c13
  have hset1 : (vcL a).set 6 (.int .i64 v1) = vcL a1 := by rw [← e1]; rfl
  have hset2 : (vcL a).set 6 (.int .i64 (v1 + 2 + k)) = vcL b1 := by rw [← e2]; rfl
  have hset3 : (((vcL b1).set 6 (.int .i64 v1)).set 7 (.int .u64 c)).set 8 (.int .i64 p) = vcL b2 := by rw [← e2, ← e3]; rfl
  have hA6 : a1.st = v1 := by rw [← e1]
  have hA7 : a1.sc = a.sc := by rw [← e1]
  have hA8 : a1.sp = a.sp := by rw [← e1]
  have hcase : (c = a.sc ∧ p = a.sp ∧ lexL [a.sc, a.sp, a.rp] [c, p, a.rp] = 0) ∨ ((c == a.sc) = false ∧ (lexL [a.sc, a.sp, a.rp] [c, p, a.rp] = -1 ∨ lexL [a.sc, a.sp, a.rp] [c, p, a.rp] = 1)) ∨ (c = a.sc ∧ (p == a.sp) = false ∧ (lexL [a.sc, a.sp, a.rp] [c, p, a.rp] = -1 ∨ lexL [a.sc, a.sp, a.rp] [c, p, a.rp] = 1)) := by
    have hr := lexL_range [a.sc, a.sp, a.rp] [c, p, a.rp]
    by_cases f1 : c = a.sc
    · by_cases f2 : p = a.sp
      · left
        subst f1 f2
        exact ⟨rfl, rfl, lexL_same _⟩
      · right; right
        refine ⟨f1, beq_false_of_ne f2, ?_⟩
        rcases hr with h | h | h
        · exact .inl h
        · have := lexL_eq (xs := [a.sc, a.sp, a.rp]) (ys := [c, p, a.rp]) rfl h
          injection this with g1 g2
          injection g2 with g3 g4
          exact absurd g3.symm f2
        · exact .inr h
    · right; left
      refine ⟨beq_false_of_ne f1, ?_⟩
      rcases hr with h | h | h
      · exact .inl h
      · have := lexL_eq (xs := [a.sc, a.sp, a.rp]) (ys := [c, p, a.rp]) rfl h
        injection this with g1 g2
        exact absurd g1.symm f1
      · exact .inr h
  generalize lexL [a.sc, a.sp, a.rp] [c, p, a.rp] = x at *
  clear k12 k21 k13 i1 i2 i3 ha hc hp
  go_enter Try.func5, Try.ntmps5
  go_upto_region 1 with fail
  have hM1 : Box ((w.alloc (Obj.cells (vcL a).toArray 28)).alloc (Obj.cells #[.int .u64 c, .int .i64 p] 26)) w.heap.size (vcL a) 28 := (Box.new w _ _).below (bnew _ _)
  have hM2 : Box ((w.alloc (Obj.cells (vcL a).toArray 28)).alloc (Obj.cells #[.int .u64 c, .int .i64 p] 26)) (w.heap.size + 1) [.int .u64 c, .int .i64 p] 26 := heap_alloc2_new w _ _
  have hb := ((Below.refl w.heap.size w).alloc (Nat.le_refl _) (Obj.cells (vcL a).toArray 28)).alloc (by have := bnew w (Obj.cells (vcL a).toArray 28); exact this.size) (Obj.cells #[.int .u64 c, .int .i64 p] 26)
  have hs2 : w.heap.size + 2 ≤ ((w.alloc (Obj.cells (vcL a).toArray 28)).alloc (Obj.cells #[.int .u64 c, .int .i64 p] 26)).heap.size := by simp
  change Code.wp Try.prog _ _ _ ((w.alloc (Obj.cells (vcL a).toArray 28)).alloc (Obj.cells #[.int .u64 c, .int .i64 p] 26))
  generalize ((w.alloc (Obj.cells (vcL a).toArray 28)).alloc (Obj.cells #[.int .u64 c, .int .i64 p] 26)) = W at *
  generalize hGs : w.heap.size + 1 = G at *
  have hlt0 : w.heap.size < G := by omega
  have N := Box.new W ([.int .i64 0, .int .i64 0, .int .i64 0, .int .i64 0, .int .i64 0, .int .u64 0, .int .i64 0, .int .u64 0, .int .i64 0, .int .u64 0, .int .i64 0]) 28
  have nb := bnew W (Obj.cells ([.int .i64 0, .int .i64 0, .int .i64 0, .int .i64 0, .int .i64 0, .int .u64 0, .int .i64 0, .int .u64 0, .int .i64 0, .int .u64 0, .int .i64 0]).toArray 28)
  go_upto_region 2 with (first | (guard_target =~ wpList _ _ _ (⟨some 10, _, _, _, _, _⟩ :: _) _ _; refine wpList_load_vec (op := ⟨some 10, .load _ _, _, _, _, _⟩) (by rfl) _ (by rfl) w.heap.size (by rfl) (a) _ hM1 ?_) | (guard_target =~ wpList _ _ _ (⟨none, _, _, _, _, _⟩ :: _) _ _; refine wpList_store_vec (op := ⟨none, .store _ _ _, _, _, _, _⟩) (by rfl) _ _ (by rfl) (W.heap.size) (a) (zeroV) _ (by rfl) (by rfl) N ?_))
  have B := N.rowV (vcL a)
  replace nb := below_setRow nb (Nat.le_refl _) (vcL a).toArray
  change Code.wp _ _ _ _ ((W.alloc (Obj.cells ([.int .i64 0, .int .i64 0, .int .i64 0, .int .i64 0, .int .i64 0, .int .u64 0, .int .i64 0, .int .u64 0, .int .i64 0, .int .u64 0, .int .i64 0]).toArray 28)).setRow W.heap.size (vcL a).toArray)
  generalize ((W.alloc (Obj.cells ([.int .i64 0, .int .i64 0, .int .i64 0, .int .i64 0, .int .i64 0, .int .u64 0, .int .i64 0, .int .u64 0, .int .i64 0, .int .u64 0, .int .i64 0]).toArray 28)).setRow W.heap.size (vcL a).toArray) = W1 at *
  generalize hgB : W.heap.size = gB at *
  have nc : Below W.heap.size W W1 := by rw [hgB]; exact nb
  replace hb := bnext hb nc
  replace hM1 := hM1.below nc
  replace hM2 := hM2.below nc
  clear N nb nc
  have hgB : G < gB := by omega
  clear hs2 hGs
  have c6 := hM1.cell 6 _ rfl
  go_wp2_with fail
  refine (hp1 _ (by decide) (by decide)).mono ?_
  rintro e w3 ⟨rfl, rfl⟩
  clear hp1
  have f6 := hM1.free 6
  go_upto_region 3 with fail
  replace hM2 := hM2.other (by omega : G ≠ w.heap.size) 6 (.int .i64 v1)
  replace B := B.other (by omega : gB ≠ w.heap.size) 6 (.int .i64 v1)
  replace hM1 := hM1.set 6 (.int .i64 v1)
  rw [hset1] at hM1
  replace hb := hb.setCell (p := ⟨w.heap.size, 6, none⟩) (Nat.le_refl _) (.int .i64 v1)
  clear c6 f6
  generalize World.setCell _ _ _ = W2 at *
  go_wp2_with fail
  refine (hp2 _ (by decide) (by decide)).mono ?_
  rintro e w4 ⟨rfl, rfl⟩
  clear hp2
  have c6 := hM1.cell 6 _ rfl
  rw [hA6] at c6
  have d6 := B.cell 6 _ rfl
  have f6 := B.free 6
  have hw1 : IntKind.i64.wrap (v1 + 2) = v1 + 2 := by rw [IntKind.wrap_i64]; omega
  have hw2 : IntKind.i64.wrap (v1 + 2 + k) = v1 + 2 + k := by rw [IntKind.wrap_i64]; omega
  go_upto_region 5 with fail
  replace hM1 := hM1.other (by omega : w.heap.size ≠ gB) 6 (.int .i64 (v1 + 2 + k))
  replace hM2 := hM2.other (by omega : G ≠ gB) 6 (.int .i64 (v1 + 2 + k))
  replace B := B.set 6 (.int .i64 (v1 + 2 + k))
  rw [hset2] at B
  replace hb := hb.setCell (p := ⟨gB, 6, none⟩) (by show w.heap.size ≤ gB; omega) (.int .i64 (v1 + 2 + k))
  clear c6 d6 f6 hw1 hw2
  generalize World.setCell _ _ _ = W3 at *
  go_wp2_with (first | (guard_target =~ wpList _ _ _ (⟨some 23, _, _, _, _, _⟩ :: _) _ _; refine wpList_load_vec (op := ⟨some 23, .load _ _, _, _, _, _⟩) (by rfl) _ (by rfl) w.heap.size (by rfl) (a1) _ hM1 ?_) | (guard_target =~ wpList _ _ _ (⟨some 24, _, _, _, _, _⟩ :: _) _ _; refine wpList_load_vec (op := ⟨some 24, .load _ _, _, _, _, _⟩) (by rfl) _ (by rfl) gB (by rfl) (b1) _ B ?_))
  refine (c12 _).mono ?_
  rintro e w5 ⟨rfl, b5⟩
  replace hb := bnext hb b5
  replace hM1 := hM1.below b5
  replace hM2 := hM2.below b5
  replace B := B.below b5
  go_wp2_with (first | (guard_target =~ wpList _ _ _ (⟨some 28, _, _, _, _, _⟩ :: _) _ _; refine wpList_load_vec_g (op := ⟨some 28, .load _ _, _, _, _, _⟩) (by rfl) _ (by rfl) gB (by rfl) (b1) _ B ?_) | (guard_target =~ wpList _ _ _ (⟨some 29, _, _, _, _, _⟩ :: _) _ _; refine wpList_load_vec_g (op := ⟨some 29, .load _ _, _, _, _, _⟩) (by rfl) _ (by rfl) w.heap.size (by rfl) (a1) _ hM1 ?_))
  refine (c21 _).mono ?_
  rintro e w6 ⟨rfl, b6⟩
  replace hb := bnext hb b6
  replace hM1 := hM1.below b6
  replace hM2 := hM2.below b6
  replace B := B.below b6
  have c6 := hM1.cell 6 _ rfl
  rw [hA6] at c6
  have d6 := B.cell 6 _ rfl
  have f6 := B.free 6
  clear c12 c21
  go_upto_region 8 with fail
  replace hM1 := hM1.other (by omega : w.heap.size ≠ gB) 6 (.int .i64 v1)
  replace hM2 := hM2.other (by omega : G ≠ gB) 6 (.int .i64 v1)
  replace B := B.set 6 (.int .i64 v1)
  replace hb := hb.setCell (p := ⟨gB, 6, none⟩) (by show w.heap.size ≤ gB; omega) (.int .i64 v1)
  clear c6 d6 f6
  generalize World.setCell _ _ _ = W4 at *
  have e0 := hM2.cell 0 _ rfl
  have e1' := hM2.cell 1 _ rfl
  have d7 := B.cell 7 _ rfl
  have d8 := B.cell 8 _ rfl
  have f7 := B.free 7
  have f8 := B.free 8
  have f8' := (B.set 7 (.int .u64 c)).free 8
  have d8' := (B.set 7 (.int .u64 c)).cell 8 _ rfl
  go_upto_region 9 with fail
  replace hM1 := (hM1.other (by omega : w.heap.size ≠ gB) 7 (.int .u64 c)).other (by omega : w.heap.size ≠ gB) 8 (.int .i64 p)
  replace hM2 := (hM2.other (by omega : G ≠ gB) 7 (.int .u64 c)).other (by omega : G ≠ gB) 8 (.int .i64 p)
  replace B := (B.set 7 (.int .u64 c)).set 8 (.int .i64 p)
  rw [hset3] at B
  replace hb := (hb.setCell (p := ⟨gB, 7, none⟩) (by show w.heap.size ≤ gB; omega) (.int .u64 c)).setCell (p := ⟨gB, 8, none⟩) (by show w.heap.size ≤ gB; omega) (.int .i64 p)
  clear e0 e1' d7 d8 f7 f8 f8' d8'
  generalize World.setCell _ _ _ = W5 at *
  go_wp2_with (first | (guard_target =~ wpList _ _ _ (⟨some 38, _, _, _, _, _⟩ :: _) _ _; refine wpList_load_vec (op := ⟨some 38, .load _ _, _, _, _, _⟩) (by rfl) _ (by rfl) w.heap.size (by rfl) (a1) _ hM1 ?_) | (guard_target =~ wpList _ _ _ (⟨some 39, _, _, _, _, _⟩ :: _) _ _; refine wpList_load_vec (op := ⟨some 39, .load _ _, _, _, _, _⟩) (by rfl) _ (by rfl) gB (by rfl) (b2) _ B ?_))
  refine (c13 _).mono ?_
  rintro e w7 ⟨rfl, b7⟩
  replace hb := bnext hb b7
  replace hM1 := hM1.below b7
  replace hM2 := hM2.below b7
  clear c13 B
  have e0 := hM2.cell 0 _ rfl
  have e1' := hM2.cell 1 _ rfl
  have m7 := hM1.cell 7 _ rfl
  have m8 := hM1.cell 8 _ rfl
  rw [hA7] at m7
  rw [hA8] at m8
  clear hM1 hM2 hset1 hset2 hset3
  rcases hcase with ⟨rfl, rfl, rfl⟩ | ⟨f1, rfl | rfl⟩ | ⟨rfl, f1, rfl | rfl⟩
  all_goals
    go_wp2_with fail
    refine (awake11_from HC HO HB _).mono ?_
    rintro e wz ⟨rfl, bz⟩
    go_wp2_with fail
    go_ret
    exact ⟨rfl, bnext hb bz⟩

end Go.Proofs.Ytkhgkngapgaigaa
