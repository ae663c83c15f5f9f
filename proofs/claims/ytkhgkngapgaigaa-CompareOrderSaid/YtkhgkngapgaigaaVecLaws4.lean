/- CompareOwn, from contracts of the program's own (gen_veclaws.py). -/
import Derived.Test.YtkhgkngapgaigaaVecLaws0
namespace Go.Proofs.Ytkhgkngapgaigaa
open Go.RowKit Go.Proofs
set_option maxRecDepth 50000
set_option linter.unusedVariables false
set_option linter.unusedSimpArgs false

theorem op_store_vec {op : Oper} {a : Act} {w : World} {K : Act → World → Prop} {Q : Exit → Act → World → Prop} (x y : Operand) (ho : op.op = .store 28 x y)
    (g : Nat) (c old : Vc) (t : TypeId) (hx : a.eval x = .pointer (some ⟨g, 0, none⟩)) (hy : a.eval y = .agg (vcL c).toArray) (hB : Box w g (vcL old) t)
    (h : K (a.put op.dst undef) (w.setRow g (vcL c).toArray)) : op.wp Try.prog a w K Q :=
  wp_store_row _ x y ho g (vcL c).toArray hx hy t (vcL old).toArray hB (by rw [info_vec]; rfl) rfl (all_oneCell_toArray (vcL_one c)) h

theorem share3v {α β γ : Type} {P : α → β → γ → Prop} {G : α → β → γ → Prop} {R : Prop} (h1 : (∀ x y z, P x y z → G x y z) → R) (h2 : ∀ x y z, P x y z → G x y z) : R := h1 h2

/-- What two clocks' own say. -/
theorem own_case (c d : Cf) : ((c.p1 == d.p1) = false ∧ c.p1 < d.p1 ∧ compV (ownV c) (ownV d) = -2) ∨ ((c.p1 == d.p1) = false ∧ ¬ c.p1 < d.p1 ∧ d.p1 < c.p1 ∧ compV (ownV c) (ownV d) = 2) ∨
    (c.p1 = d.p1 ∧ c.qc = d.qc ∧ c.qa = d.qa ∧ c.qv = d.qv ∧ c.p2 = d.p2 ∧ c.cl = d.cl ∧ compV (ownV c) (ownV d) = 0) ∨
    (c.p1 = d.p1 ∧ c.qc = d.qc ∧ c.qa = d.qa ∧ c.qv = d.qv ∧ c.p2 = d.p2 ∧ (c.cl == d.cl) = false ∧ c.cl < d.cl ∧ compV (ownV c) (ownV d) = -2) ∨
    (c.p1 = d.p1 ∧ c.qc = d.qc ∧ c.qa = d.qa ∧ c.qv = d.qv ∧ c.p2 = d.p2 ∧ (c.cl == d.cl) = false ∧ ¬ c.cl < d.cl ∧ d.cl < c.cl ∧ compV (ownV c) (ownV d) = 2) ∨
    (c.p1 = d.p1 ∧ ((c.qc == d.qc) = false ∨ (c.qc = d.qc ∧ (c.qa == d.qa) = false) ∨ (c.qc = d.qc ∧ c.qa = d.qa ∧ (c.qv == d.qv) = false) ∨ (c.qc = d.qc ∧ c.qa = d.qa ∧ c.qv = d.qv ∧ (c.p2 == d.p2) = false)) ∧ (compV (ownV c) (ownV d) = 2 ∨ compV (ownV c) (ownV d) = -2)) := by
  have hg : grandV (ownV c) (ownV d) = lexL [c.p1, c.qc, c.qa, c.qv, c.p2, c.cl] [d.p1, d.qc, d.qa, d.qv, d.p2, d.cl] := rfl
  have hr := grand_range (ownV c) (ownV d)
  have hcg := @comp_grand (ownV c) (ownV d)
  have h6 : (c.p1 = d.p1 ∧ c.qc = d.qc ∧ c.qa = d.qa ∧ c.qv = d.qv ∧ c.p2 = d.p2 ∧ c.cl = d.cl) → ownV c = ownV d := by
    rintro ⟨e1, e2, e3, e4, e5, e6⟩
    unfold ownV
    rw [e1, e2, e3, e4, e5, e6]
  have hne : grandV (ownV c) (ownV d) = 0 → c.p1 = d.p1 ∧ c.qc = d.qc ∧ c.qa = d.qa ∧ c.qv = d.qv ∧ c.p2 = d.p2 ∧ c.cl = d.cl := by
    intro h0
    rw [hg] at h0
    have := lexL_eq (xs := [c.p1, c.qc, c.qa, c.qv, c.p2, c.cl]) (ys := [d.p1, d.qc, d.qa, d.qv, d.p2, d.cl]) rfl h0
    simpa using this
  by_cases e1 : c.p1 < d.p1
  · left
    refine ⟨beq_false_of_ne (by omega), e1, ?_⟩
    have hv : grandV (ownV c) (ownV d) = -1 := by rw [hg, lexL_cons, if_pos e1]
    rw [hcg (by omega), hv]; rfl
  · by_cases e2 : d.p1 < c.p1
    · right; left
      refine ⟨beq_false_of_ne (by omega), e1, e2, ?_⟩
      have hv : grandV (ownV c) (ownV d) = 1 := by rw [hg, lexL_cons, if_neg e1, if_pos e2]
      rw [hcg (by omega), hv]; rfl
    · have ep : c.p1 = d.p1 := by omega
      by_cases hq : c.qc = d.qc ∧ c.qa = d.qa ∧ c.qv = d.qv ∧ c.p2 = d.p2
      · obtain ⟨q1, q2, q3, q4⟩ := hq
        have hg2 : grandV (ownV c) (ownV d) = lexL [c.cl] [d.cl] := by
          rw [hg, ep, q1, q2, q3, q4]
          simp [lexL_cons]
        rw [lexL_cons] at hg2
        by_cases f1 : c.cl < d.cl
        · right; right; right; left
          refine ⟨ep, q1, q2, q3, q4, beq_false_of_ne (by omega), f1, ?_⟩
          rw [if_pos f1] at hg2
          rw [hcg (by omega), hg2]; rfl
        · by_cases f2 : d.cl < c.cl
          · right; right; right; right; left
            refine ⟨ep, q1, q2, q3, q4, beq_false_of_ne (by omega), f1, f2, ?_⟩
            rw [if_neg f1, if_pos f2] at hg2
            rw [hcg (by omega), hg2]; rfl
          · right; right; left
            refine ⟨ep, q1, q2, q3, q4, by omega, ?_⟩
            rw [h6 ⟨ep, q1, q2, q3, q4, by omega⟩]
            exact comp_same _
      · right; right; right; right; right
        refine ⟨ep, ?_, ?_⟩
        · by_cases q1 : c.qc = d.qc
          · by_cases q2 : c.qa = d.qa
            · by_cases q3 : c.qv = d.qv
              · by_cases q4 : c.p2 = d.p2
                · exact absurd ⟨q1, q2, q3, q4⟩ hq
                · exact .inr (.inr (.inr ⟨q1, q2, q3, beq_false_of_ne q4⟩))
              · exact .inr (.inr (.inl ⟨q1, q2, beq_false_of_ne q3⟩))
            · exact .inr (.inl ⟨q1, beq_false_of_ne q2⟩)
          · exact .inl (beq_false_of_ne q1)
        · rcases hr with h | h | h
          · right; rw [hcg (by omega), h]; rfl
          · exact absurd (hne h) (fun hh => hq ⟨hh.2.1, hh.2.2.1, hh.2.2.2.1, hh.2.2.2.2.1⟩)
          · left; rw [hcg (by omega), h]; rfl

set_option maxRecDepth 100000 in
set_option maxHeartbeats 8000000 in
theorem compareOwn_from (HG : CGrand) (HC : CComp) (HO : COwn) (HB : CNone) (c d : Cf) (hc : VcIn (ownV c)) (hd : VcIn (ownV d)) (w : World) :
    Calls Try.prog 7 #[.agg (cfL c).toArray, .agg (cfL d).toArray] w fun e w' => e = .returned (.bool true) ∧ Below w.heap.size w w' := by
  have o1 := fun w => HO c w hc.2.2.2.2.2.1
  have o2 := fun w => HO d w hd.2.2.2.2.2.1
  have hx := fun w => HC (ownV c) (ownV d) w hc hd
  have A6 : (ownV c).st = 0 := rfl
  have A7 : (ownV c).sc = c.cl := rfl
  have A5 : (ownV c).gr = c.cl := rfl
  have hcase := own_case c d
  generalize compV (ownV c) (ownV d) = x at *
  generalize ownV c = A at *
  generalize ownV d = B at *
  have HCASE := hid hcase
  clear hc hd hcase
  go_enter Try.func7, Try.ntmps7
  go_upto_region 1 with fail
  have hM1 : Box ((w.alloc (Obj.cells (cfL c).toArray 43)).alloc (Obj.cells (cfL d).toArray 43)) w.heap.size (cfL c) 43 := (Box.new w _ _).below (bnew _ _)
  have hM2 : Box ((w.alloc (Obj.cells (cfL c).toArray 43)).alloc (Obj.cells (cfL d).toArray 43)) (w.heap.size + 1) (cfL d) 43 := heap_alloc2_new w _ _
  have hb := ((Below.refl w.heap.size w).alloc (Nat.le_refl _) (Obj.cells (cfL c).toArray 43)).alloc (by have := bnew w (Obj.cells (cfL c).toArray 43); exact this.size) (Obj.cells (cfL d).toArray 43)
  change Code.wp Try.prog _ _ _ ((w.alloc (Obj.cells (cfL c).toArray 43)).alloc (Obj.cells (cfL d).toArray 43))
  generalize ((w.alloc (Obj.cells (cfL c).toArray 43)).alloc (Obj.cells (cfL d).toArray 43)) = W at *
  generalize w.heap.size + 1 = G at *
  apply share3v (P := fun (gA gB : Nat) (w' : World) => Below W.heap.size W w' ∧ Box w' gA (vcL A) 28 ∧ Box w' gB (vcL B) 28)
  case h1 =>
    intro tail
    have hbd := Below.drew (Below.refl W.heap.size W)
    refine wp_region_held_drew (S := fun w' => Below W.heap.size W w') (by kernel_rfl) hbd ?_
    intro hHeld
    generalize W.drew = wd at *
    clear hbd
    refine rtake 0 rfl (by rfl) (by kernel_rfl) (by kernel_rfl) (by kernel_rfl) (fun _ _ _ h => h) hHeld (fun wx hwx => exec_load_conf _ rfl w.heap.size rfl (cfL c) _ (hM1.below hwx) rfl) ?_
    try simp only [Act.put, List.setIfInBounds_toArray, List.set_cons_zero, List.set_cons_succ]
    refine rtake 2 rfl (by rfl) (by kernel_rfl) (by kernel_rfl) (by kernel_rfl) (fun _ _ _ h => h) hHeld (fun wx hwx => exec_load_conf _ rfl G rfl (cfL d) _ (hM2.below hwx) rfl) ?_
    try simp only [Act.put, List.setIfInBounds_toArray, List.set_cons_zero, List.set_cons_succ]
    refine rthree 1 4 5 rfl rfl rfl (by kernel_rfl) (by rfl) (by rfl) (by rfl) (fun K hK => ?_) (fun K hK => ?_) (fun K hK => ?_)
    · skip
      go_simp
      refine (o1 _).mono ?_
      rintro e wn1 ⟨rfl, bn1⟩
      have hH := bnext hHeld bn1
      refine hK.out _ _ hH ?_
      clear hK K hHeld bn1
      have hHeld := hH
      clear hH
      try simp only [Act.put, List.setIfInBounds_toArray, List.set_cons_zero, List.set_cons_succ]
      refine rthree 3 4 5 rfl rfl rfl (by kernel_rfl) (by rfl) (by rfl) (by rfl) (fun K hK => ?_) (fun K hK => ?_) (fun K hK => ?_)
      · skip
        go_simp
        refine (o2 _).mono ?_
        rintro e wn2 ⟨rfl, bn2⟩
        have hH := bnext hHeld bn2
        refine hK.out _ _ hH ?_
        clear hK K hHeld bn2
        have hHeld := hH
        clear hH
        try simp only [Act.put, List.setIfInBounds_toArray, List.set_cons_zero, List.set_cons_succ]
        refine rtwo 4 5 rfl rfl (by kernel_rfl) (by rfl) (by rfl) (fun K hK => ?_) (fun K hK => ?_)
        · skip
          have hna := bnew wn2 (Obj.cells ([.int .i64 0, .int .i64 0, .int .i64 0, .int .i64 0, .int .i64 0, .int .u64 0, .int .i64 0, .int .u64 0, .int .i64 0, .int .u64 0, .int .i64 0]).toArray 28)
          have hA := Box.new wn2 ([.int .i64 0, .int .i64 0, .int .i64 0, .int .i64 0, .int .i64 0, .int .u64 0, .int .i64 0, .int .u64 0, .int .i64 0, .int .u64 0, .int .i64 0]) 28
          have hsgA := hHeld.size
          go_simp
          change K _ (wn2.alloc (Obj.cells ([.int .i64 0, .int .i64 0, .int .i64 0, .int .i64 0, .int .i64 0, .int .u64 0, .int .i64 0, .int .u64 0, .int .i64 0, .int .u64 0, .int .i64 0]).toArray 28))
          have hH := bnext hHeld hna
          refine hK.out _ _ hH ?_
          clear hK K hHeld hna
          have hHeld := hH
          clear hH
          generalize wn2.alloc (Obj.cells ([.int .i64 0, .int .i64 0, .int .i64 0, .int .i64 0, .int .i64 0, .int .u64 0, .int .i64 0, .int .u64 0, .int .i64 0, .int .u64 0, .int .i64 0]).toArray 28) = wn3 at *
          generalize wn2.heap.size = gA at *
          try simp only [Act.put, List.setIfInBounds_toArray, List.set_cons_zero, List.set_cons_succ]
          refine rcall 5 rfl (by kernel_rfl) (by rfl) (fun K hK => ?_)
          have hna := bnew wn3 (Obj.cells ([.int .i64 0, .int .i64 0, .int .i64 0, .int .i64 0, .int .i64 0, .int .u64 0, .int .i64 0, .int .u64 0, .int .i64 0, .int .u64 0, .int .i64 0]).toArray 28)
          have hB2 := Box.new wn3 ([.int .i64 0, .int .i64 0, .int .i64 0, .int .i64 0, .int .i64 0, .int .u64 0, .int .i64 0, .int .u64 0, .int .i64 0, .int .u64 0, .int .i64 0]) 28
          have hsgB := hHeld.size
          have hlt := hA.lt
          go_simp
          change K _ (wn3.alloc (Obj.cells ([.int .i64 0, .int .i64 0, .int .i64 0, .int .i64 0, .int .i64 0, .int .u64 0, .int .i64 0, .int .u64 0, .int .i64 0, .int .u64 0, .int .i64 0]).toArray 28))
          have hH := bnext hHeld hna
          replace hA := hA.below hna
          refine hK.out _ _ hH ?_
          clear hK K hHeld hna
          have hHeld := hH
          clear hH
          generalize wn3.alloc (Obj.cells ([.int .i64 0, .int .i64 0, .int .i64 0, .int .i64 0, .int .i64 0, .int .u64 0, .int .i64 0, .int .u64 0, .int .i64 0, .int .u64 0, .int .i64 0]).toArray 28) = wn4 at *
          generalize wn3.heap.size = gB at *
          try simp only [Act.put, List.setIfInBounds_toArray, List.set_cons_zero, List.set_cons_succ]
          have hneAB : gA ≠ gB := by omega
          refine rcall 6 rfl (by kernel_rfl) (by rfl) (fun K hK => ?_)
          refine op_store_vec (op := ⟨none, .store _ _ _, _, _, _, _⟩) _ _ rfl gA A zeroV _ rfl rfl hA ?_
          have hH := below_setRow hHeld hsgA (vcL A).toArray
          replace hA := hA.rowV (vcL A)
          replace hB2 := hB2.rowV_other (Ne.symm hneAB) (vcL A).toArray
          refine hK.out _ _ hH ?_
          clear hK K hHeld
          have hHeld := hH
          clear hH
          generalize World.setRow _ _ _ = ws1 at *
          try simp only [Act.put, List.setIfInBounds_toArray, List.set_cons_zero, List.set_cons_succ]
          refine rcall 7 rfl (by kernel_rfl) (by rfl) (fun K hK => ?_)
          refine op_store_vec (op := ⟨none, .store _ _ _, _, _, _, _⟩) _ _ rfl gB B zeroV _ rfl rfl hB2 ?_
          have hH := below_setRow hHeld hsgB (vcL B).toArray
          replace hB2 := hB2.rowV (vcL B)
          replace hA := hA.rowV_other hneAB (vcL B).toArray
          refine hK.out _ _ hH ?_
          clear hK K hHeld
          have hHeld := hH
          clear hH
          generalize World.setRow _ _ _ = ws2 at *
          try simp only [Act.put, List.setIfInBounds_toArray, List.set_cons_zero, List.set_cons_succ]
          refine wpAnyH_done (by kernel_rfl) ?_ _
          exact tail gA gB ws2 ⟨hHeld, hA, hB2⟩
        · skip
          have hna := bnew wn2 (Obj.cells ([.int .i64 0, .int .i64 0, .int .i64 0, .int .i64 0, .int .i64 0, .int .u64 0, .int .i64 0, .int .u64 0, .int .i64 0, .int .u64 0, .int .i64 0]).toArray 28)
          have hB2 := Box.new wn2 ([.int .i64 0, .int .i64 0, .int .i64 0, .int .i64 0, .int .i64 0, .int .u64 0, .int .i64 0, .int .u64 0, .int .i64 0, .int .u64 0, .int .i64 0]) 28
          have hsgB := hHeld.size
          go_simp
          change K _ (wn2.alloc (Obj.cells ([.int .i64 0, .int .i64 0, .int .i64 0, .int .i64 0, .int .i64 0, .int .u64 0, .int .i64 0, .int .u64 0, .int .i64 0, .int .u64 0, .int .i64 0]).toArray 28))
          have hH := bnext hHeld hna
          refine hK.out _ _ hH ?_
          clear hK K hHeld hna
          have hHeld := hH
          clear hH
          generalize wn2.alloc (Obj.cells ([.int .i64 0, .int .i64 0, .int .i64 0, .int .i64 0, .int .i64 0, .int .u64 0, .int .i64 0, .int .u64 0, .int .i64 0, .int .u64 0, .int .i64 0]).toArray 28) = wn5 at *
          generalize wn2.heap.size = gB at *
          try simp only [Act.put, List.setIfInBounds_toArray, List.set_cons_zero, List.set_cons_succ]
          refine rcall 4 rfl (by kernel_rfl) (by rfl) (fun K hK => ?_)
          have hna := bnew wn5 (Obj.cells ([.int .i64 0, .int .i64 0, .int .i64 0, .int .i64 0, .int .i64 0, .int .u64 0, .int .i64 0, .int .u64 0, .int .i64 0, .int .u64 0, .int .i64 0]).toArray 28)
          have hA := Box.new wn5 ([.int .i64 0, .int .i64 0, .int .i64 0, .int .i64 0, .int .i64 0, .int .u64 0, .int .i64 0, .int .u64 0, .int .i64 0, .int .u64 0, .int .i64 0]) 28
          have hsgA := hHeld.size
          have hlt := hB2.lt
          go_simp
          change K _ (wn5.alloc (Obj.cells ([.int .i64 0, .int .i64 0, .int .i64 0, .int .i64 0, .int .i64 0, .int .u64 0, .int .i64 0, .int .u64 0, .int .i64 0, .int .u64 0, .int .i64 0]).toArray 28))
          have hH := bnext hHeld hna
          replace hB2 := hB2.below hna
          refine hK.out _ _ hH ?_
          clear hK K hHeld hna
          have hHeld := hH
          clear hH
          generalize wn5.alloc (Obj.cells ([.int .i64 0, .int .i64 0, .int .i64 0, .int .i64 0, .int .i64 0, .int .u64 0, .int .i64 0, .int .u64 0, .int .i64 0, .int .u64 0, .int .i64 0]).toArray 28) = wn6 at *
          generalize wn5.heap.size = gA at *
          try simp only [Act.put, List.setIfInBounds_toArray, List.set_cons_zero, List.set_cons_succ]
          have hneAB : gA ≠ gB := by omega
          refine rcall 6 rfl (by kernel_rfl) (by rfl) (fun K hK => ?_)
          refine op_store_vec (op := ⟨none, .store _ _ _, _, _, _, _⟩) _ _ rfl gA A zeroV _ rfl rfl hA ?_
          have hH := below_setRow hHeld hsgA (vcL A).toArray
          replace hA := hA.rowV (vcL A)
          replace hB2 := hB2.rowV_other (Ne.symm hneAB) (vcL A).toArray
          refine hK.out _ _ hH ?_
          clear hK K hHeld
          have hHeld := hH
          clear hH
          generalize World.setRow _ _ _ = ws1 at *
          try simp only [Act.put, List.setIfInBounds_toArray, List.set_cons_zero, List.set_cons_succ]
          refine rcall 7 rfl (by kernel_rfl) (by rfl) (fun K hK => ?_)
          refine op_store_vec (op := ⟨none, .store _ _ _, _, _, _, _⟩) _ _ rfl gB B zeroV _ rfl rfl hB2 ?_
          have hH := below_setRow hHeld hsgB (vcL B).toArray
          replace hB2 := hB2.rowV (vcL B)
          replace hA := hA.rowV_other hneAB (vcL B).toArray
          refine hK.out _ _ hH ?_
          clear hK K hHeld
          have hHeld := hH
          clear hH
          generalize World.setRow _ _ _ = ws2 at *
          try simp only [Act.put, List.setIfInBounds_toArray, List.set_cons_zero, List.set_cons_succ]
          refine wpAnyH_done (by kernel_rfl) ?_ _
          exact tail gA gB ws2 ⟨hHeld, hA, hB2⟩
      · skip
        have hna := bnew wn1 (Obj.cells ([.int .i64 0, .int .i64 0, .int .i64 0, .int .i64 0, .int .i64 0, .int .u64 0, .int .i64 0, .int .u64 0, .int .i64 0, .int .u64 0, .int .i64 0]).toArray 28)
        have hA := Box.new wn1 ([.int .i64 0, .int .i64 0, .int .i64 0, .int .i64 0, .int .i64 0, .int .u64 0, .int .i64 0, .int .u64 0, .int .i64 0, .int .u64 0, .int .i64 0]) 28
        have hsgA := hHeld.size
        go_simp
        change K _ (wn1.alloc (Obj.cells ([.int .i64 0, .int .i64 0, .int .i64 0, .int .i64 0, .int .i64 0, .int .u64 0, .int .i64 0, .int .u64 0, .int .i64 0, .int .u64 0, .int .i64 0]).toArray 28))
        have hH := bnext hHeld hna
        refine hK.out _ _ hH ?_
        clear hK K hHeld hna
        have hHeld := hH
        clear hH
        generalize wn1.alloc (Obj.cells ([.int .i64 0, .int .i64 0, .int .i64 0, .int .i64 0, .int .i64 0, .int .u64 0, .int .i64 0, .int .u64 0, .int .i64 0, .int .u64 0, .int .i64 0]).toArray 28) = wn7 at *
        generalize wn1.heap.size = gA at *
        try simp only [Act.put, List.setIfInBounds_toArray, List.set_cons_zero, List.set_cons_succ]
        refine rtwo 3 5 rfl rfl (by kernel_rfl) (by rfl) (by rfl) (fun K hK => ?_) (fun K hK => ?_)
        · skip
          go_simp
          refine (o2 _).mono ?_
          rintro e wn8 ⟨rfl, bn8⟩
          have hH := bnext hHeld bn8
          replace hA := hA.below bn8
          refine hK.out _ _ hH ?_
          clear hK K hHeld bn8
          have hHeld := hH
          clear hH
          try simp only [Act.put, List.setIfInBounds_toArray, List.set_cons_zero, List.set_cons_succ]
          refine rcall 5 rfl (by kernel_rfl) (by rfl) (fun K hK => ?_)
          have hna := bnew wn8 (Obj.cells ([.int .i64 0, .int .i64 0, .int .i64 0, .int .i64 0, .int .i64 0, .int .u64 0, .int .i64 0, .int .u64 0, .int .i64 0, .int .u64 0, .int .i64 0]).toArray 28)
          have hB2 := Box.new wn8 ([.int .i64 0, .int .i64 0, .int .i64 0, .int .i64 0, .int .i64 0, .int .u64 0, .int .i64 0, .int .u64 0, .int .i64 0, .int .u64 0, .int .i64 0]) 28
          have hsgB := hHeld.size
          have hlt := hA.lt
          go_simp
          change K _ (wn8.alloc (Obj.cells ([.int .i64 0, .int .i64 0, .int .i64 0, .int .i64 0, .int .i64 0, .int .u64 0, .int .i64 0, .int .u64 0, .int .i64 0, .int .u64 0, .int .i64 0]).toArray 28))
          have hH := bnext hHeld hna
          replace hA := hA.below hna
          refine hK.out _ _ hH ?_
          clear hK K hHeld hna
          have hHeld := hH
          clear hH
          generalize wn8.alloc (Obj.cells ([.int .i64 0, .int .i64 0, .int .i64 0, .int .i64 0, .int .i64 0, .int .u64 0, .int .i64 0, .int .u64 0, .int .i64 0, .int .u64 0, .int .i64 0]).toArray 28) = wn9 at *
          generalize wn8.heap.size = gB at *
          try simp only [Act.put, List.setIfInBounds_toArray, List.set_cons_zero, List.set_cons_succ]
          have hneAB : gA ≠ gB := by omega
          refine rcall 6 rfl (by kernel_rfl) (by rfl) (fun K hK => ?_)
          refine op_store_vec (op := ⟨none, .store _ _ _, _, _, _, _⟩) _ _ rfl gA A zeroV _ rfl rfl hA ?_
          have hH := below_setRow hHeld hsgA (vcL A).toArray
          replace hA := hA.rowV (vcL A)
          replace hB2 := hB2.rowV_other (Ne.symm hneAB) (vcL A).toArray
          refine hK.out _ _ hH ?_
          clear hK K hHeld
          have hHeld := hH
          clear hH
          generalize World.setRow _ _ _ = ws1 at *
          try simp only [Act.put, List.setIfInBounds_toArray, List.set_cons_zero, List.set_cons_succ]
          refine rcall 7 rfl (by kernel_rfl) (by rfl) (fun K hK => ?_)
          refine op_store_vec (op := ⟨none, .store _ _ _, _, _, _, _⟩) _ _ rfl gB B zeroV _ rfl rfl hB2 ?_
          have hH := below_setRow hHeld hsgB (vcL B).toArray
          replace hB2 := hB2.rowV (vcL B)
          replace hA := hA.rowV_other hneAB (vcL B).toArray
          refine hK.out _ _ hH ?_
          clear hK K hHeld
          have hHeld := hH
          clear hH
          generalize World.setRow _ _ _ = ws2 at *
          try simp only [Act.put, List.setIfInBounds_toArray, List.set_cons_zero, List.set_cons_succ]
          refine wpAnyH_done (by kernel_rfl) ?_ _
          exact tail gA gB ws2 ⟨hHeld, hA, hB2⟩
        · skip
          have hna := bnew wn7 (Obj.cells ([.int .i64 0, .int .i64 0, .int .i64 0, .int .i64 0, .int .i64 0, .int .u64 0, .int .i64 0, .int .u64 0, .int .i64 0, .int .u64 0, .int .i64 0]).toArray 28)
          have hB2 := Box.new wn7 ([.int .i64 0, .int .i64 0, .int .i64 0, .int .i64 0, .int .i64 0, .int .u64 0, .int .i64 0, .int .u64 0, .int .i64 0, .int .u64 0, .int .i64 0]) 28
          have hsgB := hHeld.size
          have hlt := hA.lt
          go_simp
          change K _ (wn7.alloc (Obj.cells ([.int .i64 0, .int .i64 0, .int .i64 0, .int .i64 0, .int .i64 0, .int .u64 0, .int .i64 0, .int .u64 0, .int .i64 0, .int .u64 0, .int .i64 0]).toArray 28))
          have hH := bnext hHeld hna
          replace hA := hA.below hna
          refine hK.out _ _ hH ?_
          clear hK K hHeld hna
          have hHeld := hH
          clear hH
          generalize wn7.alloc (Obj.cells ([.int .i64 0, .int .i64 0, .int .i64 0, .int .i64 0, .int .i64 0, .int .u64 0, .int .i64 0, .int .u64 0, .int .i64 0, .int .u64 0, .int .i64 0]).toArray 28) = wn10 at *
          generalize wn7.heap.size = gB at *
          try simp only [Act.put, List.setIfInBounds_toArray, List.set_cons_zero, List.set_cons_succ]
          refine rcall 3 rfl (by kernel_rfl) (by rfl) (fun K hK => ?_)
          go_simp
          refine (o2 _).mono ?_
          rintro e wn11 ⟨rfl, bn11⟩
          have hH := bnext hHeld bn11
          replace hA := hA.below bn11
          replace hB2 := hB2.below bn11
          refine hK.out _ _ hH ?_
          clear hK K hHeld bn11
          have hHeld := hH
          clear hH
          try simp only [Act.put, List.setIfInBounds_toArray, List.set_cons_zero, List.set_cons_succ]
          have hneAB : gA ≠ gB := by omega
          refine rcall 6 rfl (by kernel_rfl) (by rfl) (fun K hK => ?_)
          refine op_store_vec (op := ⟨none, .store _ _ _, _, _, _, _⟩) _ _ rfl gA A zeroV _ rfl rfl hA ?_
          have hH := below_setRow hHeld hsgA (vcL A).toArray
          replace hA := hA.rowV (vcL A)
          replace hB2 := hB2.rowV_other (Ne.symm hneAB) (vcL A).toArray
          refine hK.out _ _ hH ?_
          clear hK K hHeld
          have hHeld := hH
          clear hH
          generalize World.setRow _ _ _ = ws1 at *
          try simp only [Act.put, List.setIfInBounds_toArray, List.set_cons_zero, List.set_cons_succ]
          refine rcall 7 rfl (by kernel_rfl) (by rfl) (fun K hK => ?_)
          refine op_store_vec (op := ⟨none, .store _ _ _, _, _, _, _⟩) _ _ rfl gB B zeroV _ rfl rfl hB2 ?_
          have hH := below_setRow hHeld hsgB (vcL B).toArray
          replace hB2 := hB2.rowV (vcL B)
          replace hA := hA.rowV_other hneAB (vcL B).toArray
          refine hK.out _ _ hH ?_
          clear hK K hHeld
          have hHeld := hH
          clear hH
          generalize World.setRow _ _ _ = ws2 at *
          try simp only [Act.put, List.setIfInBounds_toArray, List.set_cons_zero, List.set_cons_succ]
          refine wpAnyH_done (by kernel_rfl) ?_ _
          exact tail gA gB ws2 ⟨hHeld, hA, hB2⟩
      · skip
        have hna := bnew wn1 (Obj.cells ([.int .i64 0, .int .i64 0, .int .i64 0, .int .i64 0, .int .i64 0, .int .u64 0, .int .i64 0, .int .u64 0, .int .i64 0, .int .u64 0, .int .i64 0]).toArray 28)
        have hB2 := Box.new wn1 ([.int .i64 0, .int .i64 0, .int .i64 0, .int .i64 0, .int .i64 0, .int .u64 0, .int .i64 0, .int .u64 0, .int .i64 0, .int .u64 0, .int .i64 0]) 28
        have hsgB := hHeld.size
        go_simp
        change K _ (wn1.alloc (Obj.cells ([.int .i64 0, .int .i64 0, .int .i64 0, .int .i64 0, .int .i64 0, .int .u64 0, .int .i64 0, .int .u64 0, .int .i64 0, .int .u64 0, .int .i64 0]).toArray 28))
        have hH := bnext hHeld hna
        refine hK.out _ _ hH ?_
        clear hK K hHeld hna
        have hHeld := hH
        clear hH
        generalize wn1.alloc (Obj.cells ([.int .i64 0, .int .i64 0, .int .i64 0, .int .i64 0, .int .i64 0, .int .u64 0, .int .i64 0, .int .u64 0, .int .i64 0, .int .u64 0, .int .i64 0]).toArray 28) = wn12 at *
        generalize wn1.heap.size = gB at *
        try simp only [Act.put, List.setIfInBounds_toArray, List.set_cons_zero, List.set_cons_succ]
        refine rtwo 3 4 rfl rfl (by kernel_rfl) (by rfl) (by rfl) (fun K hK => ?_) (fun K hK => ?_)
        · skip
          go_simp
          refine (o2 _).mono ?_
          rintro e wn13 ⟨rfl, bn13⟩
          have hH := bnext hHeld bn13
          replace hB2 := hB2.below bn13
          refine hK.out _ _ hH ?_
          clear hK K hHeld bn13
          have hHeld := hH
          clear hH
          try simp only [Act.put, List.setIfInBounds_toArray, List.set_cons_zero, List.set_cons_succ]
          refine rcall 4 rfl (by kernel_rfl) (by rfl) (fun K hK => ?_)
          have hna := bnew wn13 (Obj.cells ([.int .i64 0, .int .i64 0, .int .i64 0, .int .i64 0, .int .i64 0, .int .u64 0, .int .i64 0, .int .u64 0, .int .i64 0, .int .u64 0, .int .i64 0]).toArray 28)
          have hA := Box.new wn13 ([.int .i64 0, .int .i64 0, .int .i64 0, .int .i64 0, .int .i64 0, .int .u64 0, .int .i64 0, .int .u64 0, .int .i64 0, .int .u64 0, .int .i64 0]) 28
          have hsgA := hHeld.size
          have hlt := hB2.lt
          go_simp
          change K _ (wn13.alloc (Obj.cells ([.int .i64 0, .int .i64 0, .int .i64 0, .int .i64 0, .int .i64 0, .int .u64 0, .int .i64 0, .int .u64 0, .int .i64 0, .int .u64 0, .int .i64 0]).toArray 28))
          have hH := bnext hHeld hna
          replace hB2 := hB2.below hna
          refine hK.out _ _ hH ?_
          clear hK K hHeld hna
          have hHeld := hH
          clear hH
          generalize wn13.alloc (Obj.cells ([.int .i64 0, .int .i64 0, .int .i64 0, .int .i64 0, .int .i64 0, .int .u64 0, .int .i64 0, .int .u64 0, .int .i64 0, .int .u64 0, .int .i64 0]).toArray 28) = wn14 at *
          generalize wn13.heap.size = gA at *
          try simp only [Act.put, List.setIfInBounds_toArray, List.set_cons_zero, List.set_cons_succ]
          have hneAB : gA ≠ gB := by omega
          refine rcall 6 rfl (by kernel_rfl) (by rfl) (fun K hK => ?_)
          refine op_store_vec (op := ⟨none, .store _ _ _, _, _, _, _⟩) _ _ rfl gA A zeroV _ rfl rfl hA ?_
          have hH := below_setRow hHeld hsgA (vcL A).toArray
          replace hA := hA.rowV (vcL A)
          replace hB2 := hB2.rowV_other (Ne.symm hneAB) (vcL A).toArray
          refine hK.out _ _ hH ?_
          clear hK K hHeld
          have hHeld := hH
          clear hH
          generalize World.setRow _ _ _ = ws1 at *
          try simp only [Act.put, List.setIfInBounds_toArray, List.set_cons_zero, List.set_cons_succ]
          refine rcall 7 rfl (by kernel_rfl) (by rfl) (fun K hK => ?_)
          refine op_store_vec (op := ⟨none, .store _ _ _, _, _, _, _⟩) _ _ rfl gB B zeroV _ rfl rfl hB2 ?_
          have hH := below_setRow hHeld hsgB (vcL B).toArray
          replace hB2 := hB2.rowV (vcL B)
          replace hA := hA.rowV_other hneAB (vcL B).toArray
          refine hK.out _ _ hH ?_
          clear hK K hHeld
          have hHeld := hH
          clear hH
          generalize World.setRow _ _ _ = ws2 at *
          try simp only [Act.put, List.setIfInBounds_toArray, List.set_cons_zero, List.set_cons_succ]
          refine wpAnyH_done (by kernel_rfl) ?_ _
          exact tail gA gB ws2 ⟨hHeld, hA, hB2⟩
        · skip
          have hna := bnew wn12 (Obj.cells ([.int .i64 0, .int .i64 0, .int .i64 0, .int .i64 0, .int .i64 0, .int .u64 0, .int .i64 0, .int .u64 0, .int .i64 0, .int .u64 0, .int .i64 0]).toArray 28)
          have hA := Box.new wn12 ([.int .i64 0, .int .i64 0, .int .i64 0, .int .i64 0, .int .i64 0, .int .u64 0, .int .i64 0, .int .u64 0, .int .i64 0, .int .u64 0, .int .i64 0]) 28
          have hsgA := hHeld.size
          have hlt := hB2.lt
          go_simp
          change K _ (wn12.alloc (Obj.cells ([.int .i64 0, .int .i64 0, .int .i64 0, .int .i64 0, .int .i64 0, .int .u64 0, .int .i64 0, .int .u64 0, .int .i64 0, .int .u64 0, .int .i64 0]).toArray 28))
          have hH := bnext hHeld hna
          replace hB2 := hB2.below hna
          refine hK.out _ _ hH ?_
          clear hK K hHeld hna
          have hHeld := hH
          clear hH
          generalize wn12.alloc (Obj.cells ([.int .i64 0, .int .i64 0, .int .i64 0, .int .i64 0, .int .i64 0, .int .u64 0, .int .i64 0, .int .u64 0, .int .i64 0, .int .u64 0, .int .i64 0]).toArray 28) = wn15 at *
          generalize wn12.heap.size = gA at *
          try simp only [Act.put, List.setIfInBounds_toArray, List.set_cons_zero, List.set_cons_succ]
          refine rcall 3 rfl (by kernel_rfl) (by rfl) (fun K hK => ?_)
          go_simp
          refine (o2 _).mono ?_
          rintro e wn16 ⟨rfl, bn16⟩
          have hH := bnext hHeld bn16
          replace hA := hA.below bn16
          replace hB2 := hB2.below bn16
          refine hK.out _ _ hH ?_
          clear hK K hHeld bn16
          have hHeld := hH
          clear hH
          try simp only [Act.put, List.setIfInBounds_toArray, List.set_cons_zero, List.set_cons_succ]
          have hneAB : gA ≠ gB := by omega
          refine rcall 6 rfl (by kernel_rfl) (by rfl) (fun K hK => ?_)
          refine op_store_vec (op := ⟨none, .store _ _ _, _, _, _, _⟩) _ _ rfl gA A zeroV _ rfl rfl hA ?_
          have hH := below_setRow hHeld hsgA (vcL A).toArray
          replace hA := hA.rowV (vcL A)
          replace hB2 := hB2.rowV_other (Ne.symm hneAB) (vcL A).toArray
          refine hK.out _ _ hH ?_
          clear hK K hHeld
          have hHeld := hH
          clear hH
          generalize World.setRow _ _ _ = ws1 at *
          try simp only [Act.put, List.setIfInBounds_toArray, List.set_cons_zero, List.set_cons_succ]
          refine rcall 7 rfl (by kernel_rfl) (by rfl) (fun K hK => ?_)
          refine op_store_vec (op := ⟨none, .store _ _ _, _, _, _, _⟩) _ _ rfl gB B zeroV _ rfl rfl hB2 ?_
          have hH := below_setRow hHeld hsgB (vcL B).toArray
          replace hB2 := hB2.rowV (vcL B)
          replace hA := hA.rowV_other hneAB (vcL B).toArray
          refine hK.out _ _ hH ?_
          clear hK K hHeld
          have hHeld := hH
          clear hH
          generalize World.setRow _ _ _ = ws2 at *
          try simp only [Act.put, List.setIfInBounds_toArray, List.set_cons_zero, List.set_cons_succ]
          refine wpAnyH_done (by kernel_rfl) ?_ _
          exact tail gA gB ws2 ⟨hHeld, hA, hB2⟩
    · skip
      have hna := bnew wd (Obj.cells ([.int .i64 0, .int .i64 0, .int .i64 0, .int .i64 0, .int .i64 0, .int .u64 0, .int .i64 0, .int .u64 0, .int .i64 0, .int .u64 0, .int .i64 0]).toArray 28)
      have hA := Box.new wd ([.int .i64 0, .int .i64 0, .int .i64 0, .int .i64 0, .int .i64 0, .int .u64 0, .int .i64 0, .int .u64 0, .int .i64 0, .int .u64 0, .int .i64 0]) 28
      have hsgA := hHeld.size
      go_simp
      change K _ (wd.alloc (Obj.cells ([.int .i64 0, .int .i64 0, .int .i64 0, .int .i64 0, .int .i64 0, .int .u64 0, .int .i64 0, .int .u64 0, .int .i64 0, .int .u64 0, .int .i64 0]).toArray 28))
      have hH := bnext hHeld hna
      refine hK.out _ _ hH ?_
      clear hK K hHeld hna
      have hHeld := hH
      clear hH
      generalize wd.alloc (Obj.cells ([.int .i64 0, .int .i64 0, .int .i64 0, .int .i64 0, .int .i64 0, .int .u64 0, .int .i64 0, .int .u64 0, .int .i64 0, .int .u64 0, .int .i64 0]).toArray 28) = wn17 at *
      generalize wd.heap.size = gA at *
      try simp only [Act.put, List.setIfInBounds_toArray, List.set_cons_zero, List.set_cons_succ]
      refine rtwo 1 5 rfl rfl (by kernel_rfl) (by rfl) (by rfl) (fun K hK => ?_) (fun K hK => ?_)
      · skip
        go_simp
        refine (o1 _).mono ?_
        rintro e wn18 ⟨rfl, bn18⟩
        have hH := bnext hHeld bn18
        replace hA := hA.below bn18
        refine hK.out _ _ hH ?_
        clear hK K hHeld bn18
        have hHeld := hH
        clear hH
        try simp only [Act.put, List.setIfInBounds_toArray, List.set_cons_zero, List.set_cons_succ]
        refine rtwo 3 5 rfl rfl (by kernel_rfl) (by rfl) (by rfl) (fun K hK => ?_) (fun K hK => ?_)
        · skip
          go_simp
          refine (o2 _).mono ?_
          rintro e wn19 ⟨rfl, bn19⟩
          have hH := bnext hHeld bn19
          replace hA := hA.below bn19
          refine hK.out _ _ hH ?_
          clear hK K hHeld bn19
          have hHeld := hH
          clear hH
          try simp only [Act.put, List.setIfInBounds_toArray, List.set_cons_zero, List.set_cons_succ]
          refine rcall 5 rfl (by kernel_rfl) (by rfl) (fun K hK => ?_)
          have hna := bnew wn19 (Obj.cells ([.int .i64 0, .int .i64 0, .int .i64 0, .int .i64 0, .int .i64 0, .int .u64 0, .int .i64 0, .int .u64 0, .int .i64 0, .int .u64 0, .int .i64 0]).toArray 28)
          have hB2 := Box.new wn19 ([.int .i64 0, .int .i64 0, .int .i64 0, .int .i64 0, .int .i64 0, .int .u64 0, .int .i64 0, .int .u64 0, .int .i64 0, .int .u64 0, .int .i64 0]) 28
          have hsgB := hHeld.size
          have hlt := hA.lt
          go_simp
          change K _ (wn19.alloc (Obj.cells ([.int .i64 0, .int .i64 0, .int .i64 0, .int .i64 0, .int .i64 0, .int .u64 0, .int .i64 0, .int .u64 0, .int .i64 0, .int .u64 0, .int .i64 0]).toArray 28))
          have hH := bnext hHeld hna
          replace hA := hA.below hna
          refine hK.out _ _ hH ?_
          clear hK K hHeld hna
          have hHeld := hH
          clear hH
          generalize wn19.alloc (Obj.cells ([.int .i64 0, .int .i64 0, .int .i64 0, .int .i64 0, .int .i64 0, .int .u64 0, .int .i64 0, .int .u64 0, .int .i64 0, .int .u64 0, .int .i64 0]).toArray 28) = wn20 at *
          generalize wn19.heap.size = gB at *
          try simp only [Act.put, List.setIfInBounds_toArray, List.set_cons_zero, List.set_cons_succ]
          have hneAB : gA ≠ gB := by omega
          refine rcall 6 rfl (by kernel_rfl) (by rfl) (fun K hK => ?_)
          refine op_store_vec (op := ⟨none, .store _ _ _, _, _, _, _⟩) _ _ rfl gA A zeroV _ rfl rfl hA ?_
          have hH := below_setRow hHeld hsgA (vcL A).toArray
          replace hA := hA.rowV (vcL A)
          replace hB2 := hB2.rowV_other (Ne.symm hneAB) (vcL A).toArray
          refine hK.out _ _ hH ?_
          clear hK K hHeld
          have hHeld := hH
          clear hH
          generalize World.setRow _ _ _ = ws1 at *
          try simp only [Act.put, List.setIfInBounds_toArray, List.set_cons_zero, List.set_cons_succ]
          refine rcall 7 rfl (by kernel_rfl) (by rfl) (fun K hK => ?_)
          refine op_store_vec (op := ⟨none, .store _ _ _, _, _, _, _⟩) _ _ rfl gB B zeroV _ rfl rfl hB2 ?_
          have hH := below_setRow hHeld hsgB (vcL B).toArray
          replace hB2 := hB2.rowV (vcL B)
          replace hA := hA.rowV_other hneAB (vcL B).toArray
          refine hK.out _ _ hH ?_
          clear hK K hHeld
          have hHeld := hH
          clear hH
          generalize World.setRow _ _ _ = ws2 at *
          try simp only [Act.put, List.setIfInBounds_toArray, List.set_cons_zero, List.set_cons_succ]
          refine wpAnyH_done (by kernel_rfl) ?_ _
          exact tail gA gB ws2 ⟨hHeld, hA, hB2⟩
        · skip
          have hna := bnew wn18 (Obj.cells ([.int .i64 0, .int .i64 0, .int .i64 0, .int .i64 0, .int .i64 0, .int .u64 0, .int .i64 0, .int .u64 0, .int .i64 0, .int .u64 0, .int .i64 0]).toArray 28)
          have hB2 := Box.new wn18 ([.int .i64 0, .int .i64 0, .int .i64 0, .int .i64 0, .int .i64 0, .int .u64 0, .int .i64 0, .int .u64 0, .int .i64 0, .int .u64 0, .int .i64 0]) 28
          have hsgB := hHeld.size
          have hlt := hA.lt
          go_simp
          change K _ (wn18.alloc (Obj.cells ([.int .i64 0, .int .i64 0, .int .i64 0, .int .i64 0, .int .i64 0, .int .u64 0, .int .i64 0, .int .u64 0, .int .i64 0, .int .u64 0, .int .i64 0]).toArray 28))
          have hH := bnext hHeld hna
          replace hA := hA.below hna
          refine hK.out _ _ hH ?_
          clear hK K hHeld hna
          have hHeld := hH
          clear hH
          generalize wn18.alloc (Obj.cells ([.int .i64 0, .int .i64 0, .int .i64 0, .int .i64 0, .int .i64 0, .int .u64 0, .int .i64 0, .int .u64 0, .int .i64 0, .int .u64 0, .int .i64 0]).toArray 28) = wn21 at *
          generalize wn18.heap.size = gB at *
          try simp only [Act.put, List.setIfInBounds_toArray, List.set_cons_zero, List.set_cons_succ]
          refine rcall 3 rfl (by kernel_rfl) (by rfl) (fun K hK => ?_)
          go_simp
          refine (o2 _).mono ?_
          rintro e wn22 ⟨rfl, bn22⟩
          have hH := bnext hHeld bn22
          replace hA := hA.below bn22
          replace hB2 := hB2.below bn22
          refine hK.out _ _ hH ?_
          clear hK K hHeld bn22
          have hHeld := hH
          clear hH
          try simp only [Act.put, List.setIfInBounds_toArray, List.set_cons_zero, List.set_cons_succ]
          have hneAB : gA ≠ gB := by omega
          refine rcall 6 rfl (by kernel_rfl) (by rfl) (fun K hK => ?_)
          refine op_store_vec (op := ⟨none, .store _ _ _, _, _, _, _⟩) _ _ rfl gA A zeroV _ rfl rfl hA ?_
          have hH := below_setRow hHeld hsgA (vcL A).toArray
          replace hA := hA.rowV (vcL A)
          replace hB2 := hB2.rowV_other (Ne.symm hneAB) (vcL A).toArray
          refine hK.out _ _ hH ?_
          clear hK K hHeld
          have hHeld := hH
          clear hH
          generalize World.setRow _ _ _ = ws1 at *
          try simp only [Act.put, List.setIfInBounds_toArray, List.set_cons_zero, List.set_cons_succ]
          refine rcall 7 rfl (by kernel_rfl) (by rfl) (fun K hK => ?_)
          refine op_store_vec (op := ⟨none, .store _ _ _, _, _, _, _⟩) _ _ rfl gB B zeroV _ rfl rfl hB2 ?_
          have hH := below_setRow hHeld hsgB (vcL B).toArray
          replace hB2 := hB2.rowV (vcL B)
          replace hA := hA.rowV_other hneAB (vcL B).toArray
          refine hK.out _ _ hH ?_
          clear hK K hHeld
          have hHeld := hH
          clear hH
          generalize World.setRow _ _ _ = ws2 at *
          try simp only [Act.put, List.setIfInBounds_toArray, List.set_cons_zero, List.set_cons_succ]
          refine wpAnyH_done (by kernel_rfl) ?_ _
          exact tail gA gB ws2 ⟨hHeld, hA, hB2⟩
      · skip
        have hna := bnew wn17 (Obj.cells ([.int .i64 0, .int .i64 0, .int .i64 0, .int .i64 0, .int .i64 0, .int .u64 0, .int .i64 0, .int .u64 0, .int .i64 0, .int .u64 0, .int .i64 0]).toArray 28)
        have hB2 := Box.new wn17 ([.int .i64 0, .int .i64 0, .int .i64 0, .int .i64 0, .int .i64 0, .int .u64 0, .int .i64 0, .int .u64 0, .int .i64 0, .int .u64 0, .int .i64 0]) 28
        have hsgB := hHeld.size
        have hlt := hA.lt
        go_simp
        change K _ (wn17.alloc (Obj.cells ([.int .i64 0, .int .i64 0, .int .i64 0, .int .i64 0, .int .i64 0, .int .u64 0, .int .i64 0, .int .u64 0, .int .i64 0, .int .u64 0, .int .i64 0]).toArray 28))
        have hH := bnext hHeld hna
        replace hA := hA.below hna
        refine hK.out _ _ hH ?_
        clear hK K hHeld hna
        have hHeld := hH
        clear hH
        generalize wn17.alloc (Obj.cells ([.int .i64 0, .int .i64 0, .int .i64 0, .int .i64 0, .int .i64 0, .int .u64 0, .int .i64 0, .int .u64 0, .int .i64 0, .int .u64 0, .int .i64 0]).toArray 28) = wn23 at *
        generalize wn17.heap.size = gB at *
        try simp only [Act.put, List.setIfInBounds_toArray, List.set_cons_zero, List.set_cons_succ]
        refine rcall 1 rfl (by kernel_rfl) (by rfl) (fun K hK => ?_)
        go_simp
        refine (o1 _).mono ?_
        rintro e wn24 ⟨rfl, bn24⟩
        have hH := bnext hHeld bn24
        replace hA := hA.below bn24
        replace hB2 := hB2.below bn24
        refine hK.out _ _ hH ?_
        clear hK K hHeld bn24
        have hHeld := hH
        clear hH
        try simp only [Act.put, List.setIfInBounds_toArray, List.set_cons_zero, List.set_cons_succ]
        refine rcall 3 rfl (by kernel_rfl) (by rfl) (fun K hK => ?_)
        go_simp
        refine (o2 _).mono ?_
        rintro e wn25 ⟨rfl, bn25⟩
        have hH := bnext hHeld bn25
        replace hA := hA.below bn25
        replace hB2 := hB2.below bn25
        refine hK.out _ _ hH ?_
        clear hK K hHeld bn25
        have hHeld := hH
        clear hH
        try simp only [Act.put, List.setIfInBounds_toArray, List.set_cons_zero, List.set_cons_succ]
        have hneAB : gA ≠ gB := by omega
        refine rcall 6 rfl (by kernel_rfl) (by rfl) (fun K hK => ?_)
        refine op_store_vec (op := ⟨none, .store _ _ _, _, _, _, _⟩) _ _ rfl gA A zeroV _ rfl rfl hA ?_
        have hH := below_setRow hHeld hsgA (vcL A).toArray
        replace hA := hA.rowV (vcL A)
        replace hB2 := hB2.rowV_other (Ne.symm hneAB) (vcL A).toArray
        refine hK.out _ _ hH ?_
        clear hK K hHeld
        have hHeld := hH
        clear hH
        generalize World.setRow _ _ _ = ws1 at *
        try simp only [Act.put, List.setIfInBounds_toArray, List.set_cons_zero, List.set_cons_succ]
        refine rcall 7 rfl (by kernel_rfl) (by rfl) (fun K hK => ?_)
        refine op_store_vec (op := ⟨none, .store _ _ _, _, _, _, _⟩) _ _ rfl gB B zeroV _ rfl rfl hB2 ?_
        have hH := below_setRow hHeld hsgB (vcL B).toArray
        replace hB2 := hB2.rowV (vcL B)
        replace hA := hA.rowV_other hneAB (vcL B).toArray
        refine hK.out _ _ hH ?_
        clear hK K hHeld
        have hHeld := hH
        clear hH
        generalize World.setRow _ _ _ = ws2 at *
        try simp only [Act.put, List.setIfInBounds_toArray, List.set_cons_zero, List.set_cons_succ]
        refine wpAnyH_done (by kernel_rfl) ?_ _
        exact tail gA gB ws2 ⟨hHeld, hA, hB2⟩
    · skip
      have hna := bnew wd (Obj.cells ([.int .i64 0, .int .i64 0, .int .i64 0, .int .i64 0, .int .i64 0, .int .u64 0, .int .i64 0, .int .u64 0, .int .i64 0, .int .u64 0, .int .i64 0]).toArray 28)
      have hB2 := Box.new wd ([.int .i64 0, .int .i64 0, .int .i64 0, .int .i64 0, .int .i64 0, .int .u64 0, .int .i64 0, .int .u64 0, .int .i64 0, .int .u64 0, .int .i64 0]) 28
      have hsgB := hHeld.size
      go_simp
      change K _ (wd.alloc (Obj.cells ([.int .i64 0, .int .i64 0, .int .i64 0, .int .i64 0, .int .i64 0, .int .u64 0, .int .i64 0, .int .u64 0, .int .i64 0, .int .u64 0, .int .i64 0]).toArray 28))
      have hH := bnext hHeld hna
      refine hK.out _ _ hH ?_
      clear hK K hHeld hna
      have hHeld := hH
      clear hH
      generalize wd.alloc (Obj.cells ([.int .i64 0, .int .i64 0, .int .i64 0, .int .i64 0, .int .i64 0, .int .u64 0, .int .i64 0, .int .u64 0, .int .i64 0, .int .u64 0, .int .i64 0]).toArray 28) = wn26 at *
      generalize wd.heap.size = gB at *
      try simp only [Act.put, List.setIfInBounds_toArray, List.set_cons_zero, List.set_cons_succ]
      refine rtwo 1 4 rfl rfl (by kernel_rfl) (by rfl) (by rfl) (fun K hK => ?_) (fun K hK => ?_)
      · skip
        go_simp
        refine (o1 _).mono ?_
        rintro e wn27 ⟨rfl, bn27⟩
        have hH := bnext hHeld bn27
        replace hB2 := hB2.below bn27
        refine hK.out _ _ hH ?_
        clear hK K hHeld bn27
        have hHeld := hH
        clear hH
        try simp only [Act.put, List.setIfInBounds_toArray, List.set_cons_zero, List.set_cons_succ]
        refine rtwo 3 4 rfl rfl (by kernel_rfl) (by rfl) (by rfl) (fun K hK => ?_) (fun K hK => ?_)
        · skip
          go_simp
          refine (o2 _).mono ?_
          rintro e wn28 ⟨rfl, bn28⟩
          have hH := bnext hHeld bn28
          replace hB2 := hB2.below bn28
          refine hK.out _ _ hH ?_
          clear hK K hHeld bn28
          have hHeld := hH
          clear hH
          try simp only [Act.put, List.setIfInBounds_toArray, List.set_cons_zero, List.set_cons_succ]
          refine rcall 4 rfl (by kernel_rfl) (by rfl) (fun K hK => ?_)
          have hna := bnew wn28 (Obj.cells ([.int .i64 0, .int .i64 0, .int .i64 0, .int .i64 0, .int .i64 0, .int .u64 0, .int .i64 0, .int .u64 0, .int .i64 0, .int .u64 0, .int .i64 0]).toArray 28)
          have hA := Box.new wn28 ([.int .i64 0, .int .i64 0, .int .i64 0, .int .i64 0, .int .i64 0, .int .u64 0, .int .i64 0, .int .u64 0, .int .i64 0, .int .u64 0, .int .i64 0]) 28
          have hsgA := hHeld.size
          have hlt := hB2.lt
          go_simp
          change K _ (wn28.alloc (Obj.cells ([.int .i64 0, .int .i64 0, .int .i64 0, .int .i64 0, .int .i64 0, .int .u64 0, .int .i64 0, .int .u64 0, .int .i64 0, .int .u64 0, .int .i64 0]).toArray 28))
          have hH := bnext hHeld hna
          replace hB2 := hB2.below hna
          refine hK.out _ _ hH ?_
          clear hK K hHeld hna
          have hHeld := hH
          clear hH
          generalize wn28.alloc (Obj.cells ([.int .i64 0, .int .i64 0, .int .i64 0, .int .i64 0, .int .i64 0, .int .u64 0, .int .i64 0, .int .u64 0, .int .i64 0, .int .u64 0, .int .i64 0]).toArray 28) = wn29 at *
          generalize wn28.heap.size = gA at *
          try simp only [Act.put, List.setIfInBounds_toArray, List.set_cons_zero, List.set_cons_succ]
          have hneAB : gA ≠ gB := by omega
          refine rcall 6 rfl (by kernel_rfl) (by rfl) (fun K hK => ?_)
          refine op_store_vec (op := ⟨none, .store _ _ _, _, _, _, _⟩) _ _ rfl gA A zeroV _ rfl rfl hA ?_
          have hH := below_setRow hHeld hsgA (vcL A).toArray
          replace hA := hA.rowV (vcL A)
          replace hB2 := hB2.rowV_other (Ne.symm hneAB) (vcL A).toArray
          refine hK.out _ _ hH ?_
          clear hK K hHeld
          have hHeld := hH
          clear hH
          generalize World.setRow _ _ _ = ws1 at *
          try simp only [Act.put, List.setIfInBounds_toArray, List.set_cons_zero, List.set_cons_succ]
          refine rcall 7 rfl (by kernel_rfl) (by rfl) (fun K hK => ?_)
          refine op_store_vec (op := ⟨none, .store _ _ _, _, _, _, _⟩) _ _ rfl gB B zeroV _ rfl rfl hB2 ?_
          have hH := below_setRow hHeld hsgB (vcL B).toArray
          replace hB2 := hB2.rowV (vcL B)
          replace hA := hA.rowV_other hneAB (vcL B).toArray
          refine hK.out _ _ hH ?_
          clear hK K hHeld
          have hHeld := hH
          clear hH
          generalize World.setRow _ _ _ = ws2 at *
          try simp only [Act.put, List.setIfInBounds_toArray, List.set_cons_zero, List.set_cons_succ]
          refine wpAnyH_done (by kernel_rfl) ?_ _
          exact tail gA gB ws2 ⟨hHeld, hA, hB2⟩
        · skip
          have hna := bnew wn27 (Obj.cells ([.int .i64 0, .int .i64 0, .int .i64 0, .int .i64 0, .int .i64 0, .int .u64 0, .int .i64 0, .int .u64 0, .int .i64 0, .int .u64 0, .int .i64 0]).toArray 28)
          have hA := Box.new wn27 ([.int .i64 0, .int .i64 0, .int .i64 0, .int .i64 0, .int .i64 0, .int .u64 0, .int .i64 0, .int .u64 0, .int .i64 0, .int .u64 0, .int .i64 0]) 28
          have hsgA := hHeld.size
          have hlt := hB2.lt
          go_simp
          change K _ (wn27.alloc (Obj.cells ([.int .i64 0, .int .i64 0, .int .i64 0, .int .i64 0, .int .i64 0, .int .u64 0, .int .i64 0, .int .u64 0, .int .i64 0, .int .u64 0, .int .i64 0]).toArray 28))
          have hH := bnext hHeld hna
          replace hB2 := hB2.below hna
          refine hK.out _ _ hH ?_
          clear hK K hHeld hna
          have hHeld := hH
          clear hH
          generalize wn27.alloc (Obj.cells ([.int .i64 0, .int .i64 0, .int .i64 0, .int .i64 0, .int .i64 0, .int .u64 0, .int .i64 0, .int .u64 0, .int .i64 0, .int .u64 0, .int .i64 0]).toArray 28) = wn30 at *
          generalize wn27.heap.size = gA at *
          try simp only [Act.put, List.setIfInBounds_toArray, List.set_cons_zero, List.set_cons_succ]
          refine rcall 3 rfl (by kernel_rfl) (by rfl) (fun K hK => ?_)
          go_simp
          refine (o2 _).mono ?_
          rintro e wn31 ⟨rfl, bn31⟩
          have hH := bnext hHeld bn31
          replace hA := hA.below bn31
          replace hB2 := hB2.below bn31
          refine hK.out _ _ hH ?_
          clear hK K hHeld bn31
          have hHeld := hH
          clear hH
          try simp only [Act.put, List.setIfInBounds_toArray, List.set_cons_zero, List.set_cons_succ]
          have hneAB : gA ≠ gB := by omega
          refine rcall 6 rfl (by kernel_rfl) (by rfl) (fun K hK => ?_)
          refine op_store_vec (op := ⟨none, .store _ _ _, _, _, _, _⟩) _ _ rfl gA A zeroV _ rfl rfl hA ?_
          have hH := below_setRow hHeld hsgA (vcL A).toArray
          replace hA := hA.rowV (vcL A)
          replace hB2 := hB2.rowV_other (Ne.symm hneAB) (vcL A).toArray
          refine hK.out _ _ hH ?_
          clear hK K hHeld
          have hHeld := hH
          clear hH
          generalize World.setRow _ _ _ = ws1 at *
          try simp only [Act.put, List.setIfInBounds_toArray, List.set_cons_zero, List.set_cons_succ]
          refine rcall 7 rfl (by kernel_rfl) (by rfl) (fun K hK => ?_)
          refine op_store_vec (op := ⟨none, .store _ _ _, _, _, _, _⟩) _ _ rfl gB B zeroV _ rfl rfl hB2 ?_
          have hH := below_setRow hHeld hsgB (vcL B).toArray
          replace hB2 := hB2.rowV (vcL B)
          replace hA := hA.rowV_other hneAB (vcL B).toArray
          refine hK.out _ _ hH ?_
          clear hK K hHeld
          have hHeld := hH
          clear hH
          generalize World.setRow _ _ _ = ws2 at *
          try simp only [Act.put, List.setIfInBounds_toArray, List.set_cons_zero, List.set_cons_succ]
          refine wpAnyH_done (by kernel_rfl) ?_ _
          exact tail gA gB ws2 ⟨hHeld, hA, hB2⟩
      · skip
        have hna := bnew wn26 (Obj.cells ([.int .i64 0, .int .i64 0, .int .i64 0, .int .i64 0, .int .i64 0, .int .u64 0, .int .i64 0, .int .u64 0, .int .i64 0, .int .u64 0, .int .i64 0]).toArray 28)
        have hA := Box.new wn26 ([.int .i64 0, .int .i64 0, .int .i64 0, .int .i64 0, .int .i64 0, .int .u64 0, .int .i64 0, .int .u64 0, .int .i64 0, .int .u64 0, .int .i64 0]) 28
        have hsgA := hHeld.size
        have hlt := hB2.lt
        go_simp
        change K _ (wn26.alloc (Obj.cells ([.int .i64 0, .int .i64 0, .int .i64 0, .int .i64 0, .int .i64 0, .int .u64 0, .int .i64 0, .int .u64 0, .int .i64 0, .int .u64 0, .int .i64 0]).toArray 28))
        have hH := bnext hHeld hna
        replace hB2 := hB2.below hna
        refine hK.out _ _ hH ?_
        clear hK K hHeld hna
        have hHeld := hH
        clear hH
        generalize wn26.alloc (Obj.cells ([.int .i64 0, .int .i64 0, .int .i64 0, .int .i64 0, .int .i64 0, .int .u64 0, .int .i64 0, .int .u64 0, .int .i64 0, .int .u64 0, .int .i64 0]).toArray 28) = wn32 at *
        generalize wn26.heap.size = gA at *
        try simp only [Act.put, List.setIfInBounds_toArray, List.set_cons_zero, List.set_cons_succ]
        refine rcall 1 rfl (by kernel_rfl) (by rfl) (fun K hK => ?_)
        go_simp
        refine (o1 _).mono ?_
        rintro e wn33 ⟨rfl, bn33⟩
        have hH := bnext hHeld bn33
        replace hA := hA.below bn33
        replace hB2 := hB2.below bn33
        refine hK.out _ _ hH ?_
        clear hK K hHeld bn33
        have hHeld := hH
        clear hH
        try simp only [Act.put, List.setIfInBounds_toArray, List.set_cons_zero, List.set_cons_succ]
        refine rcall 3 rfl (by kernel_rfl) (by rfl) (fun K hK => ?_)
        go_simp
        refine (o2 _).mono ?_
        rintro e wn34 ⟨rfl, bn34⟩
        have hH := bnext hHeld bn34
        replace hA := hA.below bn34
        replace hB2 := hB2.below bn34
        refine hK.out _ _ hH ?_
        clear hK K hHeld bn34
        have hHeld := hH
        clear hH
        try simp only [Act.put, List.setIfInBounds_toArray, List.set_cons_zero, List.set_cons_succ]
        have hneAB : gA ≠ gB := by omega
        refine rcall 6 rfl (by kernel_rfl) (by rfl) (fun K hK => ?_)
        refine op_store_vec (op := ⟨none, .store _ _ _, _, _, _, _⟩) _ _ rfl gA A zeroV _ rfl rfl hA ?_
        have hH := below_setRow hHeld hsgA (vcL A).toArray
        replace hA := hA.rowV (vcL A)
        replace hB2 := hB2.rowV_other (Ne.symm hneAB) (vcL A).toArray
        refine hK.out _ _ hH ?_
        clear hK K hHeld
        have hHeld := hH
        clear hH
        generalize World.setRow _ _ _ = ws1 at *
        try simp only [Act.put, List.setIfInBounds_toArray, List.set_cons_zero, List.set_cons_succ]
        refine rcall 7 rfl (by kernel_rfl) (by rfl) (fun K hK => ?_)
        refine op_store_vec (op := ⟨none, .store _ _ _, _, _, _, _⟩) _ _ rfl gB B zeroV _ rfl rfl hB2 ?_
        have hH := below_setRow hHeld hsgB (vcL B).toArray
        replace hB2 := hB2.rowV (vcL B)
        replace hA := hA.rowV_other hneAB (vcL B).toArray
        refine hK.out _ _ hH ?_
        clear hK K hHeld
        have hHeld := hH
        clear hH
        generalize World.setRow _ _ _ = ws2 at *
        try simp only [Act.put, List.setIfInBounds_toArray, List.set_cons_zero, List.set_cons_succ]
        refine wpAnyH_done (by kernel_rfl) ?_ _
        exact tail gA gB ws2 ⟨hHeld, hA, hB2⟩
  case h2 =>
    rintro gA gB W1 ⟨b1, hA, hB2⟩
    replace hb := bnext hb b1
    replace hM1 := hM1.below b1
    replace hM2 := hM2.below b1
    go_wp2_with (first | (guard_target =~ wpList _ _ _ (⟨some 12, _, _, _, _, _⟩ :: _) _ _; refine wpList_load_vec (op := ⟨some 12, .load _ _, _, _, _, _⟩) (by rfl) _ (by rfl) gA (by rfl) (A) _ hA ?_) | (guard_target =~ wpList _ _ _ (⟨some 13, _, _, _, _, _⟩ :: _) _ _; refine wpList_load_vec (op := ⟨some 13, .load _ _, _, _, _, _⟩) (by rfl) _ (by rfl) gB (by rfl) (B) _ hB2 ?_))
    refine (hx _).mono ?_
    rintro e w2 ⟨rfl, b2⟩
    replace hb := bnext hb b2
    replace hM1 := hM1.below b2
    replace hM2 := hM2.below b2
    replace hA := hA.below b2
    have n0 := hM1.cell 0 _ rfl
    have n3 := hM1.cell 3 _ rfl
    have n4 := hM1.cell 4 _ rfl
    have n5 := hM1.cell 5 _ rfl
    have n6 := hM1.cell 6 _ rfl
    have n7 := hM1.cell 7 _ rfl
    have m0 := hM2.cell 0 _ rfl
    have m3 := hM2.cell 3 _ rfl
    have m4 := hM2.cell 4 _ rfl
    have m5 := hM2.cell 5 _ rfl
    have m6 := hM2.cell 6 _ rfl
    have m7 := hM2.cell 7 _ rfl
    have v6 := hA.cell 6 _ rfl
    have v7 := hA.cell 7 _ rfl
    have v5 := hA.cell 5 _ rfl
    rw [A6] at v6
    rw [A7] at v7
    rw [A5] at v5
    clear hM1 hM2 hA hB2 hx o1 o2
    clear A5 A6 A7
    generalize c.cl = c0 at *
    generalize c.p1 = c3 at *
    generalize c.p2 = c4 at *
    generalize c.qc = c5 at *
    generalize c.qa = c6 at *
    generalize c.qv = c7 at *
    generalize d.cl = d0 at *
    generalize d.p1 = d3 at *
    generalize d.p2 = d4 at *
    generalize d.qc = d5 at *
    generalize d.qa = d6 at *
    generalize d.qv = d7 at *
    have hcase := HCASE.out
    clear HCASE
    rcases hcase with ⟨h1, h2, rfl⟩ | ⟨h1, h2, h3, rfl⟩ | ⟨rfl, rfl, rfl, rfl, rfl, rfl, rfl⟩ | ⟨rfl, rfl, rfl, rfl, rfl, h1, h2, rfl⟩ | ⟨rfl, rfl, rfl, rfl, rfl, h1, h2, h3, rfl⟩ | ⟨rfl, hq, h⟩
    · have hgt : decide (d3 < c3) = false := decide_eq_false (by omega)
      go_wp2_with fail
      refine (awake11_from HC HO HB _).mono ?_
      rintro e wz ⟨rfl, bz⟩
      go_wp2_with fail
      go_ret
      exact ⟨rfl, bnext hb bz⟩
    · have hgt : decide (c3 < d3) = false := decide_eq_false (by omega)
      go_wp2_with fail
      refine (awake11_from HC HO HB _).mono ?_
      rintro e wz ⟨rfl, bz⟩
      go_wp2_with fail
      go_ret
      exact ⟨rfl, bnext hb bz⟩
    · skip
      go_wp2_with fail
      refine (awake11_from HC HO HB _).mono ?_
      rintro e wz ⟨rfl, bz⟩
      go_wp2_with fail
      go_ret
      exact ⟨rfl, bnext hb bz⟩
    · have hgt : decide (d0 < c0) = false := decide_eq_false (by omega)
      go_wp2_with fail
      refine (awake11_from HC HO HB _).mono ?_
      rintro e wz ⟨rfl, bz⟩
      go_wp2_with fail
      go_ret
      exact ⟨rfl, bnext hb bz⟩
    · have hgt : decide (c0 < d0) = false := decide_eq_false (by omega)
      go_wp2_with fail
      refine (awake11_from HC HO HB _).mono ?_
      rintro e wz ⟨rfl, bz⟩
      go_wp2_with fail
      go_ret
      exact ⟨rfl, bnext hb bz⟩
    · rcases hq with h1 | ⟨rfl, h1⟩ | ⟨rfl, rfl, h1⟩ | ⟨rfl, rfl, rfl, h1⟩
      all_goals rcases h with rfl | rfl
      all_goals
        go_wp2_with fail
        refine (awake11_from HC HO HB _).mono ?_
        rintro e wz ⟨rfl, bz⟩
        go_wp2_with fail
        go_ret
        exact ⟨rfl, bnext hb bz⟩

end Go.Proofs.Ytkhgkngapgaigaa
