/- The program's own answers to questions: Answer (gen_mgmown.py). -/
import Derived.Test.YtgjffmhlehcoiaaMgmOwn4
namespace Go.Proofs.Ytgjffmhlehcoiaa
open Go.RowKit Go.Proofs
set_option maxRecDepth 50000
set_option linter.unusedVariables false
set_option linter.unusedSimpArgs false

theorem vw_rc2 {w : World} {g : Nat} {v : Vw} {c : Cf} {t : TypeId} (h : v.c = c) (B : Box w g (vwK2.enc v) t) : w.rangeAt g 0 (cfK.enc c) := h ▸ vw_rc B
theorem setM_cl (c : Cf) (id : Int) (data : List UInt8) : (setM c id data).cl = c.cl := by
  unfold setM
  repeat' split
  all_goals rfl
set_option maxRecDepth 100000 in
set_option maxHeartbeats 8000000 in
theorem ownAnsM : CAnsM := by
  intro v a id data w hin hlen
  have HR := hid (fun w => refused_any a id data w)
  rw [ans_parts v a id data hin.1]
  obtain ⟨r, hr⟩ : ∃ r, refI a id data.length = r := ⟨_, rfl⟩
  rw [hr] at HR ⊢
  by_cases h0 : r ≠ 0
  · rw [if_pos h0]
    have hq : (r != 0) = true := bne_iff_ne.2 h0
    clear hr h0 hin hlen
    have z0 := bnew w (Obj.cells (vwK2.enc v).toArray 41)
    have B := Box.new w (vwK2.enc v) 41
    have z1 := bnew (w.alloc (Obj.cells (vwK2.enc v).toArray 41)) (Obj.cells (cfK.enc zeroC).toArray 28)
    have A := Box.new (w.alloc (Obj.cells (vwK2.enc v).toArray 41)) (cfK.enc zeroC) 28
    replace B := B.below z1
    have hb := z0
    replace hb := bnext hb z1
    clear z0
    clear z1
    have s1 : (w.alloc (Obj.cells (vwK2.enc v).toArray 41)).heap.size = w.heap.size + 1 := by simp
    rw [s1] at A
    go_enter Try.func12, Try.ntmps12
    go_upto_region 1 with fail
    change Code.wp Try.prog _ _ _ ((w.alloc (Obj.cells (vwK2.enc v).toArray 41)).alloc (Obj.cells (cfK.enc zeroC).toArray 28))
    generalize ((w.alloc (Obj.cells (vwK2.enc v).toArray 41)).alloc (Obj.cells (cfK.enc zeroC).toArray 28)) = W at *
    clear s1
    generalize hG : w.heap.size = G at *
    rw [← hG] at hb
    have l_B : w.heap.size ≤ G := by omega
    have l_A : w.heap.size ≤ G + 1 := by omega
    have n_B_A : G ≠ G + 1 := by omega
    go_wp2_with fail
    refine (HR.out _).mono ?_
    rintro e w1 ⟨rfl, bq⟩
    clear HR
    replace B := B.below bq
    replace A := A.below bq
    replace hb := bnext hb bq
    clear bq
    go_upto_region 3 with fail
    refine wp_region_held_drew (S := fun w' => w'.rangeAt G 0 (cfK.enc v.c)) (by kernel_rfl) (vw_rc (B.below (Below.drew (Below.refl _ _)))) ?_
    intro hHeld
    have hbd := Below.drew (Below.refl w1.heap.size w1)
    replace A := A.below hbd
    replace B := B.below hbd
    replace hb := bnext hb hbd
    generalize w1.drew = WD at *
    clear hbd
    refine rtake 0 rfl (by rfl) (by kernel_rfl) (by kernel_rfl) (by kernel_rfl) (fun _ _ _ h => h) hHeld (fun wx hwx => by go_simp; try with_reducible rfl) ?_
    try simp only [Act.put, List.setIfInBounds_toArray, List.set_cons_zero, List.set_cons_succ]
    refine rtake 1 rfl (by rfl) (by kernel_rfl) (by kernel_rfl) (by kernel_rfl) (fun _ _ _ h => h) hHeld (fun wx hwx => cfT.exec _ rfl G 0 (by rfl) v.c hwx) ?_
    try simp only [Act.put, List.setIfInBounds_toArray, List.set_cons_zero, List.set_cons_succ]
    refine rtake 2 rfl (by rfl) (by kernel_rfl) (by kernel_rfl) (by kernel_rfl) (fun _ _ _ h => h) hHeld (fun wx hwx => by go_simp; try with_reducible rfl) ?_
    try simp only [Act.put, List.setIfInBounds_toArray, List.set_cons_zero, List.set_cons_succ]
    refine rtake 3 rfl (by rfl) (by kernel_rfl) (by kernel_rfl) (by kernel_rfl) (fun _ _ _ h => h) hHeld (fun wx hwx => by go_simp; try with_reducible rfl) ?_
    try simp only [Act.put, List.setIfInBounds_toArray, List.set_cons_zero, List.set_cons_succ]
    -- CALL 4: none := Op.store 28 (Operand.tmp 9) (Operand.tmp 20)
    refine rcall 4 rfl (by kernel_rfl) (by rfl) (fun K hK => ?_)
    refine cfT.op_store _ _ rfl (G + 1) v.c zeroC _ (by rfl) (by rfl) A ?_
    replace B := B.rowK_other (k := G + 1) n_B_A (cfK.enc v.c).toArray
    have A2 := A.rowK (cfK.enc v.c)
    refine hK.out _ _ (vw_rc B) ?_
    clear hK K hHeld
    have hHeld := vw_rc B
    try simp only [Act.put, List.setIfInBounds_toArray, List.set_cons_zero, List.set_cons_succ]
    refine rtake 5 rfl (by rfl) (by kernel_rfl) (by kernel_rfl) (by kernel_rfl) (fun _ _ _ h => h) hHeld (fun wx hwx => by go_simp; try with_reducible rfl) ?_
    try simp only [Act.put, List.setIfInBounds_toArray, List.set_cons_zero, List.set_cons_succ]
    refine wpAnyH_done (by kernel_rfl) ?_ _
    go_wp2_with fail
    exact bodyPost_ret (v := .tuple #[.string ⟨#[]⟩, .agg (cfK.enc v.c).toArray, .int .i64 r]) (cfT.result3 rfl _ _ (G + 1) _ _ _ _ rfl rfl rfl A2) rfl ⟨rfl, below_setRow hb (by omega) _⟩
  obtain rfl : r = 0 := by omega
  rw [if_neg h0]
  clear h0
  by_cases h3 : a = 3
  · subst h3
    rw [if_pos rfl]
    clear hr hin hlen
    have z0 := bnew w (Obj.cells (vwK2.enc v).toArray 41)
    have B := Box.new w (vwK2.enc v) 41
    have z1 := bnew (w.alloc (Obj.cells (vwK2.enc v).toArray 41)) (Obj.cells (cfK.enc zeroC).toArray 28)
    have A := Box.new (w.alloc (Obj.cells (vwK2.enc v).toArray 41)) (cfK.enc zeroC) 28
    replace B := B.below z1
    have hb := z0
    replace hb := bnext hb z1
    clear z0
    clear z1
    have s1 : (w.alloc (Obj.cells (vwK2.enc v).toArray 41)).heap.size = w.heap.size + 1 := by simp
    rw [s1] at A
    go_enter Try.func12, Try.ntmps12
    go_upto_region 1 with fail
    change Code.wp Try.prog _ _ _ ((w.alloc (Obj.cells (vwK2.enc v).toArray 41)).alloc (Obj.cells (cfK.enc zeroC).toArray 28))
    generalize ((w.alloc (Obj.cells (vwK2.enc v).toArray 41)).alloc (Obj.cells (cfK.enc zeroC).toArray 28)) = W at *
    clear s1
    generalize hG : w.heap.size = G at *
    rw [← hG] at hb
    have l_B : w.heap.size ≤ G := by omega
    have l_A : w.heap.size ≤ G + 1 := by omega
    have n_B_A : G ≠ G + 1 := by omega
    go_wp2_with fail
    refine (HR.out _).mono ?_
    rintro e w1 ⟨rfl, bq⟩
    clear HR
    replace B := B.below bq
    replace A := A.below bq
    replace hb := bnext hb bq
    clear bq
    go_upto_region 5 with fail
    refine wp_region_held_drew (S := fun w' => w'.rangeAt G 0 (cfK.enc v.c)) (by kernel_rfl) (vw_rc (B.below (Below.drew (Below.refl _ _)))) ?_
    intro hHeld
    have hbd := Below.drew (Below.refl w1.heap.size w1)
    replace A := A.below hbd
    replace B := B.below hbd
    replace hb := bnext hb hbd
    generalize w1.drew = WD at *
    clear hbd
    refine rtake 0 rfl (by rfl) (by kernel_rfl) (by kernel_rfl) (by kernel_rfl) (fun _ _ _ h => h) hHeld (fun wx hwx => by go_simp; try with_reducible rfl) ?_
    try simp only [Act.put, List.setIfInBounds_toArray, List.set_cons_zero, List.set_cons_succ]
    refine rtake 1 rfl (by rfl) (by kernel_rfl) (by kernel_rfl) (by kernel_rfl) (fun _ _ _ h => h) hHeld (fun wx hwx => by go_simp; try with_reducible rfl) ?_
    try simp only [Act.put, List.setIfInBounds_toArray, List.set_cons_zero, List.set_cons_succ]
    refine rtake 2 rfl (by rfl) (by kernel_rfl) (by kernel_rfl) (by kernel_rfl) (fun _ _ _ h => h) hHeld (fun wx hwx => cfT.exec _ rfl G 0 (by rfl) v.c hwx) ?_
    try simp only [Act.put, List.setIfInBounds_toArray, List.set_cons_zero, List.set_cons_succ]
    refine rtake 3 rfl (by rfl) (by kernel_rfl) (by kernel_rfl) (by kernel_rfl) (fun _ _ _ h => h) hHeld (fun wx hwx => by go_simp; try with_reducible rfl) ?_
    try simp only [Act.put, List.setIfInBounds_toArray, List.set_cons_zero, List.set_cons_succ]
    -- CALL 4: none := Op.store 28 (Operand.tmp 9) (Operand.tmp 26)
    refine rcall 4 rfl (by kernel_rfl) (by rfl) (fun K hK => ?_)
    refine cfT.op_store _ _ rfl (G + 1) v.c zeroC _ (by rfl) (by rfl) A ?_
    replace B := B.rowK_other (k := G + 1) n_B_A (cfK.enc v.c).toArray
    have A2 := A.rowK (cfK.enc v.c)
    refine hK.out _ _ (vw_rc B) ?_
    clear hK K hHeld
    have hHeld := vw_rc B
    try simp only [Act.put, List.setIfInBounds_toArray, List.set_cons_zero, List.set_cons_succ]
    refine rtake 5 rfl (by rfl) (by kernel_rfl) (by kernel_rfl) (by kernel_rfl) (fun _ _ _ h => h) hHeld (fun wx hwx => by go_simp; try with_reducible rfl) ?_
    try simp only [Act.put, List.setIfInBounds_toArray, List.set_cons_zero, List.set_cons_succ]
    refine wpAnyH_done (by kernel_rfl) ?_ _
    go_wp2_with fail
    exact bodyPost_ret (v := .tuple #[.string ⟨data.toArray⟩, .agg (cfK.enc v.c).toArray, .int .i64 0]) (cfT.result3 rfl _ _ (G + 1) _ _ _ _ rfl rfl rfl A2) rfl ⟨rfl, below_setRow hb (by omega) _⟩
  rw [if_neg h3]
  obtain ⟨hg, ha⟩ := ref_told hr h3
  have q3 : (a == 3) = false := beq_false_of_ne h3
  have htl : TellIn v := ⟨hin.2.1.1, hin.2.2.1.1.1, hin.2.2.1.2.2.1.1⟩
  by_cases h1 : a = 1 ∧ id ≠ 0
  · rw [if_pos h1]
    obtain ⟨rfl, hid0⟩ := h1
    obtain ⟨hsb, hn2⟩ := ref_set hr hid0
    have HTU := hid (turned_any2 v.c id hsb hid0 data (by omega))
    have hcl := setM_cl v.c id data
    have HCK := hid (fun w => ownChk (setM v.c id data) w ⟨by rw [hcl]; exact hin.2.1.1, by rw [hcl]; exact hin.2.1.2⟩)
    have hTI : TellIn { v with c := setM v.c id data } := ⟨by show 0 ≤ (setM v.c id data).cl; rw [hcl]; exact hin.2.1.1, htl.2⟩
    have HT := hid (told_any _ hTI id hg)
    obtain ⟨D, hD⟩ : ∃ D, setM v.c id data = D := ⟨_, rfl⟩
    rw [hD] at HTU HCK HT ⊢
    have hidn : (id != 0) = true := bne_iff_ne.2 hid0
    clear hr hin hlen hsb hn2 hcl hTI htl hg h3 ha hD hid0
    by_cases hok : CfOk D
    · have hE : checkE D = 0 := if_pos hok
      rw [hE] at HCK
      rw [show setA v id D = ⟨toldS { v with c := D } id, D, 0⟩ from if_pos hok]
      clear hE hok
      obtain ⟨V2, hV2⟩ : ∃ V2 : Vw, { v with c := D } = V2 := ⟨_, rfl⟩
      rw [hV2] at HT ⊢
      have HVc := hid (show V2.c = D by rw [← hV2])
      have HV2 := hid hV2
      clear hV2
      have z0 := bnew w (Obj.cells (vwK2.enc v).toArray 41)
      have B := Box.new w (vwK2.enc v) 41
      have z1 := bnew (w.alloc (Obj.cells (vwK2.enc v).toArray 41)) (Obj.cells (cfK.enc zeroC).toArray 28)
      have A := Box.new (w.alloc (Obj.cells (vwK2.enc v).toArray 41)) (cfK.enc zeroC) 28
      replace B := B.below z1
      have hb := z0
      replace hb := bnext hb z1
      clear z0
      clear z1
      have s1 : (w.alloc (Obj.cells (vwK2.enc v).toArray 41)).heap.size = w.heap.size + 1 := by simp
      rw [s1] at A
      go_enter Try.func12, Try.ntmps12
      go_upto_region 1 with fail
      change Code.wp Try.prog _ _ _ ((w.alloc (Obj.cells (vwK2.enc v).toArray 41)).alloc (Obj.cells (cfK.enc zeroC).toArray 28))
      generalize ((w.alloc (Obj.cells (vwK2.enc v).toArray 41)).alloc (Obj.cells (cfK.enc zeroC).toArray 28)) = W at *
      clear s1
      generalize hG : w.heap.size = G at *
      rw [← hG] at hb
      have l_B : w.heap.size ≤ G := by omega
      have l_A : w.heap.size ≤ G + 1 := by omega
      have n_B_A : G ≠ G + 1 := by omega
      go_wp2_with fail
      refine (HR.out _).mono ?_
      rintro e w1 ⟨rfl, bq⟩
      clear HR
      replace B := B.below bq
      replace A := A.below bq
      replace hb := bnext hb bq
      clear bq
      go_wp2_with (guard_target =~ wpList _ _ _ (⟨some 34, _, _, _, _, _⟩ :: _) _ _; refine cfT.load (op := ⟨some 34, .load _ _, _, _, _, _⟩) (by rfl) _ (by rfl) (G) 0 (by rfl) (v.c) (vw_rc B) ?_)
      refine (HTU.out _).mono ?_
      rintro e w2 ⟨rfl, bq⟩
      replace B := B.below bq
      replace A := A.below bq
      replace hb := bnext hb bq
      clear bq
      have hn1 := bnew w2 (Obj.cells (cfK.enc (zeroC)).toArray 28)
      have hM0 := Box.new w2 (cfK.enc (zeroC)) 28
      go_upto_region 8 with (guard_target =~ wpList _ _ _ (⟨none, _, _, _, _, _⟩ :: _) _ _; refine cfT.store (op := ⟨none, .store _ _ _, _, _, _, _⟩) (by rfl) _ _ (by rfl) (w2.heap.size) (D) (zeroC) _ (by rfl) (by rfl) hM0 ?_)
      have n_B_C : G ≠ w2.heap.size := by have h1 := B.lt; have h2 := Nat.le_refl w2.heap.size; omega
      have n_A_C : G + 1 ≠ w2.heap.size := by have h1 := A.lt; have h2 := Nat.le_refl w2.heap.size; omega
      have l_C : w.heap.size ≤ w2.heap.size := Nat.le_trans hb.size (Nat.le_refl w2.heap.size)
      have C := hM0.rowK (cfK.enc (D))
      replace B := (B.below hn1).rowK_other (k := w2.heap.size) n_B_C (cfK.enc (D)).toArray
      replace A := (A.below hn1).rowK_other (k := w2.heap.size) n_A_C (cfK.enc (D)).toArray
      have hW := below_setRow hn1 (Nat.le_refl _) (cfK.enc (D)).toArray
      replace hb := bnext hb hW
      change Code.wp Try.prog _ _ _ ((w2.alloc (Obj.cells (cfK.enc (zeroC)).toArray 28)).setRow w2.heap.size (cfK.enc (D)).toArray)
      generalize (w2.alloc (Obj.cells (cfK.enc (zeroC)).toArray 28)).setRow w2.heap.size (cfK.enc (D)).toArray = w3 at *
      clear hn1 hM0 hW
      generalize w2.heap.size = GC at *
      go_wp2_with (guard_target =~ wpList _ _ _ (⟨some 38, _, _, _, _, _⟩ :: _) _ _; refine cfT.load (op := ⟨some 38, .load _ _, _, _, _, _⟩) (by rfl) _ (by rfl) GC 0 (by rfl) (D) C.rangeK ?_)
      refine (HCK.out _).mono ?_
      rintro e w9 ⟨rfl, bq⟩
      replace B := B.below bq
      replace A := A.below bq
      replace C := C.below bq
      replace hb := bnext hb bq
      clear bq
      go_upto_region 11 with (first | (guard_target =~ wpList _ _ _ (⟨some 43, _, _, _, _, _⟩ :: _) _ _; refine cfT.load (op := ⟨some 43, .load _ _, _, _, _, _⟩) (by rfl) _ (by rfl) GC 0 (by rfl) (D) C.rangeK ?_) | (guard_target =~ wpList _ _ _ (⟨none, .store _ _ _, _, _, _, _⟩ :: _) _ _; refine cfT.store_mid (op := ⟨none, .store _ _ _, _, _, _, _⟩) (by rfl) _ _ (by rfl) G 0 D (vwK2.enc v) _ (by rfl) (by rfl) B (by show (23 : Nat) ≤ 41; decide) ?_))
      change Code.wp Try.prog _ _ _ (w9.setCells G 0 (cfK.enc D))
      replace A := Box.cells_other (Ne.symm n_B_A) (cfK.enc D) 0 _ A
      replace hb := below_cells l_B (cfK.enc D) 0 _ hb
      replace B : Box (w9.setCells G 0 (cfK.enc D)) G (vwK2.enc { v with c := D }) 41 := Box.mid (cfL D) (cfL v.c) [] (paL v.p ++ [.int .i64 v.off, .int .i64 v.dl, .int .i64 v.nw, .int .i64 v.st, .int .i64 v.pe, .int .i64 v.po]) w9 rfl B
      clear C
      generalize w9.setCells G 0 (cfK.enc D) = w10 at *
      rw [HV2.out] at B
      refine wp_region_held_drew (S := fun w' => Box w' G (vwK2.enc V2) 41) (by kernel_rfl) (B.below (Below.drew (Below.refl _ _))) ?_
      intro hHeld
      have hbd := Below.drew (Below.refl w10.heap.size w10)
      replace A := A.below hbd
      replace B := B.below hbd
      replace hb := bnext hb hbd
      generalize w10.drew = WD at *
      clear hbd
      refine rtake 0 rfl (by rfl) (by kernel_rfl) (by kernel_rfl) (by kernel_rfl) (fun _ _ _ h => h) hHeld (fun wx hwx => vwT2.exec _ rfl G 0 (by rfl) V2 (Box.rangeK hwx)) ?_
      try simp only [Act.put, List.setIfInBounds_toArray, List.set_cons_zero, List.set_cons_succ]
      refine rtake 1 rfl (by rfl) (by kernel_rfl) (by kernel_rfl) (by kernel_rfl) (fun _ _ _ h => h) hHeld (fun wx hwx => by go_simp; try with_reducible rfl) ?_
      try simp only [Act.put, List.setIfInBounds_toArray, List.set_cons_zero, List.set_cons_succ]
      refine rtake 4 rfl (by rfl) (by kernel_rfl) (by kernel_rfl) (by kernel_rfl) (fun _ _ _ h => h) hHeld (fun wx hwx => by go_simp; try with_reducible rfl) ?_
      try simp only [Act.put, List.setIfInBounds_toArray, List.set_cons_zero, List.set_cons_succ]
      refine rtake 5 rfl (by rfl) (by kernel_rfl) (by kernel_rfl) (by kernel_rfl) (fun _ _ _ h => h) hHeld (fun wx hwx => cfT.exec _ rfl G 0 (by rfl) (D) (vw_rc2 HVc.out hwx)) ?_
      try simp only [Act.put, List.setIfInBounds_toArray, List.set_cons_zero, List.set_cons_succ]
      -- CALL 2: some 47 := Op.call { callee := Callee.value (Operand.func 22), args := #[Operand.tmp 45, Operand.tmp 46], argTypes := #[41, 3] }
      refine rcall 2 rfl (by kernel_rfl) (by rfl) (fun K hK => ?_)
      go_simp
      refine (HT.out WD).mono ?_
      rintro e wt ⟨x2, rfl, own, bq⟩
      have hlow : G + 1 < WD.heap.size := A.lt
      replace A := A.below bq
      replace B := B.below bq
      replace hb := bnext hb bq
      refine hK.out _ _ B ?_
      clear hK K hHeld
      refine wpAnyH_mono (S' := fun w' => Box w' G (vwK2.enc V2) 41 ∧ Bytes w' x2 (toldS V2 id)) (fun w' h => h.1) _ _ _ _ ?_
      have hHeld := And.intro B own.bytes
      clear bq
      try simp only [Act.put, List.setIfInBounds_toArray, List.set_cons_zero, List.set_cons_succ]
      refine rtake 3 rfl (by rfl) (by kernel_rfl) (by kernel_rfl) (by kernel_rfl) (fun _ _ _ h => h) hHeld (fun wx hwx => by have hst := hwx.2.str; go_simp; try with_reducible rfl) ?_
      try simp only [Act.put, List.setIfInBounds_toArray, List.set_cons_zero, List.set_cons_succ]
      refine rtake 6 rfl (by rfl) (by kernel_rfl) (by kernel_rfl) (by kernel_rfl) (fun _ _ _ h => h) hHeld (fun wx hwx => by go_simp; try with_reducible rfl) ?_
      try simp only [Act.put, List.setIfInBounds_toArray, List.set_cons_zero, List.set_cons_succ]
      -- CALL 7: none := Op.store 28 (Operand.tmp 9) (Operand.tmp 50)
      refine rcall 7 rfl (by kernel_rfl) (by rfl) (fun K hK => ?_)
      refine cfT.op_store _ _ rfl (G + 1) (D) zeroC _ (by rfl) (by rfl) A ?_
      replace B := B.rowK_other (k := G + 1) n_B_A (cfK.enc (D)).toArray
      have A2 := A.rowK (cfK.enc (D))
      have hHeld2 := And.intro B (Bytes.only2 own hlow ((Only.refl (G + 1) wt).row (cfK.enc (D)).toArray))
      refine hK.out _ _ hHeld2 ?_
      clear hK K hHeld
      have hHeld := hHeld2
      clear hHeld2
      try simp only [Act.put, List.setIfInBounds_toArray, List.set_cons_zero, List.set_cons_succ]
      refine rtake 8 rfl (by rfl) (by kernel_rfl) (by kernel_rfl) (by kernel_rfl) (fun _ _ _ h => h) hHeld (fun wx hwx => by go_simp; try with_reducible rfl) ?_
      try simp only [Act.put, List.setIfInBounds_toArray, List.set_cons_zero, List.set_cons_succ]
      refine wpAnyH_done (by kernel_rfl) ?_ _
      go_wp2_with fail
      exact bodyPost_ret (v := .tuple #[.string ⟨(toldS V2 id).toArray⟩, .agg (cfK.enc (D)).toArray, .int .i64 0]) (cfT.result3 rfl _ _ (G + 1) _ _ _ _ rfl rfl rfl A2) rfl ⟨rfl, below_setRow hb (by omega) _⟩
    · have hE : checkE D = 15 := if_neg hok
      rw [hE] at HCK
      rw [show setA v id D = ⟨[], v.c, 4⟩ from if_neg hok]
      clear hE hok HT
      have z0 := bnew w (Obj.cells (vwK2.enc v).toArray 41)
      have B := Box.new w (vwK2.enc v) 41
      have z1 := bnew (w.alloc (Obj.cells (vwK2.enc v).toArray 41)) (Obj.cells (cfK.enc zeroC).toArray 28)
      have A := Box.new (w.alloc (Obj.cells (vwK2.enc v).toArray 41)) (cfK.enc zeroC) 28
      replace B := B.below z1
      have hb := z0
      replace hb := bnext hb z1
      clear z0
      clear z1
      have s1 : (w.alloc (Obj.cells (vwK2.enc v).toArray 41)).heap.size = w.heap.size + 1 := by simp
      rw [s1] at A
      go_enter Try.func12, Try.ntmps12
      go_upto_region 1 with fail
      change Code.wp Try.prog _ _ _ ((w.alloc (Obj.cells (vwK2.enc v).toArray 41)).alloc (Obj.cells (cfK.enc zeroC).toArray 28))
      generalize ((w.alloc (Obj.cells (vwK2.enc v).toArray 41)).alloc (Obj.cells (cfK.enc zeroC).toArray 28)) = W at *
      clear s1
      generalize hG : w.heap.size = G at *
      rw [← hG] at hb
      have l_B : w.heap.size ≤ G := by omega
      have l_A : w.heap.size ≤ G + 1 := by omega
      have n_B_A : G ≠ G + 1 := by omega
      go_wp2_with fail
      refine (HR.out _).mono ?_
      rintro e w1 ⟨rfl, bq⟩
      clear HR
      replace B := B.below bq
      replace A := A.below bq
      replace hb := bnext hb bq
      clear bq
      go_wp2_with (guard_target =~ wpList _ _ _ (⟨some 34, _, _, _, _, _⟩ :: _) _ _; refine cfT.load (op := ⟨some 34, .load _ _, _, _, _, _⟩) (by rfl) _ (by rfl) (G) 0 (by rfl) (v.c) (vw_rc B) ?_)
      refine (HTU.out _).mono ?_
      rintro e w2 ⟨rfl, bq⟩
      replace B := B.below bq
      replace A := A.below bq
      replace hb := bnext hb bq
      clear bq
      have hn1 := bnew w2 (Obj.cells (cfK.enc (zeroC)).toArray 28)
      have hM0 := Box.new w2 (cfK.enc (zeroC)) 28
      go_upto_region 8 with (guard_target =~ wpList _ _ _ (⟨none, _, _, _, _, _⟩ :: _) _ _; refine cfT.store (op := ⟨none, .store _ _ _, _, _, _, _⟩) (by rfl) _ _ (by rfl) (w2.heap.size) (D) (zeroC) _ (by rfl) (by rfl) hM0 ?_)
      have n_B_C : G ≠ w2.heap.size := by have h1 := B.lt; have h2 := Nat.le_refl w2.heap.size; omega
      have n_A_C : G + 1 ≠ w2.heap.size := by have h1 := A.lt; have h2 := Nat.le_refl w2.heap.size; omega
      have l_C : w.heap.size ≤ w2.heap.size := Nat.le_trans hb.size (Nat.le_refl w2.heap.size)
      have C := hM0.rowK (cfK.enc (D))
      replace B := (B.below hn1).rowK_other (k := w2.heap.size) n_B_C (cfK.enc (D)).toArray
      replace A := (A.below hn1).rowK_other (k := w2.heap.size) n_A_C (cfK.enc (D)).toArray
      have hW := below_setRow hn1 (Nat.le_refl _) (cfK.enc (D)).toArray
      replace hb := bnext hb hW
      change Code.wp Try.prog _ _ _ ((w2.alloc (Obj.cells (cfK.enc (zeroC)).toArray 28)).setRow w2.heap.size (cfK.enc (D)).toArray)
      generalize (w2.alloc (Obj.cells (cfK.enc (zeroC)).toArray 28)).setRow w2.heap.size (cfK.enc (D)).toArray = w3 at *
      clear hn1 hM0 hW
      generalize w2.heap.size = GC at *
      go_wp2_with (guard_target =~ wpList _ _ _ (⟨some 38, _, _, _, _, _⟩ :: _) _ _; refine cfT.load (op := ⟨some 38, .load _ _, _, _, _, _⟩) (by rfl) _ (by rfl) GC 0 (by rfl) (D) C.rangeK ?_)
      refine (HCK.out _).mono ?_
      rintro e w9 ⟨rfl, bq⟩
      replace B := B.below bq
      replace A := A.below bq
      replace C := C.below bq
      replace hb := bnext hb bq
      clear bq
      go_upto_region 9 with fail
      refine wp_region_held_drew (S := fun w' => w'.rangeAt G 0 (cfK.enc v.c)) (by kernel_rfl) (vw_rc (B.below (Below.drew (Below.refl _ _)))) ?_
      intro hHeld
      have hbd := Below.drew (Below.refl w9.heap.size w9)
      replace A := A.below hbd
      replace B := B.below hbd
      replace hb := bnext hb hbd
      generalize w9.drew = WD at *
      clear hbd C
      refine rtake 0 rfl (by rfl) (by kernel_rfl) (by kernel_rfl) (by kernel_rfl) (fun _ _ _ h => h) hHeld (fun wx hwx => by go_simp; try with_reducible rfl) ?_
      try simp only [Act.put, List.setIfInBounds_toArray, List.set_cons_zero, List.set_cons_succ]
      refine rtake 1 rfl (by rfl) (by kernel_rfl) (by kernel_rfl) (by kernel_rfl) (fun _ _ _ h => h) hHeld (fun wx hwx => cfT.exec _ rfl G 0 (by rfl) v.c hwx) ?_
      try simp only [Act.put, List.setIfInBounds_toArray, List.set_cons_zero, List.set_cons_succ]
      refine rtake 2 rfl (by rfl) (by kernel_rfl) (by kernel_rfl) (by kernel_rfl) (fun _ _ _ h => h) hHeld (fun wx hwx => by go_simp; try with_reducible rfl) ?_
      try simp only [Act.put, List.setIfInBounds_toArray, List.set_cons_zero, List.set_cons_succ]
      -- CALL 3: none := Op.store 28 (Operand.tmp 9) (Operand.tmp 42)
      refine rcall 3 rfl (by kernel_rfl) (by rfl) (fun K hK => ?_)
      refine cfT.op_store _ _ rfl (G + 1) v.c zeroC _ (by rfl) (by rfl) A ?_
      replace B := B.rowK_other (k := G + 1) n_B_A (cfK.enc v.c).toArray
      have A2 := A.rowK (cfK.enc v.c)
      refine hK.out _ _ (vw_rc B) ?_
      clear hK K hHeld
      have hHeld := vw_rc B
      try simp only [Act.put, List.setIfInBounds_toArray, List.set_cons_zero, List.set_cons_succ]
      refine rtake 4 rfl (by rfl) (by kernel_rfl) (by kernel_rfl) (by kernel_rfl) (fun _ _ _ h => h) hHeld (fun wx hwx => by go_simp; try with_reducible rfl) ?_
      try simp only [Act.put, List.setIfInBounds_toArray, List.set_cons_zero, List.set_cons_succ]
      refine wpAnyH_done (by kernel_rfl) ?_ _
      go_wp2_with fail
      exact bodyPost_ret (v := .tuple #[.string ⟨#[]⟩, .agg (cfK.enc v.c).toArray, .int .i64 4]) (cfT.result3 rfl _ _ (G + 1) _ _ _ _ rfl rfl rfl A2) rfl ⟨rfl, below_setRow hb (by omega) _⟩
  rw [if_neg h1]
  have HT := hid (told_any v htl id hg)
  obtain rfl | ⟨rfl, rfl⟩ : a = 0 ∨ (a = 1 ∧ id = 0) := by omega
  · clear hr hin hlen htl hg h3 ha q3 h1
    have z0 := bnew w (Obj.cells (vwK2.enc v).toArray 41)
    have B := Box.new w (vwK2.enc v) 41
    have z1 := bnew (w.alloc (Obj.cells (vwK2.enc v).toArray 41)) (Obj.cells (cfK.enc zeroC).toArray 28)
    have A := Box.new (w.alloc (Obj.cells (vwK2.enc v).toArray 41)) (cfK.enc zeroC) 28
    replace B := B.below z1
    have hb := z0
    replace hb := bnext hb z1
    clear z0
    clear z1
    have s1 : (w.alloc (Obj.cells (vwK2.enc v).toArray 41)).heap.size = w.heap.size + 1 := by simp
    rw [s1] at A
    go_enter Try.func12, Try.ntmps12
    go_upto_region 1 with fail
    change Code.wp Try.prog _ _ _ ((w.alloc (Obj.cells (vwK2.enc v).toArray 41)).alloc (Obj.cells (cfK.enc zeroC).toArray 28))
    generalize ((w.alloc (Obj.cells (vwK2.enc v).toArray 41)).alloc (Obj.cells (cfK.enc zeroC).toArray 28)) = W at *
    clear s1
    generalize hG : w.heap.size = G at *
    rw [← hG] at hb
    have l_B : w.heap.size ≤ G := by omega
    have l_A : w.heap.size ≤ G + 1 := by omega
    have n_B_A : G ≠ G + 1 := by omega
    go_wp2_with fail
    refine (HR.out _).mono ?_
    rintro e w1 ⟨rfl, bq⟩
    clear HR
    replace B := B.below bq
    replace A := A.below bq
    replace hb := bnext hb bq
    clear bq
    go_upto_region 11 with fail
    refine wp_region_held_drew (S := fun w' => Box w' G (vwK2.enc v) 41) (by kernel_rfl) (B.below (Below.drew (Below.refl _ _))) ?_
    intro hHeld
    have hbd := Below.drew (Below.refl w1.heap.size w1)
    replace A := A.below hbd
    replace B := B.below hbd
    replace hb := bnext hb hbd
    generalize w1.drew = WD at *
    clear hbd
    refine rtake 0 rfl (by rfl) (by kernel_rfl) (by kernel_rfl) (by kernel_rfl) (fun _ _ _ h => h) hHeld (fun wx hwx => vwT2.exec _ rfl G 0 (by rfl) v (Box.rangeK hwx)) ?_
    try simp only [Act.put, List.setIfInBounds_toArray, List.set_cons_zero, List.set_cons_succ]
    refine rtake 1 rfl (by rfl) (by kernel_rfl) (by kernel_rfl) (by kernel_rfl) (fun _ _ _ h => h) hHeld (fun wx hwx => by go_simp; try with_reducible rfl) ?_
    try simp only [Act.put, List.setIfInBounds_toArray, List.set_cons_zero, List.set_cons_succ]
    refine rtake 4 rfl (by rfl) (by kernel_rfl) (by kernel_rfl) (by kernel_rfl) (fun _ _ _ h => h) hHeld (fun wx hwx => by go_simp; try with_reducible rfl) ?_
    try simp only [Act.put, List.setIfInBounds_toArray, List.set_cons_zero, List.set_cons_succ]
    refine rtake 5 rfl (by rfl) (by kernel_rfl) (by kernel_rfl) (by kernel_rfl) (fun _ _ _ h => h) hHeld (fun wx hwx => cfT.exec _ rfl G 0 (by rfl) (v.c) (vw_rc hwx)) ?_
    try simp only [Act.put, List.setIfInBounds_toArray, List.set_cons_zero, List.set_cons_succ]
    -- CALL 2: some 47 := Op.call { callee := Callee.value (Operand.func 22), args := #[Operand.tmp 45, Operand.tmp 46], argTypes := #[41, 3] }
    refine rcall 2 rfl (by kernel_rfl) (by rfl) (fun K hK => ?_)
    go_simp
    refine (HT.out WD).mono ?_
    rintro e wt ⟨x2, rfl, own, bq⟩
    have hlow : G + 1 < WD.heap.size := A.lt
    replace A := A.below bq
    replace B := B.below bq
    replace hb := bnext hb bq
    refine hK.out _ _ B ?_
    clear hK K hHeld
    refine wpAnyH_mono (S' := fun w' => Box w' G (vwK2.enc v) 41 ∧ Bytes w' x2 (toldS v id)) (fun w' h => h.1) _ _ _ _ ?_
    have hHeld := And.intro B own.bytes
    clear bq
    try simp only [Act.put, List.setIfInBounds_toArray, List.set_cons_zero, List.set_cons_succ]
    refine rtake 3 rfl (by rfl) (by kernel_rfl) (by kernel_rfl) (by kernel_rfl) (fun _ _ _ h => h) hHeld (fun wx hwx => by have hst := hwx.2.str; go_simp; try with_reducible rfl) ?_
    try simp only [Act.put, List.setIfInBounds_toArray, List.set_cons_zero, List.set_cons_succ]
    refine rtake 6 rfl (by rfl) (by kernel_rfl) (by kernel_rfl) (by kernel_rfl) (fun _ _ _ h => h) hHeld (fun wx hwx => by go_simp; try with_reducible rfl) ?_
    try simp only [Act.put, List.setIfInBounds_toArray, List.set_cons_zero, List.set_cons_succ]
    -- CALL 7: none := Op.store 28 (Operand.tmp 9) (Operand.tmp 50)
    refine rcall 7 rfl (by kernel_rfl) (by rfl) (fun K hK => ?_)
    refine cfT.op_store _ _ rfl (G + 1) (v.c) zeroC _ (by rfl) (by rfl) A ?_
    replace B := B.rowK_other (k := G + 1) n_B_A (cfK.enc (v.c)).toArray
    have A2 := A.rowK (cfK.enc (v.c))
    have hHeld2 := And.intro B (Bytes.only2 own hlow ((Only.refl (G + 1) wt).row (cfK.enc (v.c)).toArray))
    refine hK.out _ _ hHeld2 ?_
    clear hK K hHeld
    have hHeld := hHeld2
    clear hHeld2
    try simp only [Act.put, List.setIfInBounds_toArray, List.set_cons_zero, List.set_cons_succ]
    refine rtake 8 rfl (by rfl) (by kernel_rfl) (by kernel_rfl) (by kernel_rfl) (fun _ _ _ h => h) hHeld (fun wx hwx => by go_simp; try with_reducible rfl) ?_
    try simp only [Act.put, List.setIfInBounds_toArray, List.set_cons_zero, List.set_cons_succ]
    refine wpAnyH_done (by kernel_rfl) ?_ _
    go_wp2_with fail
    exact bodyPost_ret (v := .tuple #[.string ⟨(toldS v id).toArray⟩, .agg (cfK.enc (v.c)).toArray, .int .i64 0]) (cfT.result3 rfl _ _ (G + 1) _ _ _ _ rfl rfl rfl A2) rfl ⟨rfl, below_setRow hb (by omega) _⟩
  · clear hr hin hlen htl hg h3 ha q3 h1
    have z0 := bnew w (Obj.cells (vwK2.enc v).toArray 41)
    have B := Box.new w (vwK2.enc v) 41
    have z1 := bnew (w.alloc (Obj.cells (vwK2.enc v).toArray 41)) (Obj.cells (cfK.enc zeroC).toArray 28)
    have A := Box.new (w.alloc (Obj.cells (vwK2.enc v).toArray 41)) (cfK.enc zeroC) 28
    replace B := B.below z1
    have hb := z0
    replace hb := bnext hb z1
    clear z0
    clear z1
    have s1 : (w.alloc (Obj.cells (vwK2.enc v).toArray 41)).heap.size = w.heap.size + 1 := by simp
    rw [s1] at A
    go_enter Try.func12, Try.ntmps12
    go_upto_region 1 with fail
    change Code.wp Try.prog _ _ _ ((w.alloc (Obj.cells (vwK2.enc v).toArray 41)).alloc (Obj.cells (cfK.enc zeroC).toArray 28))
    generalize ((w.alloc (Obj.cells (vwK2.enc v).toArray 41)).alloc (Obj.cells (cfK.enc zeroC).toArray 28)) = W at *
    clear s1
    generalize hG : w.heap.size = G at *
    rw [← hG] at hb
    have l_B : w.heap.size ≤ G := by omega
    have l_A : w.heap.size ≤ G + 1 := by omega
    have n_B_A : G ≠ G + 1 := by omega
    go_wp2_with fail
    refine (HR.out _).mono ?_
    rintro e w1 ⟨rfl, bq⟩
    clear HR
    replace B := B.below bq
    replace A := A.below bq
    replace hb := bnext hb bq
    clear bq
    go_upto_region 11 with fail
    refine wp_region_held_drew (S := fun w' => Box w' G (vwK2.enc v) 41) (by kernel_rfl) (B.below (Below.drew (Below.refl _ _))) ?_
    intro hHeld
    have hbd := Below.drew (Below.refl w1.heap.size w1)
    replace A := A.below hbd
    replace B := B.below hbd
    replace hb := bnext hb hbd
    generalize w1.drew = WD at *
    clear hbd
    refine rtake 0 rfl (by rfl) (by kernel_rfl) (by kernel_rfl) (by kernel_rfl) (fun _ _ _ h => h) hHeld (fun wx hwx => vwT2.exec _ rfl G 0 (by rfl) v (Box.rangeK hwx)) ?_
    try simp only [Act.put, List.setIfInBounds_toArray, List.set_cons_zero, List.set_cons_succ]
    refine rtake 1 rfl (by rfl) (by kernel_rfl) (by kernel_rfl) (by kernel_rfl) (fun _ _ _ h => h) hHeld (fun wx hwx => by go_simp; try with_reducible rfl) ?_
    try simp only [Act.put, List.setIfInBounds_toArray, List.set_cons_zero, List.set_cons_succ]
    refine rtake 4 rfl (by rfl) (by kernel_rfl) (by kernel_rfl) (by kernel_rfl) (fun _ _ _ h => h) hHeld (fun wx hwx => by go_simp; try with_reducible rfl) ?_
    try simp only [Act.put, List.setIfInBounds_toArray, List.set_cons_zero, List.set_cons_succ]
    refine rtake 5 rfl (by rfl) (by kernel_rfl) (by kernel_rfl) (by kernel_rfl) (fun _ _ _ h => h) hHeld (fun wx hwx => cfT.exec _ rfl G 0 (by rfl) (v.c) (vw_rc hwx)) ?_
    try simp only [Act.put, List.setIfInBounds_toArray, List.set_cons_zero, List.set_cons_succ]
    -- CALL 2: some 47 := Op.call { callee := Callee.value (Operand.func 22), args := #[Operand.tmp 45, Operand.tmp 46], argTypes := #[41, 3] }
    refine rcall 2 rfl (by kernel_rfl) (by rfl) (fun K hK => ?_)
    go_simp
    refine (HT.out WD).mono ?_
    rintro e wt ⟨x2, rfl, own, bq⟩
    have hlow : G + 1 < WD.heap.size := A.lt
    replace A := A.below bq
    replace B := B.below bq
    replace hb := bnext hb bq
    refine hK.out _ _ B ?_
    clear hK K hHeld
    refine wpAnyH_mono (S' := fun w' => Box w' G (vwK2.enc v) 41 ∧ Bytes w' x2 (toldS v 0)) (fun w' h => h.1) _ _ _ _ ?_
    have hHeld := And.intro B own.bytes
    clear bq
    try simp only [Act.put, List.setIfInBounds_toArray, List.set_cons_zero, List.set_cons_succ]
    refine rtake 3 rfl (by rfl) (by kernel_rfl) (by kernel_rfl) (by kernel_rfl) (fun _ _ _ h => h) hHeld (fun wx hwx => by have hst := hwx.2.str; go_simp; try with_reducible rfl) ?_
    try simp only [Act.put, List.setIfInBounds_toArray, List.set_cons_zero, List.set_cons_succ]
    refine rtake 6 rfl (by rfl) (by kernel_rfl) (by kernel_rfl) (by kernel_rfl) (fun _ _ _ h => h) hHeld (fun wx hwx => by go_simp; try with_reducible rfl) ?_
    try simp only [Act.put, List.setIfInBounds_toArray, List.set_cons_zero, List.set_cons_succ]
    -- CALL 7: none := Op.store 28 (Operand.tmp 9) (Operand.tmp 50)
    refine rcall 7 rfl (by kernel_rfl) (by rfl) (fun K hK => ?_)
    refine cfT.op_store _ _ rfl (G + 1) (v.c) zeroC _ (by rfl) (by rfl) A ?_
    replace B := B.rowK_other (k := G + 1) n_B_A (cfK.enc (v.c)).toArray
    have A2 := A.rowK (cfK.enc (v.c))
    have hHeld2 := And.intro B (Bytes.only2 own hlow ((Only.refl (G + 1) wt).row (cfK.enc (v.c)).toArray))
    refine hK.out _ _ hHeld2 ?_
    clear hK K hHeld
    have hHeld := hHeld2
    clear hHeld2
    try simp only [Act.put, List.setIfInBounds_toArray, List.set_cons_zero, List.set_cons_succ]
    refine rtake 8 rfl (by rfl) (by kernel_rfl) (by kernel_rfl) (by kernel_rfl) (fun _ _ _ h => h) hHeld (fun wx hwx => by go_simp; try with_reducible rfl) ?_
    try simp only [Act.put, List.setIfInBounds_toArray, List.set_cons_zero, List.set_cons_succ]
    refine wpAnyH_done (by kernel_rfl) ?_ _
    go_wp2_with fail
    exact bodyPost_ret (v := .tuple #[.string ⟨(toldS v 0).toArray⟩, .agg (cfK.enc (v.c)).toArray, .int .i64 0]) (cfT.result3 rfl _ _ (G + 1) _ _ _ _ rfl rfl rfl A2) rfl ⟨rfl, below_setRow hb (by omega) _⟩
theorem ownKnoM : CKnoM := fun id w => known_own id w
theorem ownPerM : CPerM := fun id w => (per_own id w).mono fun _ _ h => ⟨h.1, h.2 ▸ Below.refl _ _⟩
end Go.Proofs.Ytgjffmhlehcoiaa
