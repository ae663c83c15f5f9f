/- The program's own answers to questions: turned, Answer (gen_mgmown.py). -/
import Derived.Test.YtgjffmhlehcoiaaMgmOwn3
namespace Go.Proofs.Ytgjffmhlehcoiaa
open Go.RowKit Go.Proofs
set_option maxRecDepth 50000
set_option linter.unusedVariables false
set_option linter.unusedSimpArgs false

theorem Bytes.only2 {w w' : World} {g base : Nat} {v : Value} {l : List UInt8} (h : Own w base v l) (hg : g < base) (ho : Only g w w') : Bytes w' v l := by
  by_cases hl : l = []
  · subst hl
    obtain ⟨p, cap, rfl, h1, h2, h3⟩ := h.bytes
    exact ⟨p, cap, rfl, h1, h2, .inl rfl⟩
  · obtain ⟨b, cap, rfl, h1, h2, h3, h4⟩ := h.form (List.length_pos_iff.2 hl)
    refine ⟨_, cap, rfl, h1, h3, .inr ⟨b, 0, rfl, Nat.lt_of_lt_of_le h4 ho.size, fun i hi => ?_⟩⟩
    rw [Nat.zero_add]
    have hc := h.cell i hi
    simp only [World.cell?] at hc ⊢
    rw [ho.block b h4 (by omega)]
    exact hc
theorem StrT.result3 {α : Type} {K : RowK α} {T : TypeId} (hT : StrT K T) {fn : Func} {p u1 u2 : Tmp} (h : fn.results = #[.tmp u1, .cell p T, .tmp u2]) (tmps : Array Value) (w : World) (g : Nat) (t : TypeId) (c : α) (x y : Value)
    (hp : tmps.getD p undef = .pointer (some ⟨g, 0, none⟩)) (hx : tmps.getD u1 undef = x) (hy : tmps.getD u2 undef = y) (hB : Box w g (K.enc c) t) : (results fn tmps).run Try.prog w = .ok (.tuple #[x, .agg (K.enc c).toArray, y]) w := by
  obtain ⟨d, hu, hd⟩ := hT.row
  have hp' : tmps[p]?.getD undef = .pointer (some ⟨g, 0, none⟩) := by simpa using hp
  have hx' : tmps[u1]?.getD undef = x := by simpa using hx
  have hy' : tmps[u2]?.getD undef = y := by simpa using hy
  have hl := run_loadVar_row (P := Try.prog) w g t T (K.enc c).toArray (0, 0) d hB hu (by cases d <;> first | rfl | exact hd) (by rw [hT.size]; simp [K.len])
  simp [results, h, hp', hx', hy', asAddr, Sem.run_bind, hl]
theorem ref_told {a id n : Int} (h : refI a id n = 0) (h3 : a ≠ 3) : getB2 id = true ∧ (a = 0 ∨ a = 1) := by
  unfold refI at h
  unfold getB2
  repeat' split at h
  all_goals first | omega | skip
  all_goals refine ⟨?_, by omega⟩
  all_goals (cases hc : cmdB id <;> simp_all)
theorem ref_set {id n : Int} (h : refI 1 id n = 0) (h0 : id ≠ 0) : setB id = true ∧ n = 2 := by
  rcases rg_cases id with ⟨h1, hk⟩ | ⟨h1, hsz, hcm, hfx, hid0⟩ | ⟨h1, hsz, hcm, hfx, hid0⟩ | ⟨h1, hsz, hcm, hfx, hid0⟩ | ⟨h1, hsz, hcm, hfx, hid0⟩
  · exfalso; unfold refI at h; rw [if_pos hk] at h; omega
  · exact absurd hid0 h0
  · have hs : setB id = true := by have h2 := congrArg Rg.s h1; exact h2
    have h2 : sizeI id = 2 := by
      rw [hsz]
      unfold szI
      rw [if_neg]
      intro hx
      rcases hx with rfl | rfl | rfl
      · exact h0 rfl
      · revert hcm; decide
      · revert hcm; decide
    refine ⟨hs, ?_⟩
    unfold refI at h
    rw [h2, hcm, hfx] at h
    simp at h
    omega
  · exfalso; unfold refI at h; rw [hcm, hfx] at h; simp at h; omega
  · exfalso; unfold refI at h; rw [hcm] at h; simp at h; split at h <;> omega
theorem ans_parts (v : Vw) (a id : Int) (data : List UInt8) (hc : CfOk v.c) : ansP v a id data =
    if refI a id data.length ≠ 0 then ⟨[], v.c, refI a id data.length⟩ else if a = 3 then ⟨data, v.c, 0⟩ else if a = 1 ∧ id ≠ 0 then setA v id (setM v.c id data) else ⟨toldS v id, v.c, 0⟩ := by
  unfold ansP refI
  by_cases h1 : sizeI id < 0
  · simp [h1]
  by_cases h2 : a ≠ 0 ∧ a ≠ 1 ∧ a ≠ 3
  · simp [h1, h2]
  by_cases h3 : a = 3 ∧ id ≠ 0 ∧ cmdB id = false
  · simp [h1, h2, h3]
  by_cases h4 : a ≠ 3 ∧ cmdB id = true
  · rw [if_neg h1, if_neg h2, if_neg h3, if_pos h4, if_neg h1, if_neg h2, if_neg h3, if_pos h4]; simp
  rw [if_neg h1, if_neg h2, if_neg h3, if_neg h4, if_neg h1, if_neg h2, if_neg h3, if_neg h4]
  by_cases h5 : a = 0
  · subst h5; simp
  by_cases h6 : a = 1 ∧ fixB id = true
  · simp [h5, h6]
  by_cases h7 : (data.length : Int) ≠ sizeI id
  · rw [if_neg h5, if_neg h6, if_pos h7, if_neg h5, if_neg h6, if_pos h7]; simp
  rw [if_neg h5, if_neg h6, if_neg h7, if_neg h5, if_neg h6, if_neg h7]
  by_cases h8 : a = 3
  · subst h8; simp
  rw [if_neg h8, if_neg (by simp), if_neg h8]
  have ha : a = 1 := by omega
  subst ha
  by_cases h9 : id = 0
  · subst h9
    have e : setM v.c 0 data = v.c := rfl
    rw [if_neg (by simp), e]
    unfold setA
    rw [if_pos hc]
  · rw [if_pos ⟨rfl, h9⟩]
set_option maxRecDepth 100000 in
set_option maxHeartbeats 8000000 in
theorem turned_8197 (c : Cf) (data : List UInt8) (hl : data.length = 2) (w : World) : Calls Try.prog 20 #[.agg (cfK.enc c).toArray, .int .i64 8197, .string ⟨data.toArray⟩] w fun e w' => e = .returned (.agg (cfK.enc (setM c 8197 data)).toArray) ∧ Below w.heap.size w w' := by
  have hst : standB data.length 0 1 = true := by rw [hl]; rfl
  have HG : ∀ v w, Bytes w v data → Calls Try.prog 25 #[v, .int .i64 0, .int .i64 1] w fun e w' => e = .returned (.tuple #[.int .i64 (numAt data 0 1), .bool true]) ∧ w = w' := fun v w hB => get_ok v data 0 1 w hB (by omega) (by decide) (by decide) (by decide) hst
  have hsm : setM c 8197 data = { c with p1 := numAt data 0 1 } := by simp [setM]
  rw [hsm]
  obtain ⟨N, hN⟩ : ∃ N : Int, ((numAt data 0 1 : Nat) : Int) = N := ⟨_, rfl⟩
  rw [hN] at HG ⊢
  replace HG := hid HG
  clear hsm hst hN
  have z0 := bnew w (Obj.cells (cfK.enc c).toArray 28)
  have B := Box.new w (cfK.enc c) 28
  have z1 := bnew (w.alloc (Obj.cells (cfK.enc c).toArray 28)) (Obj.cells (cfK.enc zeroC).toArray 28)
  have A := Box.new (w.alloc (Obj.cells (cfK.enc c).toArray 28)) (cfK.enc zeroC) 28
  replace B := B.below z1
  have hb := z0
  replace hb := bnext hb z1
  clear z0
  clear z1
  have s1 : (w.alloc (Obj.cells (cfK.enc c).toArray 28)).heap.size = w.heap.size + 1 := by simp
  rw [s1] at A
  go_enter Try.func20, Try.ntmps20
  go_upto_region 1 with fail
  change Code.wp Try.prog _ _ _ ((w.alloc (Obj.cells (cfK.enc c).toArray 28)).alloc (Obj.cells (cfK.enc zeroC).toArray 28))
  generalize ((w.alloc (Obj.cells (cfK.enc c).toArray 28)).alloc (Obj.cells (cfK.enc zeroC).toArray 28)) = W at *
  clear s1
  generalize hG : w.heap.size = G at *
  rw [← hG] at hb
  have l_B : w.heap.size ≤ G := by omega
  have l_A : w.heap.size ≤ G + 1 := by omega
  have n_B_A : G ≠ G + 1 := by omega
  go_upto_region 2 with (refine wpList_convert_str (o := ⟨some 11, _, _, _, _, _⟩) rfl _ rfl data rfl (by omega) ?_; intro v2 w2 hv2 bq)
  replace B := B.below bq
  replace A := A.below bq
  replace hb := bnext hb bq
  clear bq
  go_wp2_with fail
  refine (HG.out _ _ hv2).mono ?_
  rintro e w3 ⟨rfl, rfl⟩
  go_wp2_with fail
  refine (member_8197 G _).mono ?_
  rintro e w5 ⟨rfl, rfl⟩
  have hc := B.cell 3 _ rfl
  have hf := B.free 3
  go_upto_region 11 with fail
  replace B := B.set 3 (.int .i64 N)
  replace A := A.other (Ne.symm n_B_A) 3 (.int .i64 N)
  replace hb := hb.setCell (p := ⟨G, 3, none⟩) l_B (.int .i64 N)
  generalize World.setCell _ _ _ = w6 at *
  clear hc hf
  replace B : Box w6 (G) (cfK.enc ({ c with p1 := N } : Cf)) _ := B
  go_wp2_with (first | (guard_target =~ wpList _ _ _ (⟨some 37, _, _, _, _, _⟩ :: _) _ _; refine cfT.load (op := ⟨some 37, .load _ _, _, _, _, _⟩) (by rfl) _ (by rfl) G 0 (by rfl) (({ c with p1 := N } : Cf)) B.rangeK ?_) | (guard_target =~ wpList _ _ _ (⟨none, _, _, _, _, _⟩ :: _) _ _; refine cfT.store (op := ⟨none, .store _ _ _, _, _, _, _⟩) (by rfl) _ _ (by rfl) (G + 1) (({ c with p1 := N } : Cf)) (zeroC) _ (by rfl) (by rfl) A ?_))
  exact bodyPost_ret (v := .agg (cfK.enc ({ c with p1 := N } : Cf)).toArray) (cfT.result rfl _ _ (G + 1) _ _ rfl (A.rowK _)) rfl ⟨rfl, below_setRow hb (by omega) _⟩

set_option maxRecDepth 100000 in
set_option maxHeartbeats 8000000 in
theorem turned_8198 (c : Cf) (data : List UInt8) (hl : data.length = 2) (w : World) : Calls Try.prog 20 #[.agg (cfK.enc c).toArray, .int .i64 8198, .string ⟨data.toArray⟩] w fun e w' => e = .returned (.agg (cfK.enc (setM c 8198 data)).toArray) ∧ Below w.heap.size w w' := by
  have hst : standB data.length 0 1 = true := by rw [hl]; rfl
  have HG : ∀ v w, Bytes w v data → Calls Try.prog 25 #[v, .int .i64 0, .int .i64 1] w fun e w' => e = .returned (.tuple #[.int .i64 (numAt data 0 1), .bool true]) ∧ w = w' := fun v w hB => get_ok v data 0 1 w hB (by omega) (by decide) (by decide) (by decide) hst
  have hsm : setM c 8198 data = { c with p2 := numAt data 0 1 } := by simp [setM]
  rw [hsm]
  obtain ⟨N, hN⟩ : ∃ N : Int, ((numAt data 0 1 : Nat) : Int) = N := ⟨_, rfl⟩
  rw [hN] at HG ⊢
  replace HG := hid HG
  clear hsm hst hN
  have z0 := bnew w (Obj.cells (cfK.enc c).toArray 28)
  have B := Box.new w (cfK.enc c) 28
  have z1 := bnew (w.alloc (Obj.cells (cfK.enc c).toArray 28)) (Obj.cells (cfK.enc zeroC).toArray 28)
  have A := Box.new (w.alloc (Obj.cells (cfK.enc c).toArray 28)) (cfK.enc zeroC) 28
  replace B := B.below z1
  have hb := z0
  replace hb := bnext hb z1
  clear z0
  clear z1
  have s1 : (w.alloc (Obj.cells (cfK.enc c).toArray 28)).heap.size = w.heap.size + 1 := by simp
  rw [s1] at A
  go_enter Try.func20, Try.ntmps20
  go_upto_region 1 with fail
  change Code.wp Try.prog _ _ _ ((w.alloc (Obj.cells (cfK.enc c).toArray 28)).alloc (Obj.cells (cfK.enc zeroC).toArray 28))
  generalize ((w.alloc (Obj.cells (cfK.enc c).toArray 28)).alloc (Obj.cells (cfK.enc zeroC).toArray 28)) = W at *
  clear s1
  generalize hG : w.heap.size = G at *
  rw [← hG] at hb
  have l_B : w.heap.size ≤ G := by omega
  have l_A : w.heap.size ≤ G + 1 := by omega
  have n_B_A : G ≠ G + 1 := by omega
  go_upto_region 2 with (refine wpList_convert_str (o := ⟨some 11, _, _, _, _, _⟩) rfl _ rfl data rfl (by omega) ?_; intro v2 w2 hv2 bq)
  replace B := B.below bq
  replace A := A.below bq
  replace hb := bnext hb bq
  clear bq
  go_wp2_with fail
  refine (HG.out _ _ hv2).mono ?_
  rintro e w3 ⟨rfl, rfl⟩
  go_wp2_with fail
  refine (member_8198 G _).mono ?_
  rintro e w5 ⟨rfl, rfl⟩
  have hc := B.cell 4 _ rfl
  have hf := B.free 4
  go_upto_region 11 with fail
  replace B := B.set 4 (.int .i64 N)
  replace A := A.other (Ne.symm n_B_A) 4 (.int .i64 N)
  replace hb := hb.setCell (p := ⟨G, 4, none⟩) l_B (.int .i64 N)
  generalize World.setCell _ _ _ = w6 at *
  clear hc hf
  replace B : Box w6 (G) (cfK.enc ({ c with p2 := N } : Cf)) _ := B
  go_wp2_with (first | (guard_target =~ wpList _ _ _ (⟨some 37, _, _, _, _, _⟩ :: _) _ _; refine cfT.load (op := ⟨some 37, .load _ _, _, _, _, _⟩) (by rfl) _ (by rfl) G 0 (by rfl) (({ c with p2 := N } : Cf)) B.rangeK ?_) | (guard_target =~ wpList _ _ _ (⟨none, _, _, _, _, _⟩ :: _) _ _; refine cfT.store (op := ⟨none, .store _ _ _, _, _, _, _⟩) (by rfl) _ _ (by rfl) (G + 1) (({ c with p2 := N } : Cf)) (zeroC) _ (by rfl) (by rfl) A ?_))
  exact bodyPost_ret (v := .agg (cfK.enc ({ c with p2 := N } : Cf)).toArray) (cfT.result rfl _ _ (G + 1) _ _ rfl (A.rowK _)) rfl ⟨rfl, below_setRow hb (by omega) _⟩

set_option maxRecDepth 100000 in
set_option maxHeartbeats 8000000 in
theorem turned_8199 (c : Cf) (data : List UInt8) (hl : data.length = 2) (w : World) : Calls Try.prog 20 #[.agg (cfK.enc c).toArray, .int .i64 8199, .string ⟨data.toArray⟩] w fun e w' => e = .returned (.agg (cfK.enc (setM c 8199 data)).toArray) ∧ Below w.heap.size w w' := by
  have hst : standB data.length 0 1 = true := by rw [hl]; rfl
  have HG : ∀ v w, Bytes w v data → Calls Try.prog 25 #[v, .int .i64 0, .int .i64 1] w fun e w' => e = .returned (.tuple #[.int .i64 (numAt data 0 1), .bool true]) ∧ w = w' := fun v w hB => get_ok v data 0 1 w hB (by omega) (by decide) (by decide) (by decide) hst
  have hsm : setM c 8199 data = { c with dm := numAt data 0 1 } := by simp [setM]
  rw [hsm]
  obtain ⟨N, hN⟩ : ∃ N : Int, ((numAt data 0 1 : Nat) : Int) = N := ⟨_, rfl⟩
  rw [hN] at HG ⊢
  replace HG := hid HG
  clear hsm hst hN
  have z0 := bnew w (Obj.cells (cfK.enc c).toArray 28)
  have B := Box.new w (cfK.enc c) 28
  have z1 := bnew (w.alloc (Obj.cells (cfK.enc c).toArray 28)) (Obj.cells (cfK.enc zeroC).toArray 28)
  have A := Box.new (w.alloc (Obj.cells (cfK.enc c).toArray 28)) (cfK.enc zeroC) 28
  replace B := B.below z1
  have hb := z0
  replace hb := bnext hb z1
  clear z0
  clear z1
  have s1 : (w.alloc (Obj.cells (cfK.enc c).toArray 28)).heap.size = w.heap.size + 1 := by simp
  rw [s1] at A
  go_enter Try.func20, Try.ntmps20
  go_upto_region 1 with fail
  change Code.wp Try.prog _ _ _ ((w.alloc (Obj.cells (cfK.enc c).toArray 28)).alloc (Obj.cells (cfK.enc zeroC).toArray 28))
  generalize ((w.alloc (Obj.cells (cfK.enc c).toArray 28)).alloc (Obj.cells (cfK.enc zeroC).toArray 28)) = W at *
  clear s1
  generalize hG : w.heap.size = G at *
  rw [← hG] at hb
  have l_B : w.heap.size ≤ G := by omega
  have l_A : w.heap.size ≤ G + 1 := by omega
  have n_B_A : G ≠ G + 1 := by omega
  go_upto_region 2 with (refine wpList_convert_str (o := ⟨some 11, _, _, _, _, _⟩) rfl _ rfl data rfl (by omega) ?_; intro v2 w2 hv2 bq)
  replace B := B.below bq
  replace A := A.below bq
  replace hb := bnext hb bq
  clear bq
  go_wp2_with fail
  refine (HG.out _ _ hv2).mono ?_
  rintro e w3 ⟨rfl, rfl⟩
  go_wp2_with fail
  refine (member_8199 G _).mono ?_
  rintro e w5 ⟨rfl, rfl⟩
  have hc := B.cell 2 _ rfl
  have hf := B.free 2
  go_upto_region 11 with fail
  replace B := B.set 2 (.int .i64 N)
  replace A := A.other (Ne.symm n_B_A) 2 (.int .i64 N)
  replace hb := hb.setCell (p := ⟨G, 2, none⟩) l_B (.int .i64 N)
  generalize World.setCell _ _ _ = w6 at *
  clear hc hf
  replace B : Box w6 (G) (cfK.enc ({ c with dm := N } : Cf)) _ := B
  go_wp2_with (first | (guard_target =~ wpList _ _ _ (⟨some 37, _, _, _, _, _⟩ :: _) _ _; refine cfT.load (op := ⟨some 37, .load _ _, _, _, _, _⟩) (by rfl) _ (by rfl) G 0 (by rfl) (({ c with dm := N } : Cf)) B.rangeK ?_) | (guard_target =~ wpList _ _ _ (⟨none, _, _, _, _, _⟩ :: _) _ _; refine cfT.store (op := ⟨none, .store _ _ _, _, _, _, _⟩) (by rfl) _ _ (by rfl) (G + 1) (({ c with dm := N } : Cf)) (zeroC) _ (by rfl) (by rfl) A ?_))
  exact bodyPost_ret (v := .agg (cfK.enc ({ c with dm := N } : Cf)).toArray) (cfT.result rfl _ _ (G + 1) _ _ rfl (A.rowK _)) rfl ⟨rfl, below_setRow hb (by omega) _⟩

set_option maxRecDepth 100000 in
set_option maxHeartbeats 8000000 in
theorem turned_8200 (c : Cf) (data : List UInt8) (hl : data.length = 2) (w : World) : Calls Try.prog 20 #[.agg (cfK.enc c).toArray, .int .i64 8200, .string ⟨data.toArray⟩] w fun e w' => e = .returned (.agg (cfK.enc (setM c 8200 data)).toArray) ∧ Below w.heap.size w w' := by
  have hst : standB data.length 0 1 = true := by rw [hl]; rfl
  have HG : ∀ v w, Bytes w v data → Calls Try.prog 25 #[v, .int .i64 0, .int .i64 1] w fun e w' => e = .returned (.tuple #[.int .i64 (numAt data 0 1), .bool true]) ∧ w = w' := fun v w hB => get_ok v data 0 1 w hB (by omega) (by decide) (by decide) (by decide) hst
  have hsm : setM c 8200 data = { c with so := decide (numAt data 0 1 % 2 = 1) } := by simp [setM]
  rw [hsm]
  obtain ⟨n, hn⟩ : ∃ n, numAt data 0 1 = n := ⟨_, rfl⟩
  rw [hn] at HG ⊢
  obtain ⟨N, hN⟩ : ∃ N : Int, (n : Int) = N := ⟨_, rfl⟩
  rw [hN] at HG
  have hm : bits .and .i64 N 1 = N % 2 := and_mask N 1 (by decide)
  replace HG := hid HG
  clear hsm hst hn
  by_cases hp : n % 2 = 1
  · rw [decide_eq_true hp]
    have hm2 : ((N % 2) == 1) = true := beq_iff_eq.2 (by omega)
    clear hp hN
    have z0 := bnew w (Obj.cells (cfK.enc c).toArray 28)
    have B := Box.new w (cfK.enc c) 28
    have z1 := bnew (w.alloc (Obj.cells (cfK.enc c).toArray 28)) (Obj.cells (cfK.enc zeroC).toArray 28)
    have A := Box.new (w.alloc (Obj.cells (cfK.enc c).toArray 28)) (cfK.enc zeroC) 28
    replace B := B.below z1
    have hb := z0
    replace hb := bnext hb z1
    clear z0
    clear z1
    have s1 : (w.alloc (Obj.cells (cfK.enc c).toArray 28)).heap.size = w.heap.size + 1 := by simp
    rw [s1] at A
    go_enter Try.func20, Try.ntmps20
    go_upto_region 1 with fail
    change Code.wp Try.prog _ _ _ ((w.alloc (Obj.cells (cfK.enc c).toArray 28)).alloc (Obj.cells (cfK.enc zeroC).toArray 28))
    generalize ((w.alloc (Obj.cells (cfK.enc c).toArray 28)).alloc (Obj.cells (cfK.enc zeroC).toArray 28)) = W at *
    clear s1
    generalize hG : w.heap.size = G at *
    rw [← hG] at hb
    have l_B : w.heap.size ≤ G := by omega
    have l_A : w.heap.size ≤ G + 1 := by omega
    have n_B_A : G ≠ G + 1 := by omega
    go_upto_region 2 with (refine wpList_convert_str (o := ⟨some 11, _, _, _, _, _⟩) rfl _ rfl data rfl (by omega) ?_; intro v2 w2 hv2 bq)
    replace B := B.below bq
    replace A := A.below bq
    replace hb := bnext hb bq
    clear bq
    go_wp2_with fail
    refine (HG.out _ _ hv2).mono ?_
    rintro e w3 ⟨rfl, rfl⟩
    have hc := B.cell 8 _ rfl
    have hf := B.free 8
    go_upto_region 6 with fail
    replace B := B.set 8 (.bool true)
    replace A := A.other (Ne.symm n_B_A) 8 (.bool true)
    replace hb := hb.setCell (p := ⟨G, 8, none⟩) l_B (.bool true)
    generalize World.setCell _ _ _ = w4 at *
    clear hc hf
    replace B : Box w4 (G) (cfK.enc { c with so := true }) _ := B
    go_wp2_with (first | (guard_target =~ wpList _ _ _ (⟨some 24, _, _, _, _, _⟩ :: _) _ _; refine cfT.load (op := ⟨some 24, .load _ _, _, _, _, _⟩) (by rfl) _ (by rfl) G 0 (by rfl) (({ c with so := true } : Cf)) B.rangeK ?_) | (guard_target =~ wpList _ _ _ (⟨none, _, _, _, _, _⟩ :: _) _ _; refine cfT.store (op := ⟨none, .store _ _ _, _, _, _, _⟩) (by rfl) _ _ (by rfl) (G + 1) (({ c with so := true } : Cf)) (zeroC) _ (by rfl) (by rfl) A ?_))
    exact bodyPost_ret (v := .agg (cfK.enc ({ c with so := true } : Cf)).toArray) (cfT.result rfl _ _ (G + 1) _ _ rfl (A.rowK _)) rfl ⟨rfl, below_setRow hb (by omega) _⟩
  · rw [decide_eq_false hp]
    have hm2 : ((N % 2) == 1) = false := beq_false_of_ne (by omega)
    clear hp hN
    have z0 := bnew w (Obj.cells (cfK.enc c).toArray 28)
    have B := Box.new w (cfK.enc c) 28
    have z1 := bnew (w.alloc (Obj.cells (cfK.enc c).toArray 28)) (Obj.cells (cfK.enc zeroC).toArray 28)
    have A := Box.new (w.alloc (Obj.cells (cfK.enc c).toArray 28)) (cfK.enc zeroC) 28
    replace B := B.below z1
    have hb := z0
    replace hb := bnext hb z1
    clear z0
    clear z1
    have s1 : (w.alloc (Obj.cells (cfK.enc c).toArray 28)).heap.size = w.heap.size + 1 := by simp
    rw [s1] at A
    go_enter Try.func20, Try.ntmps20
    go_upto_region 1 with fail
    change Code.wp Try.prog _ _ _ ((w.alloc (Obj.cells (cfK.enc c).toArray 28)).alloc (Obj.cells (cfK.enc zeroC).toArray 28))
    generalize ((w.alloc (Obj.cells (cfK.enc c).toArray 28)).alloc (Obj.cells (cfK.enc zeroC).toArray 28)) = W at *
    clear s1
    generalize hG : w.heap.size = G at *
    rw [← hG] at hb
    have l_B : w.heap.size ≤ G := by omega
    have l_A : w.heap.size ≤ G + 1 := by omega
    have n_B_A : G ≠ G + 1 := by omega
    go_upto_region 2 with (refine wpList_convert_str (o := ⟨some 11, _, _, _, _, _⟩) rfl _ rfl data rfl (by omega) ?_; intro v2 w2 hv2 bq)
    replace B := B.below bq
    replace A := A.below bq
    replace hb := bnext hb bq
    clear bq
    go_wp2_with fail
    refine (HG.out _ _ hv2).mono ?_
    rintro e w3 ⟨rfl, rfl⟩
    have hc := B.cell 8 _ rfl
    have hf := B.free 8
    go_upto_region 6 with fail
    replace B := B.set 8 (.bool false)
    replace A := A.other (Ne.symm n_B_A) 8 (.bool false)
    replace hb := hb.setCell (p := ⟨G, 8, none⟩) l_B (.bool false)
    generalize World.setCell _ _ _ = w4 at *
    clear hc hf
    replace B : Box w4 (G) (cfK.enc { c with so := false }) _ := B
    go_wp2_with (first | (guard_target =~ wpList _ _ _ (⟨some 24, _, _, _, _, _⟩ :: _) _ _; refine cfT.load (op := ⟨some 24, .load _ _, _, _, _, _⟩) (by rfl) _ (by rfl) G 0 (by rfl) (({ c with so := false } : Cf)) B.rangeK ?_) | (guard_target =~ wpList _ _ _ (⟨none, _, _, _, _, _⟩ :: _) _ _; refine cfT.store (op := ⟨none, .store _ _ _, _, _, _, _⟩) (by rfl) _ _ (by rfl) (G + 1) (({ c with so := false } : Cf)) (zeroC) _ (by rfl) (by rfl) A ?_))
    exact bodyPost_ret (v := .agg (cfK.enc ({ c with so := false } : Cf)).toArray) (cfT.result rfl _ _ (G + 1) _ _ rfl (A.rowK _)) rfl ⟨rfl, below_setRow hb (by omega) _⟩

set_option maxRecDepth 100000 in
set_option maxHeartbeats 8000000 in
theorem turned_8201 (c : Cf) (data : List UInt8) (hl : data.length = 2) (w : World) : Calls Try.prog 20 #[.agg (cfK.enc c).toArray, .int .i64 8201, .string ⟨data.toArray⟩] w fun e w' => e = .returned (.agg (cfK.enc (setM c 8201 data)).toArray) ∧ Below w.heap.size w w' := by
  have hst : standB data.length 0 1 = true := by rw [hl]; rfl
  have HG : ∀ v w, Bytes w v data → Calls Try.prog 25 #[v, .int .i64 0, .int .i64 1] w fun e w' => e = .returned (.tuple #[.int .i64 (numAt data 0 1), .bool true]) ∧ w = w' := fun v w hB => get_ok v data 0 1 w hB (by omega) (by decide) (by decide) (by decide) hst
  have HS : ∀ v w, Bytes w v data → Calls Try.prog 26 #[v, .int .i64 0, .int .i64 1] w fun e w' => e = .returned (.tuple #[.int .i64 (signedAt data 0 1), .bool true]) ∧ w = w' := fun v w hB => signed_ok v data 0 1 w hB (by omega) (by decide) (by decide) (by decide) hst
  have hsm : setM c 8201 data = { c with la := signedAt data 0 1 } := by simp [setM]
  rw [hsm]
  obtain ⟨N, hN⟩ : ∃ N : Int, ((numAt data 0 1 : Nat) : Int) = N := ⟨_, rfl⟩
  rw [hN] at HG
  replace HG := hid HG
  obtain ⟨S, hS⟩ : ∃ S : Int, signedAt data 0 1 = S := ⟨_, rfl⟩
  rw [hS] at HS ⊢
  replace HS := hid HS
  clear hS
  clear hsm hst hN
  have z0 := bnew w (Obj.cells (cfK.enc c).toArray 28)
  have B := Box.new w (cfK.enc c) 28
  have z1 := bnew (w.alloc (Obj.cells (cfK.enc c).toArray 28)) (Obj.cells (cfK.enc zeroC).toArray 28)
  have A := Box.new (w.alloc (Obj.cells (cfK.enc c).toArray 28)) (cfK.enc zeroC) 28
  replace B := B.below z1
  have hb := z0
  replace hb := bnext hb z1
  clear z0
  clear z1
  have s1 : (w.alloc (Obj.cells (cfK.enc c).toArray 28)).heap.size = w.heap.size + 1 := by simp
  rw [s1] at A
  go_enter Try.func20, Try.ntmps20
  go_upto_region 1 with fail
  change Code.wp Try.prog _ _ _ ((w.alloc (Obj.cells (cfK.enc c).toArray 28)).alloc (Obj.cells (cfK.enc zeroC).toArray 28))
  generalize ((w.alloc (Obj.cells (cfK.enc c).toArray 28)).alloc (Obj.cells (cfK.enc zeroC).toArray 28)) = W at *
  clear s1
  generalize hG : w.heap.size = G at *
  rw [← hG] at hb
  have l_B : w.heap.size ≤ G := by omega
  have l_A : w.heap.size ≤ G + 1 := by omega
  have n_B_A : G ≠ G + 1 := by omega
  go_upto_region 2 with (refine wpList_convert_str (o := ⟨some 11, _, _, _, _, _⟩) rfl _ rfl data rfl (by omega) ?_; intro v2 w2 hv2 bq)
  replace B := B.below bq
  replace A := A.below bq
  replace hb := bnext hb bq
  clear bq
  go_wp2_with fail
  refine (HG.out _ _ hv2).mono ?_
  rintro e w3 ⟨rfl, rfl⟩
  go_wp2_with fail
  refine (HS.out _ _ hv2).mono ?_
  rintro e w4 ⟨rfl, rfl⟩
  go_wp2_with fail
  refine (member_8201 G _).mono ?_
  rintro e w5 ⟨rfl, rfl⟩
  have hc := B.cell 9 _ rfl
  have hf := B.free 9
  go_upto_region 11 with fail
  replace B := B.set 9 (.int .i64 S)
  replace A := A.other (Ne.symm n_B_A) 9 (.int .i64 S)
  replace hb := hb.setCell (p := ⟨G, 9, none⟩) l_B (.int .i64 S)
  generalize World.setCell _ _ _ = w6 at *
  clear hc hf
  replace B : Box w6 (G) (cfK.enc ({ c with la := S } : Cf)) _ := B
  go_wp2_with (first | (guard_target =~ wpList _ _ _ (⟨some 37, _, _, _, _, _⟩ :: _) _ _; refine cfT.load (op := ⟨some 37, .load _ _, _, _, _, _⟩) (by rfl) _ (by rfl) G 0 (by rfl) (({ c with la := S } : Cf)) B.rangeK ?_) | (guard_target =~ wpList _ _ _ (⟨none, _, _, _, _, _⟩ :: _) _ _; refine cfT.store (op := ⟨none, .store _ _ _, _, _, _, _⟩) (by rfl) _ _ (by rfl) (G + 1) (({ c with la := S } : Cf)) (zeroC) _ (by rfl) (by rfl) A ?_))
  exact bodyPost_ret (v := .agg (cfK.enc ({ c with la := S } : Cf)).toArray) (cfT.result rfl _ _ (G + 1) _ _ rfl (A.rowK _)) rfl ⟨rfl, below_setRow hb (by omega) _⟩

set_option maxRecDepth 100000 in
set_option maxHeartbeats 8000000 in
theorem turned_8202 (c : Cf) (data : List UInt8) (hl : data.length = 2) (w : World) : Calls Try.prog 20 #[.agg (cfK.enc c).toArray, .int .i64 8202, .string ⟨data.toArray⟩] w fun e w' => e = .returned (.agg (cfK.enc (setM c 8202 data)).toArray) ∧ Below w.heap.size w w' := by
  have hst : standB data.length 0 1 = true := by rw [hl]; rfl
  have HG : ∀ v w, Bytes w v data → Calls Try.prog 25 #[v, .int .i64 0, .int .i64 1] w fun e w' => e = .returned (.tuple #[.int .i64 (numAt data 0 1), .bool true]) ∧ w = w' := fun v w hB => get_ok v data 0 1 w hB (by omega) (by decide) (by decide) (by decide) hst
  have hsm : setM c 8202 data = { c with tm := numAt data 0 1 } := by simp [setM]
  rw [hsm]
  obtain ⟨N, hN⟩ : ∃ N : Int, ((numAt data 0 1 : Nat) : Int) = N := ⟨_, rfl⟩
  rw [hN] at HG ⊢
  replace HG := hid HG
  clear hsm hst hN
  have z0 := bnew w (Obj.cells (cfK.enc c).toArray 28)
  have B := Box.new w (cfK.enc c) 28
  have z1 := bnew (w.alloc (Obj.cells (cfK.enc c).toArray 28)) (Obj.cells (cfK.enc zeroC).toArray 28)
  have A := Box.new (w.alloc (Obj.cells (cfK.enc c).toArray 28)) (cfK.enc zeroC) 28
  replace B := B.below z1
  have hb := z0
  replace hb := bnext hb z1
  clear z0
  clear z1
  have s1 : (w.alloc (Obj.cells (cfK.enc c).toArray 28)).heap.size = w.heap.size + 1 := by simp
  rw [s1] at A
  go_enter Try.func20, Try.ntmps20
  go_upto_region 1 with fail
  change Code.wp Try.prog _ _ _ ((w.alloc (Obj.cells (cfK.enc c).toArray 28)).alloc (Obj.cells (cfK.enc zeroC).toArray 28))
  generalize ((w.alloc (Obj.cells (cfK.enc c).toArray 28)).alloc (Obj.cells (cfK.enc zeroC).toArray 28)) = W at *
  clear s1
  generalize hG : w.heap.size = G at *
  rw [← hG] at hb
  have l_B : w.heap.size ≤ G := by omega
  have l_A : w.heap.size ≤ G + 1 := by omega
  have n_B_A : G ≠ G + 1 := by omega
  go_upto_region 2 with (refine wpList_convert_str (o := ⟨some 11, _, _, _, _, _⟩) rfl _ rfl data rfl (by omega) ?_; intro v2 w2 hv2 bq)
  replace B := B.below bq
  replace A := A.below bq
  replace hb := bnext hb bq
  clear bq
  go_wp2_with fail
  refine (HG.out _ _ hv2).mono ?_
  rintro e w3 ⟨rfl, rfl⟩
  go_wp2_with fail
  refine (member_8202 G _).mono ?_
  rintro e w5 ⟨rfl, rfl⟩
  have hc := B.cell 12 _ rfl
  have hf := B.free 12
  go_upto_region 11 with fail
  replace B := B.set 12 (.int .i64 N)
  replace A := A.other (Ne.symm n_B_A) 12 (.int .i64 N)
  replace hb := hb.setCell (p := ⟨G, 12, none⟩) l_B (.int .i64 N)
  generalize World.setCell _ _ _ = w6 at *
  clear hc hf
  replace B : Box w6 (G) (cfK.enc ({ c with tm := N } : Cf)) _ := B
  go_wp2_with (first | (guard_target =~ wpList _ _ _ (⟨some 37, _, _, _, _, _⟩ :: _) _ _; refine cfT.load (op := ⟨some 37, .load _ _, _, _, _, _⟩) (by rfl) _ (by rfl) G 0 (by rfl) (({ c with tm := N } : Cf)) B.rangeK ?_) | (guard_target =~ wpList _ _ _ (⟨none, _, _, _, _, _⟩ :: _) _ _; refine cfT.store (op := ⟨none, .store _ _ _, _, _, _, _⟩) (by rfl) _ _ (by rfl) (G + 1) (({ c with tm := N } : Cf)) (zeroC) _ (by rfl) (by rfl) A ?_))
  exact bodyPost_ret (v := .agg (cfK.enc ({ c with tm := N } : Cf)).toArray) (cfT.result rfl _ _ (G + 1) _ _ rfl (A.rowK _)) rfl ⟨rfl, below_setRow hb (by omega) _⟩

set_option maxRecDepth 100000 in
set_option maxHeartbeats 8000000 in
theorem turned_8203 (c : Cf) (data : List UInt8) (hl : data.length = 2) (w : World) : Calls Try.prog 20 #[.agg (cfK.enc c).toArray, .int .i64 8203, .string ⟨data.toArray⟩] w fun e w' => e = .returned (.agg (cfK.enc (setM c 8203 data)).toArray) ∧ Below w.heap.size w w' := by
  have hst : standB data.length 0 1 = true := by rw [hl]; rfl
  have HG : ∀ v w, Bytes w v data → Calls Try.prog 25 #[v, .int .i64 0, .int .i64 1] w fun e w' => e = .returned (.tuple #[.int .i64 (numAt data 0 1), .bool true]) ∧ w = w' := fun v w hB => get_ok v data 0 1 w hB (by omega) (by decide) (by decide) (by decide) hst
  have HS : ∀ v w, Bytes w v data → Calls Try.prog 26 #[v, .int .i64 0, .int .i64 1] w fun e w' => e = .returned (.tuple #[.int .i64 (signedAt data 0 1), .bool true]) ∧ w = w' := fun v w hB => signed_ok v data 0 1 w hB (by omega) (by decide) (by decide) (by decide) hst
  have hsm : setM c 8203 data = { c with ls := signedAt data 0 1 } := by simp [setM]
  rw [hsm]
  obtain ⟨N, hN⟩ : ∃ N : Int, ((numAt data 0 1 : Nat) : Int) = N := ⟨_, rfl⟩
  rw [hN] at HG
  replace HG := hid HG
  obtain ⟨S, hS⟩ : ∃ S : Int, signedAt data 0 1 = S := ⟨_, rfl⟩
  rw [hS] at HS ⊢
  replace HS := hid HS
  clear hS
  clear hsm hst hN
  have z0 := bnew w (Obj.cells (cfK.enc c).toArray 28)
  have B := Box.new w (cfK.enc c) 28
  have z1 := bnew (w.alloc (Obj.cells (cfK.enc c).toArray 28)) (Obj.cells (cfK.enc zeroC).toArray 28)
  have A := Box.new (w.alloc (Obj.cells (cfK.enc c).toArray 28)) (cfK.enc zeroC) 28
  replace B := B.below z1
  have hb := z0
  replace hb := bnext hb z1
  clear z0
  clear z1
  have s1 : (w.alloc (Obj.cells (cfK.enc c).toArray 28)).heap.size = w.heap.size + 1 := by simp
  rw [s1] at A
  go_enter Try.func20, Try.ntmps20
  go_upto_region 1 with fail
  change Code.wp Try.prog _ _ _ ((w.alloc (Obj.cells (cfK.enc c).toArray 28)).alloc (Obj.cells (cfK.enc zeroC).toArray 28))
  generalize ((w.alloc (Obj.cells (cfK.enc c).toArray 28)).alloc (Obj.cells (cfK.enc zeroC).toArray 28)) = W at *
  clear s1
  generalize hG : w.heap.size = G at *
  rw [← hG] at hb
  have l_B : w.heap.size ≤ G := by omega
  have l_A : w.heap.size ≤ G + 1 := by omega
  have n_B_A : G ≠ G + 1 := by omega
  go_upto_region 2 with (refine wpList_convert_str (o := ⟨some 11, _, _, _, _, _⟩) rfl _ rfl data rfl (by omega) ?_; intro v2 w2 hv2 bq)
  replace B := B.below bq
  replace A := A.below bq
  replace hb := bnext hb bq
  clear bq
  go_wp2_with fail
  refine (HG.out _ _ hv2).mono ?_
  rintro e w3 ⟨rfl, rfl⟩
  go_wp2_with fail
  refine (HS.out _ _ hv2).mono ?_
  rintro e w4 ⟨rfl, rfl⟩
  go_wp2_with fail
  refine (member_8203 G _).mono ?_
  rintro e w5 ⟨rfl, rfl⟩
  have hc := B.cell 10 _ rfl
  have hf := B.free 10
  go_upto_region 11 with fail
  replace B := B.set 10 (.int .i64 S)
  replace A := A.other (Ne.symm n_B_A) 10 (.int .i64 S)
  replace hb := hb.setCell (p := ⟨G, 10, none⟩) l_B (.int .i64 S)
  generalize World.setCell _ _ _ = w6 at *
  clear hc hf
  replace B : Box w6 (G) (cfK.enc ({ c with ls := S } : Cf)) _ := B
  go_wp2_with (first | (guard_target =~ wpList _ _ _ (⟨some 37, _, _, _, _, _⟩ :: _) _ _; refine cfT.load (op := ⟨some 37, .load _ _, _, _, _, _⟩) (by rfl) _ (by rfl) G 0 (by rfl) (({ c with ls := S } : Cf)) B.rangeK ?_) | (guard_target =~ wpList _ _ _ (⟨none, _, _, _, _, _⟩ :: _) _ _; refine cfT.store (op := ⟨none, .store _ _ _, _, _, _, _⟩) (by rfl) _ _ (by rfl) (G + 1) (({ c with ls := S } : Cf)) (zeroC) _ (by rfl) (by rfl) A ?_))
  exact bodyPost_ret (v := .agg (cfK.enc ({ c with ls := S } : Cf)).toArray) (cfT.result rfl _ _ (G + 1) _ _ rfl (A.rowK _)) rfl ⟨rfl, below_setRow hb (by omega) _⟩

set_option maxRecDepth 100000 in
set_option maxHeartbeats 8000000 in
theorem turned_8208 (c : Cf) (data : List UInt8) (hl : data.length = 2) (w : World) : Calls Try.prog 20 #[.agg (cfK.enc c).toArray, .int .i64 8208, .string ⟨data.toArray⟩] w fun e w' => e = .returned (.agg (cfK.enc (setM c 8208 data)).toArray) ∧ Below w.heap.size w w' := by
  have hst : standB data.length 0 1 = true := by rw [hl]; rfl
  have HG : ∀ v w, Bytes w v data → Calls Try.prog 25 #[v, .int .i64 0, .int .i64 1] w fun e w' => e = .returned (.tuple #[.int .i64 (numAt data 0 1), .bool true]) ∧ w = w' := fun v w hB => get_ok v data 0 1 w hB (by omega) (by decide) (by decide) (by decide) hst
  have hsm : setM c 8208 data = { c with qa := numAt data 0 1 } := by simp [setM]
  rw [hsm]
  obtain ⟨N, hN⟩ : ∃ N : Int, ((numAt data 0 1 : Nat) : Int) = N := ⟨_, rfl⟩
  rw [hN] at HG ⊢
  replace HG := hid HG
  clear hsm hst hN
  have z0 := bnew w (Obj.cells (cfK.enc c).toArray 28)
  have B := Box.new w (cfK.enc c) 28
  have z1 := bnew (w.alloc (Obj.cells (cfK.enc c).toArray 28)) (Obj.cells (cfK.enc zeroC).toArray 28)
  have A := Box.new (w.alloc (Obj.cells (cfK.enc c).toArray 28)) (cfK.enc zeroC) 28
  replace B := B.below z1
  have hb := z0
  replace hb := bnext hb z1
  clear z0
  clear z1
  have s1 : (w.alloc (Obj.cells (cfK.enc c).toArray 28)).heap.size = w.heap.size + 1 := by simp
  rw [s1] at A
  go_enter Try.func20, Try.ntmps20
  go_upto_region 1 with fail
  change Code.wp Try.prog _ _ _ ((w.alloc (Obj.cells (cfK.enc c).toArray 28)).alloc (Obj.cells (cfK.enc zeroC).toArray 28))
  generalize ((w.alloc (Obj.cells (cfK.enc c).toArray 28)).alloc (Obj.cells (cfK.enc zeroC).toArray 28)) = W at *
  clear s1
  generalize hG : w.heap.size = G at *
  rw [← hG] at hb
  have l_B : w.heap.size ≤ G := by omega
  have l_A : w.heap.size ≤ G + 1 := by omega
  have n_B_A : G ≠ G + 1 := by omega
  go_upto_region 2 with (refine wpList_convert_str (o := ⟨some 11, _, _, _, _, _⟩) rfl _ rfl data rfl (by omega) ?_; intro v2 w2 hv2 bq)
  replace B := B.below bq
  replace A := A.below bq
  replace hb := bnext hb bq
  clear bq
  go_wp2_with fail
  refine (HG.out _ _ hv2).mono ?_
  rintro e w3 ⟨rfl, rfl⟩
  go_wp2_with fail
  refine (member_8208 G _).mono ?_
  rintro e w5 ⟨rfl, rfl⟩
  have hc := B.cell 6 _ rfl
  have hf := B.free 6
  go_upto_region 11 with fail
  replace B := B.set 6 (.int .i64 N)
  replace A := A.other (Ne.symm n_B_A) 6 (.int .i64 N)
  replace hb := hb.setCell (p := ⟨G, 6, none⟩) l_B (.int .i64 N)
  generalize World.setCell _ _ _ = w6 at *
  clear hc hf
  replace B : Box w6 (G) (cfK.enc ({ c with qa := N } : Cf)) _ := B
  go_wp2_with (first | (guard_target =~ wpList _ _ _ (⟨some 37, _, _, _, _, _⟩ :: _) _ _; refine cfT.load (op := ⟨some 37, .load _ _, _, _, _, _⟩) (by rfl) _ (by rfl) G 0 (by rfl) (({ c with qa := N } : Cf)) B.rangeK ?_) | (guard_target =~ wpList _ _ _ (⟨none, _, _, _, _, _⟩ :: _) _ _; refine cfT.store (op := ⟨none, .store _ _ _, _, _, _, _⟩) (by rfl) _ _ (by rfl) (G + 1) (({ c with qa := N } : Cf)) (zeroC) _ (by rfl) (by rfl) A ?_))
  exact bodyPost_ret (v := .agg (cfK.enc ({ c with qa := N } : Cf)).toArray) (cfT.result rfl _ _ (G + 1) _ _ rfl (A.rowK _)) rfl ⟨rfl, below_setRow hb (by omega) _⟩

theorem turned_any2 (c : Cf) (id : Int) (hs : setB id = true) (h00 : id ≠ 0) (data : List UInt8) (hl : data.length = 2) (w : World) : Calls Try.prog 20 #[.agg (cfK.enc c).toArray, .int .i64 id, .string ⟨data.toArray⟩] w fun e w' => e = .returned (.agg (cfK.enc (setM c id data)).toArray) ∧ Below w.heap.size w w' := by
  by_cases h8197 : id = 8197
  · subst h8197
    exact turned_8197 c data hl w
  by_cases h8198 : id = 8198
  · subst h8198
    exact turned_8198 c data hl w
  by_cases h8199 : id = 8199
  · subst h8199
    exact turned_8199 c data hl w
  by_cases h8200 : id = 8200
  · subst h8200
    exact turned_8200 c data hl w
  by_cases h8201 : id = 8201
  · subst h8201
    exact turned_8201 c data hl w
  by_cases h8202 : id = 8202
  · subst h8202
    exact turned_8202 c data hl w
  by_cases h8203 : id = 8203
  · subst h8203
    exact turned_8203 c data hl w
  by_cases h8208 : id = 8208
  · subst h8208
    exact turned_8208 c data hl w
  exfalso
  revert hs
  unfold setB sizeI cmdB fixB
  by_cases hf : (8192 ≤ id ∧ id ≤ 8196) ∨ id = 8204 ∨ id = 8207
  · simp [hf]
  by_cases h0 : id = 5 ∨ id = 8205 ∨ id = 8206
  · rcases h0 with rfl | rfl | rfl <;> decide
  have hz : ¬ (8197 ≤ id ∧ id ≤ 8208) := by omega
  have h5 : id ≠ 5 := by omega
  have h6 : id ≠ 8205 := by omega
  have h7 : id ≠ 8206 := by omega
  have g0 : id ≠ 8192 := by omega
  have g1 : id ≠ 8193 := by omega
  have g2 : id ≠ 8194 := by omega
  have g3 : id ≠ 8195 := by omega
  have g4 : id ≠ 8196 := by omega
  have g5 : id ≠ 8207 := by omega
  simp [h00, hz, h5, h6, h7, g0, g1, g2, g3, g4, g5]
end Go.Proofs.Ytgjffmhlehcoiaa
