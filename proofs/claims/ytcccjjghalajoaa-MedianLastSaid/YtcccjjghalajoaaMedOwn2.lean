/- The program's own New, Clear, Values, Median, Put (gen_medown.py). -/
import Derived.Test.YtcccjjghalajoaaMedOwn
import Derived.BigQuiet
namespace Go.Proofs.Ytcccjjghalajoaa
open Go.RowKit Go.Proofs
set_option maxRecDepth 50000
set_option linter.unusedVariables false
set_option linter.unusedSimpArgs false

theorem medL_one (n : Int) (rs : List Int) (k : Int) : ∀ u ∈ medL n rs k, u.oneCell' = true := by
  intro u hu
  unfold medL at hu
  rcases List.mem_cons.1 hu with rfl | hu
  · rfl
  · rcases List.mem_append.1 hu with hu | hu
    · exact mI_one _ u hu
    · rw [List.mem_singleton.1 hu]; rfl
theorem wpList_store_med {ops : Array Oper} {rest : List Oper} {op : Oper} {a : Act} {w : World} {Q : Exit → Act → World → Prop} (hgd : op.guard = none) (x y : Operand) (ho : op.op = .store 43 x y)
    (g : Nat) (n n2 k k2 : Int) (rs rs2 : List Int) (hx : a.eval x = .pointer (some ⟨g, 0, none⟩)) (hy : a.eval y = .agg (medL n2 rs2 k2).toArray) (hB : Box w g (medL n rs k) 43) (h1 : rs.length = 15) (h2 : rs2.length = 15)
    (h : wpList Try.prog ops Q rest (a.put op.dst undef) (w.setRow g (medL n2 rs2 k2).toArray)) : wpList Try.prog ops Q (op :: rest) a w :=
  wpList_store_row hgd _ x y ho g (medL n2 rs2 k2).toArray hx hy 43 (medL n rs k).toArray hB (by rw [List.size_toArray, medL_length h2]; kernel_rfl) (by rw [List.size_toArray, List.size_toArray, medL_length h1, medL_length h2]) (all_oneCell_toArray (medL_one n2 rs2 k2)) h
theorem take_moreI {rs l : List Int} (h : rs.take l.length = l) (hl : l.length < rs.length) (r : Int) : (rs.set l.length r).take (l ++ [r]).length = l ++ [r] := by
  rw [List.length_append, List.length_singleton, List.take_succ_eq_append_getElem (by rw [List.length_set]; exact hl), List.getElem_set_self, List.take_set_of_le (Nat.le_refl _), h]

set_option maxRecDepth 100000 in
set_option maxHeartbeats 8000000 in
theorem ownNewM : CNewM MedR := by
  intro n w
  have e : ∀ N : Nat, ObAt 43 MedR (w.alloc (Obj.cells (medL N [0, 0, 0, 0, 0, 0, 0, 0, 0, 0, 0, 0, 0, 0, 0] 0).toArray 43)) w.heap.size (N, []) := fun N => med_shut rfl (Box.new w _ _) rfl
  have nb : ∀ N : Nat, Below w.heap.size w (w.alloc (Obj.cells (medL N [0, 0, 0, 0, 0, 0, 0, 0, 0, 0, 0, 0, 0, 0, 0] 0).toArray 43)) := fun N => bnew w _
  obtain ⟨N, hN⟩ : ∃ N, clampN n = N := ⟨_, rfl⟩
  rw [hN]
  have hc : (n < 1 ∧ N = 1) ∨ (15 < n ∧ N = 15) ∨ (1 ≤ n ∧ n ≤ 15 ∧ n = (N : Int)) := by
    unfold clampN at hN
    by_cases h1 : n < 1
    · rw [if_pos h1] at hN; omega
    · rw [if_neg h1] at hN
      by_cases h2 : 15 < n
      · rw [if_pos h2] at hN; omega
      · rw [if_neg h2] at hN; omega
  have HE := hid e
  have HB := hid nb
  clear hN e nb
  rcases hc with ⟨h1, rfl⟩ | ⟨h1, rfl⟩ | ⟨h1, h2, rfl⟩
  · go_enter Try.func8, Try.ntmps8
    go_wp2_with (guard_target =~ wpList _ _ _ (⟨some 6, _, _, _, _, _⟩ :: _) _ _; refine wpList_build_any (op := ⟨some 6, .build _ _, _, _, _, _⟩) (by rfl) _ _ (by rfl) _ (by rfl) (medL (1) [0, 0, 0, 0, 0, 0, 0, 0, 0, 0, 0, 0, 0, 0, 0] 0).toArray (by kernel_rfl) ?_)
    all_goals
      go_ret
      exact ⟨_, rfl, Nat.le_refl _, HE.out _, HB.out _⟩
  · go_enter Try.func8, Try.ntmps8
    go_wp2_with (guard_target =~ wpList _ _ _ (⟨some 6, _, _, _, _, _⟩ :: _) _ _; refine wpList_build_any (op := ⟨some 6, .build _ _, _, _, _, _⟩) (by rfl) _ _ (by rfl) _ (by rfl) (medL (15) [0, 0, 0, 0, 0, 0, 0, 0, 0, 0, 0, 0, 0, 0, 0] 0).toArray (by kernel_rfl) ?_)
    all_goals
      go_ret
      exact ⟨_, rfl, Nat.le_refl _, HE.out _, HB.out _⟩
  · go_enter Try.func8, Try.ntmps8
    go_wp2_with (guard_target =~ wpList _ _ _ (⟨some 6, _, _, _, _, _⟩ :: _) _ _; refine wpList_build_any (op := ⟨some 6, .build _ _, _, _, _, _⟩) (by rfl) _ _ (by rfl) _ (by rfl) (medL ((N : Int)) [0, 0, 0, 0, 0, 0, 0, 0, 0, 0, 0, 0, 0, 0, 0] 0).toArray (by kernel_rfl) ?_)
    all_goals
      go_ret
      exact ⟨_, rfl, Nat.le_refl _, HE.out _, HB.out _⟩

set_option maxRecDepth 100000 in
set_option maxHeartbeats 8000000 in
theorem ownClrM : CClrM MedR := by
  intro g n l w FA hin
  obtain ⟨rs, h15, hB, ht⟩ := med_open FA
  have hc0 := hB.cell 0 _ rfl
  have H15 := hid h15
  have B2 : Box (w.setRow g (medL n [0, 0, 0, 0, 0, 0, 0, 0, 0, 0, 0, 0, 0, 0, 0] 0).toArray) g (medL n [0, 0, 0, 0, 0, 0, 0, 0, 0, 0, 0, 0, 0, 0, 0] 0) 43 := hB.rowK _
  have o2 := (Only.refl g w).row (medL n [0, 0, 0, 0, 0, 0, 0, 0, 0, 0, 0, 0, 0, 0, 0] 0).toArray
  clear ht h15 hin FA
  go_enter Try.func10, Try.ntmps10
  go_wp2_with (first | (guard_target =~ wpList _ _ _ (⟨some 7, _, _, _, _, _⟩ :: _) _ _; refine wpList_build_any (op := ⟨some 7, .build _ _, _, _, _, _⟩) (by rfl) _ _ (by rfl) _ (by rfl) (medL n [0, 0, 0, 0, 0, 0, 0, 0, 0, 0, 0, 0, 0, 0, 0] 0).toArray (by kernel_rfl) ?_) | (guard_target =~ wpList _ _ _ (⟨none, _, _, _, _, _⟩ :: _) _ _; refine wpList_store_med (op := ⟨none, .store _ _ _, _, _, _, _⟩) (by rfl) _ _ (by rfl) g n n _ 0 rs [0, 0, 0, 0, 0, 0, 0, 0, 0, 0, 0, 0, 0, 0, 0] (by rfl) (by rfl) hB H15.out rfl ?_))
  go_end0
  exact ⟨rfl, med_shut (l := []) (rs := [0, 0, 0, 0, 0, 0, 0, 0, 0, 0, 0, 0, 0, 0, 0]) rfl B2 rfl, o2⟩

set_option maxRecDepth 100000 in
set_option maxHeartbeats 8000000 in
theorem ownValM : CValM MedR := by
  intro g n l w FA hin
  obtain ⟨rs, h15, hB, ht⟩ := med_open FA
  have hl15 : l.length ≤ 15 := Nat.le_trans hin.2.2 hin.2.1
  have HR := hid fun (wx : World) (h : Below w.heap.size w wx) => (show inK.Reads wx (.slice (some ⟨g, 1, none⟩) l.length 15) l by
    have h2 := Box.rowI [] rs _ 1 (hB.below h) (fun i hi => med_val i hi) l.length 15 (by omega) hl15 (by unfold maxLen; omega)
    rw [ht] at h2
    exact h2)
  have hc0 : (0 : Int) ≤ (l.length : Int) := by omega
  have hc15 : (l.length : Int) ≤ 15 := by omega
  have HC := hid fun (wx : World) (h : Below w.heap.size w wx) => (hB.below h).cell 16 _ (med_count h15)
  have H15 := hid hl15
  clear hB ht h15 hin FA hl15
  have hown := RowK.Own.nil inK 3 w w.heap.size
  go_enter Try.func14, Try.ntmps14
  go_upto_region 1 with fail
  refine wp_region_held_drew (S := fun w' => w'.cell? ⟨g, 16, none⟩ = some (.int .i64 (l.length : Int))) (by kernel_rfl) (HC.out _ (Below.drew (Below.refl _ _))) ?_
  intro hS
  have hb := Below.drew (Below.refl w.heap.size w)
  replace hown := hown.below hb
  generalize w.drew = WD at *
  refine rtake 0 rfl (by rfl) (by kernel_rfl) (by kernel_rfl) (by kernel_rfl) (fun _ _ _ h => h) hS (fun wx hwx => by go_simp; try with_reducible rfl) ?_
  try simp only [Act.put, List.setIfInBounds_toArray, List.set_cons_zero, List.set_cons_succ]
  refine rtake 1 rfl (by rfl) (by kernel_rfl) (by kernel_rfl) (by kernel_rfl) (fun _ _ _ h => h) hS (fun wx hwx => by go_simp; try with_reducible rfl) ?_
  try simp only [Act.put, List.setIfInBounds_toArray, List.set_cons_zero, List.set_cons_succ]
  refine rtake 2 rfl (by rfl) (by kernel_rfl) (by kernel_rfl) (by kernel_rfl) (fun _ _ _ h => h) hS (fun wx hwx => by go_simp; try with_reducible rfl) ?_
  try simp only [Act.put, List.setIfInBounds_toArray, List.set_cons_zero, List.set_cons_succ]
  refine rtake 3 rfl (by rfl) (by kernel_rfl) (by kernel_rfl) (by kernel_rfl) (fun _ _ _ h => h) hS (fun wx hwx => by go_simp; try with_reducible rfl) ?_
  try simp only [Act.put, List.setIfInBounds_toArray, List.set_cons_zero, List.set_cons_succ]
  refine rtake 4 rfl (by rfl) (by kernel_rfl) (by kernel_rfl) (by kernel_rfl) (fun _ _ _ h => h) hS (fun wx hwx => by go_simp; try with_reducible rfl) ?_
  try simp only [Act.put, List.setIfInBounds_toArray, List.set_cons_zero, List.set_cons_succ]
  refine rtake 5 rfl (by rfl) (by kernel_rfl) (by kernel_rfl) (by kernel_rfl) (fun _ _ _ h => h) hS (fun wx hwx => by go_simp; try with_reducible rfl) ?_
  try simp only [Act.put, List.setIfInBounds_toArray, List.set_cons_zero, List.set_cons_succ]
  refine rtake 6 rfl (by rfl) (by kernel_rfl) (by kernel_rfl) (by kernel_rfl) (fun _ _ _ h => h) hS (fun wx hwx => by go_simp; try with_reducible rfl) ?_
  try simp only [Act.put, List.setIfInBounds_toArray, List.set_cons_zero, List.set_cons_succ]
  refine rtake 7 rfl (by rfl) (by kernel_rfl) (by kernel_rfl) (by kernel_rfl) (fun _ _ _ h => h) hS (fun wx hwx => by go_simp; try with_reducible rfl) ?_
  try simp only [Act.put, List.setIfInBounds_toArray, List.set_cons_zero, List.set_cons_succ]
  refine rcall 8 rfl (by kernel_rfl) (by rfl) (fun K' hK => ?_)
  refine inK.op_append Try.underlying22 int_info rfl (o := ⟨some 11, _, _, _, _, _⟩) _ _ rfl rfl w.heap.size _ _ [] l rfl rfl hown (HR.out _ hb) (by have := H15.out; simp only [List.length_nil]; omega) (by have := H15.out; simp only [List.length_nil]; omega) hb.size ?_
  intro v' w' own' bel'
  rw [List.nil_append] at own'
  replace hb := hb.trans bel'
  refine hK.out _ _ (HC.out _ hb) ?_
  clear hK K' hS bel'
  have hS := HC.out _ hb
  try simp only [Act.put, List.setIfInBounds_toArray, List.set_cons_zero, List.set_cons_succ]
  refine rtake 9 rfl (by rfl) (by kernel_rfl) (by kernel_rfl) (by kernel_rfl) (fun _ _ _ h => h) hS (fun wx hwx => by go_simp; try with_reducible rfl) ?_
  try simp only [Act.put, List.setIfInBounds_toArray, List.set_cons_zero, List.set_cons_succ]
  refine wpAnyH_done (by kernel_rfl) ?_ _
  go_wp2_with fail
  go_ret
  exact ⟨v', rfl, own'.reads.intsK, hb⟩

set_option maxRecDepth 100000 in
set_option maxHeartbeats 8000000 in
theorem ownMedM : CMedM MedR := by
  intro g n l w FA hin
  have hl15 : l.length ≤ 15 := Nat.le_trans hin.2.2 hin.2.1
  have HC := hid fun (wx : World) (h : Below w.heap.size w wx) => (show wx.cell? ⟨g, 16, none⟩ = some (.int .i64 (l.length : Int)) by
    obtain ⟨rs, h15, hB, ht⟩ := med_open FA
    exact (hB.below h).cell 16 _ (med_count h15))
  have hcc := HC.out _ (Below.refl _ _)
  by_cases h0 : 0 < l.length
  · have hd1 := hid (show decide (0 < l.length) = true from decide_eq_true h0)
    have hl0 : ((l.length : Int) == 0) = false := beq_false_of_ne (by omega)
    have H0 := hid h0
    clear h0
    go_enter Try.func15, Try.ntmps15
    go_wp2_with fail
    refine (ordered_any g n l w FA hl15).mono ?_
    rintro e w2 ⟨E, rfl, hE15, hp, hs, b2⟩
    have hX := Box.new w2 (mI [0, 0, 0, 0, 0, 0, 0, 0, 0, 0, 0, 0, 0, 0, 0]) 41
    have z1 := bnew w2 (Obj.cells (mI [0, 0, 0, 0, 0, 0, 0, 0, 0, 0, 0, 0, 0, 0, 0]).toArray 41)
    have HPS := hid (show _ ∧ _ from ⟨hp, hs⟩)
    clear hp hs hcc
    go_upto_region 4 with (guard_target =~ wpList _ _ _ (⟨none, _, _, _, _, _⟩ :: _) _ _; refine arrT.store (op := ⟨none, .store _ _ _, _, _, _, _⟩) (by rfl) _ _ (by rfl) w2.heap.size ⟨E, hE15⟩ ⟨[0, 0, 0, 0, 0, 0, 0, 0, 0, 0, 0, 0, 0, 0, 0], rfl⟩ _ (by rfl) (by rfl) hX ?_)
    change Code.wp Try.prog _ _ _ ((w2.alloc (Obj.cells (mI [0, 0, 0, 0, 0, 0, 0, 0, 0, 0, 0, 0, 0, 0, 0]).toArray 41)).setRow w2.heap.size (mI E).toArray)
    have hZ := hX.rowK (mI E)
    have hW := below_setRow z1 (Nat.le_refl _) (mI E).toArray
    generalize (w2.alloc (Obj.cells (mI [0, 0, 0, 0, 0, 0, 0, 0, 0, 0, 0, 0, 0, 0, 0]).toArray 41)).setRow w2.heap.size (mI E).toArray = W3 at *
    replace hW := bnext b2 hW
    clear b2 z1 hX
    generalize w2.heap.size = G at *
    obtain ⟨q, hq⟩ : ∃ q, (l.length - 1) / 2 = q := ⟨_, rfl⟩
    have hpl := HPS.out.1.length_eq
    have hm : IsMed l (E.getD q 0) := by
      have h9 := H0.out
      have h8 := (isMed_sorted HPS.out.2 (by omega)).perm HPS.out.1
      rw [hpl, hq, List.getD_eq_getElem?_getD, List.getElem?_take_of_lt (by omega), ← List.getD_eq_getElem?_getD] at h8
      exact h8
    have hqE : q < E.length := by omega
    have hc5 : W3.cell? ⟨G, q, none⟩ = some (.int .i64 (E.getD q 0)) := by
      rw [hZ.cell q _ (mI_at E q hqE), List.getD_eq_getElem?_getD, List.getElem?_eq_getElem hqE]
      rfl
    generalize E.getD q 0 = m at *
    have HM := hid hm
    have hcc := HC.out _ hW
    have H9 := H0.out
    have hw1 : IntKind.i64.wrap ((l.length : Int) - 1) = (l.length : Int) - 1 := by rw [IntKind.wrap_i64]; omega
    have hw2 : ((l.length : Int) - 1).tdiv 2 = (q : Int) := by rw [Int.tdiv_eq_ediv_of_nonneg (by omega)]; omega
    have hw3 : IntKind.i64.wrap (q : Int) = (q : Int) := by rw [IntKind.wrap_i64]; omega
    have hq0 : (0 : Int) ≤ (q : Int) := by omega
    have hqI : (q : Int) < 15 := by omega
    have hqN : q < 15 := by omega
    clear hm hq hqE hpl hl0 hZ H9 HPS hE15
    go_wp2_with fail
    go_ret2
    exact ⟨m, by rw [hd1.out]; rfl, by unfold MedOf; rw [if_pos H0.out]; exact HM.out, hW⟩
  · obtain rfl : l = [] := List.eq_nil_of_length_eq_zero (by omega)
    go_enter Try.func15, Try.ntmps15
    go_wp2_with fail
    go_ret2
    exact ⟨0, rfl, by unfold MedOf; rw [if_neg (by decide)], Below.refl _ _⟩

set_option maxRecDepth 100000 in
set_option maxHeartbeats 8000000 in
theorem ownPutM : CPutM MedR := by
  intro g n l v w FA hin
  obtain ⟨rs, h15, hB, ht⟩ := med_open FA
  have hn1 := hin.1
  have hn15 := hin.2.1
  have hln : l.length ≤ n := hin.2.2
  have HIN := hid (hin.put v)
  have HPOS := hid (show decide (0 < (putL n l v).length) = true from decide_eq_true (putL_ne n hin.1 l v hin.2.2).1)
  have hc0 := hB.cell 0 _ rfl
  have hc16 := hB.cell 16 _ (med_count h15)
  clear FA hin
  by_cases hf : l.length = n
  · have hfb : ((l.length : Int) == (n : Int)) = true := beq_iff_eq.2 (by omega)
    have hPL : putL n l v = l.drop 1 ++ [v] := by
      unfold putL
      rw [if_pos (by omega), List.drop_append_of_le_length (by omega)]
    have HPL := hid hPL.symm
    have HT0 := hid ht
    have HLN := hid (show 1 ≤ l.length ∧ l.length ≤ 15 from ⟨by omega, by omega⟩)
    have H150 := hid h15
    have hl0 : (0 : Int) ≤ (l.length : Int) := by omega
    have hl1 : (1 : Int) ≤ (l.length : Int) := by omega
    have hl15 : (l.length : Int) ≤ 15 := by omega
    clear hPL ht h15 hf hln
    go_enter Try.func11, Try.ntmps11
    go_upto_region 1 with fail
    go_quiet (fail)
    have hd := drewM_below w nq
    replace hB := hB.below hd
    have ho := Only.of_below g hd
    have hc0 := hB.cell 0 _ rfl
    have hc16 := hB.cell 16 _ (med_count H150.out)
    generalize w.drewN nq = W0 at *
    clear hd
    go_upto_region 2 with fail
    refine wp_region_held_drew (S := fun w' => True) (by kernel_rfl) True.intro ?_
    intro hS
    have hbd := Below.drew (Below.refl W0.heap.size W0)
    replace hB := hB.below hbd
    replace ho := ho.next hbd
    clear hbd hc0 hc16
    generalize W0.drew = WD at *
    refine rtake 0 rfl (by rfl) (by kernel_rfl) (by kernel_rfl) (by kernel_rfl) (fun _ _ _ h => h) hS (fun wx hwx => by go_simp; try with_reducible rfl) ?_
    try simp only [Act.put, List.setIfInBounds_toArray, List.set_cons_zero, List.set_cons_succ]
    refine rtake 1 rfl (by rfl) (by kernel_rfl) (by kernel_rfl) (by kernel_rfl) (fun _ _ _ h => h) hS (fun wx hwx => by go_simp; try with_reducible rfl) ?_
    try simp only [Act.put, List.setIfInBounds_toArray, List.set_cons_zero, List.set_cons_succ]
    refine rtake 2 rfl (by rfl) (by kernel_rfl) (by kernel_rfl) (by kernel_rfl) (fun _ _ _ h => h) hS (fun wx hwx => by go_simp; try with_reducible rfl) ?_
    try simp only [Act.put, List.setIfInBounds_toArray, List.set_cons_zero, List.set_cons_succ]
    refine rtake 3 rfl (by rfl) (by kernel_rfl) (by kernel_rfl) (by kernel_rfl) (fun _ _ _ h => h) hS (fun wx hwx => by go_simp; try with_reducible rfl) ?_
    try simp only [Act.put, List.setIfInBounds_toArray, List.set_cons_zero, List.set_cons_succ]
    refine rtake 4 rfl (by rfl) (by kernel_rfl) (by kernel_rfl) (by kernel_rfl) (fun _ _ _ h => h) hS (fun wx hwx => by go_simp; try with_reducible rfl) ?_
    try simp only [Act.put, List.setIfInBounds_toArray, List.set_cons_zero, List.set_cons_succ]
    refine rtake 5 rfl (by rfl) (by kernel_rfl) (by kernel_rfl) (by kernel_rfl) (fun _ _ _ h => h) hS (fun wx hwx => by go_simp; try with_reducible rfl) ?_
    try simp only [Act.put, List.setIfInBounds_toArray, List.set_cons_zero, List.set_cons_succ]
    refine rtake 6 rfl (by rfl) (by kernel_rfl) (by kernel_rfl) (by kernel_rfl) (fun _ _ _ h => h) hS (fun wx hwx => by go_simp; try with_reducible rfl) ?_
    try simp only [Act.put, List.setIfInBounds_toArray, List.set_cons_zero, List.set_cons_succ]
    refine rtake 7 rfl (by rfl) (by kernel_rfl) (by kernel_rfl) (by kernel_rfl) (fun _ _ _ h => h) hS (fun wx hwx => by go_simp; try with_reducible rfl) ?_
    try simp only [Act.put, List.setIfInBounds_toArray, List.set_cons_zero, List.set_cons_succ]
    refine rtake 8 rfl (by rfl) (by kernel_rfl) (by kernel_rfl) (by kernel_rfl) (fun _ _ _ h => h) hS (fun wx hwx => by go_simp; try with_reducible rfl) ?_
    try simp only [Act.put, List.setIfInBounds_toArray, List.set_cons_zero, List.set_cons_succ]
    refine rtake 9 rfl (by rfl) (by kernel_rfl) (by kernel_rfl) (by kernel_rfl) (fun _ _ _ h => h) hS (fun wx hwx => by go_simp; try with_reducible rfl) ?_
    try simp only [Act.put, List.setIfInBounds_toArray, List.set_cons_zero, List.set_cons_succ]
    refine rtake 10 rfl (by rfl) (by kernel_rfl) (by kernel_rfl) (by kernel_rfl) (fun _ _ _ h => h) hS (fun wx hwx => by go_simp; try with_reducible rfl) ?_
    try simp only [Act.put, List.setIfInBounds_toArray, List.set_cons_zero, List.set_cons_succ]
    have hc16 := hB.cell 16 _ (med_count H150.out)
    refine rcall 11 rfl (by kernel_rfl) (by rfl) (fun K' hK => ?_)
    go_simp
    refine hK.out _ _ True.intro ?_
    clear hK K' hc16
    try simp only [Act.put, List.setIfInBounds_toArray, List.set_cons_zero, List.set_cons_succ]
    refine rtake 12 rfl (by rfl) (by kernel_rfl) (by kernel_rfl) (by kernel_rfl) (fun _ _ _ h => h) hS (fun wx hwx => by go_simp; try with_reducible rfl) ?_
    try simp only [Act.put, List.setIfInBounds_toArray, List.set_cons_zero, List.set_cons_succ]
    have eL : (rs.drop 1).take (l.length - 1) = l.drop 1 := by
      have h := congrArg (fun x : List Int => x.drop 1) HT0.out
      simp only [List.drop_take] at h
      exact h
    have lL : (l.drop 1).length = l.length - 1 := List.length_drop
    have hB0 : Box WD g ([.int .i64 (n : Int)] ++ mI (rs.take (l.length - 1)) ++ (mI (rs.drop (l.length - 1)) ++ [.int .i64 (l.length : Int)])) 43 := by
      have e : medL n rs l.length = [.int .i64 (n : Int)] ++ mI (rs.take (l.length - 1)) ++ (mI (rs.drop (l.length - 1)) ++ [.int .i64 (l.length : Int)]) := by
        unfold medL
        rw [show mI rs = mI (rs.take (l.length - 1)) ++ mI (rs.drop (l.length - 1)) by rw [← mI_append, List.take_append_drop]]
        simp
      rw [← e]
      exact hB
    have hB1 := Box.mid (mI (l.drop 1)) (mI (rs.take (l.length - 1))) _ _ WD (by rw [mI_length, mI_length, lL, List.length_take]; have := HLN.out; have := H150.out; omega) hB0
    have hO1 := ho.cells (mI (l.drop 1)) 1
    refine rcall 13 rfl (by kernel_rfl) (by rfl) (fun K' hK => ?_)
    refine RowK.op_copy (K := inK) _ _ _ _ 3 rfl g 1 15 15 ⟨g, 2, none⟩ (l.length - 1) 14 (l.drop 1) (by rfl) (by rfl) Try.underlying22 (by kernel_rfl) (by have := HLN.out; rw [lL]; show _ = min _ _; omega) (fun j v hj => by
      rw [mI_cells, ← eL] at hj
      rw [Addr.add_plain]
      refine hB.cell _ _ ?_
      unfold medL
      rw [show 2 + j = (1 + j) + 1 by omega, List.getElem?_cons_succ, List.getElem?_append_left (by have h1 := (List.getElem?_eq_some_iff.1 (mid_src hj)).1; exact h1)]
      exact mid_src hj) (hB.there _ _ (by have := HLN.out; have := H150.out; rw [mI_cells, mI_length, medL_length H150.out, lL]; omega)) ?_
    rw [mI_cells, lL]
    change Box (WD.setCells g 1 (mI (l.drop 1))) g _ _ at hB1
    generalize WD.setCells g 1 (mI (l.drop 1)) = W1 at *
    have hBF : Box W1 g (medL n (l.drop 1 ++ rs.drop (l.length - 1)) l.length) 43 := by
      have e : medL n (l.drop 1 ++ rs.drop (l.length - 1)) l.length = [.int .i64 (n : Int)] ++ mI (l.drop 1) ++ (mI (rs.drop (l.length - 1)) ++ [.int .i64 (l.length : Int)]) := by
        unfold medL
        rw [mI_append]
        simp
      rw [e]
      exact hB1
    have H15 : Hid ((l.drop 1 ++ rs.drop (l.length - 1)).length = 15) := hid (by rw [List.length_append, lL, List.length_drop]; have := HLN.out; have := H150.out; omega)
    have HT : Hid ((l.drop 1 ++ rs.drop (l.length - 1)).take (l.drop 1).length = l.drop 1) := hid (List.take_left' rfl)
    have HLL : Hid ((l.drop 1).length < 15) := hid (by rw [lL]; have := HLN.out; omega)
    generalize l.drop 1 ++ rs.drop (l.length - 1) = rs at *
    rw [← lL]
    have hL0 : (0 : Int) ≤ ((l.drop 1).length : Int) := by omega
    have hL15 : ((l.drop 1).length : Int) < 15 := by have := HLL.out; omega
    clear hB hB0 hB1 eL lL hl0 hl1 hl15 ho
    generalize hLd : l.drop 1 = L at *
    replace hLd := hid hLd
    refine hK.out _ _ True.intro ?_
    clear hK K'
    have hc16 := hBF.cell 16 _ (med_count H15.out)
    try simp only [Act.put, List.setIfInBounds_toArray, List.set_cons_zero, List.set_cons_succ]
    refine rtake 14 rfl (by rfl) (by kernel_rfl) (by kernel_rfl) (by kernel_rfl) (fun _ _ _ h => h) hS (fun wx hwx => by go_simp; try with_reducible rfl) ?_
    try simp only [Act.put, List.setIfInBounds_toArray, List.set_cons_zero, List.set_cons_succ]
    refine rtake 15 rfl (by rfl) (by kernel_rfl) (by kernel_rfl) (by kernel_rfl) (fun _ _ _ h => h) hS (fun wx hwx => by go_simp; try with_reducible rfl) ?_
    try simp only [Act.put, List.setIfInBounds_toArray, List.set_cons_zero, List.set_cons_succ]
    have hf16 := hBF.free 16
    refine rcall 16 rfl (by kernel_rfl) (by rfl) (fun K' hK => ?_)
    go_simp
    have hB := hBF.set 16 (.int .i64 (L.length : Int))
    rw [med_setc H15.out] at hB
    have ho := hO1.cell 16 (.int .i64 (L.length : Int))
    generalize W1.setCell ⟨g, 16, none⟩ (.int .i64 (L.length : Int)) = W at *
    refine hK.out _ _ True.intro ?_
    clear hK K' hS hf16 hBF hO1 hc16
    try simp only [Act.put, List.setIfInBounds_toArray, List.set_cons_zero, List.set_cons_succ]
    refine wpAnyH_done (by kernel_rfl) ?_ _
    go_upto_region 3 with fail
    refine wp_region_held_drew (S := fun w' => w'.cell? ⟨g, 16, none⟩ = some (.int .i64 (L.length : Int))) (by kernel_rfl) ((hB.below (Below.drew (Below.refl _ _))).cell 16 _ (med_count H15.out)) ?_
    intro hS
    have hbd := Below.drew (Below.refl W.heap.size W)
    replace hB := hB.below hbd
    replace ho := ho.next hbd
    clear hbd
    generalize W.drew = WD at *
    refine rtake 0 rfl (by rfl) (by kernel_rfl) (by kernel_rfl) (by kernel_rfl) (fun _ _ _ h => h) hS (fun wx hwx => by go_simp; try with_reducible rfl) ?_
    try simp only [Act.put, List.setIfInBounds_toArray, List.set_cons_zero, List.set_cons_succ]
    refine rtake 1 rfl (by rfl) (by kernel_rfl) (by kernel_rfl) (by kernel_rfl) (fun _ _ _ h => h) hS (fun wx hwx => by go_simp; try with_reducible rfl) ?_
    try simp only [Act.put, List.setIfInBounds_toArray, List.set_cons_zero, List.set_cons_succ]
    refine rtake 2 rfl (by rfl) (by kernel_rfl) (by kernel_rfl) (by kernel_rfl) (fun _ _ _ h => h) hS (fun wx hwx => by go_simp; try with_reducible rfl) ?_
    try simp only [Act.put, List.setIfInBounds_toArray, List.set_cons_zero, List.set_cons_succ]
    refine rtake 3 rfl (by rfl) (by kernel_rfl) (by kernel_rfl) (by kernel_rfl) (fun _ _ _ h => h) hS (fun wx hwx => by go_simp; try with_reducible rfl) ?_
    try simp only [Act.put, List.setIfInBounds_toArray, List.set_cons_zero, List.set_cons_succ]
    refine rtake 4 rfl (by rfl) (by kernel_rfl) (by kernel_rfl) (by kernel_rfl) (fun _ _ _ h => h) hS (fun wx hwx => by go_simp; try with_reducible rfl) ?_
    try simp only [Act.put, List.setIfInBounds_toArray, List.set_cons_zero, List.set_cons_succ]
    refine rtake 5 rfl (by rfl) (by kernel_rfl) (by kernel_rfl) (by kernel_rfl) (fun _ _ _ h => h) hS (fun wx hwx => by go_simp; try with_reducible rfl) ?_
    try simp only [Act.put, List.setIfInBounds_toArray, List.set_cons_zero, List.set_cons_succ]
    refine rtake 6 rfl (by rfl) (by kernel_rfl) (by kernel_rfl) (by kernel_rfl) (fun _ _ _ h => h) hS (fun wx hwx => by go_simp; try with_reducible rfl) ?_
    try simp only [Act.put, List.setIfInBounds_toArray, List.set_cons_zero, List.set_cons_succ]
    refine rtake 7 rfl (by rfl) (by kernel_rfl) (by kernel_rfl) (by kernel_rfl) (fun _ _ _ h => h) hS (fun wx hwx => by go_simp; try with_reducible rfl) ?_
    try simp only [Act.put, List.setIfInBounds_toArray, List.set_cons_zero, List.set_cons_succ]
    refine rtake 8 rfl (by rfl) (by kernel_rfl) (by kernel_rfl) (by kernel_rfl) (fun _ _ _ h => h) hS (fun wx hwx => by go_simp; try with_reducible rfl) ?_
    try simp only [Act.put, List.setIfInBounds_toArray, List.set_cons_zero, List.set_cons_succ]
    obtain ⟨y, hy⟩ : ∃ y, rs[L.length]'(by have := H15.out; have := HLL.out; omega) = y := ⟨_, rfl⟩
    have hc9 := hB.cell (1 + L.length) _ (med_val L.length (by have := H15.out; have := HLL.out; omega))
    rw [hy] at hc9
    have hf9 := hB.free (1 + L.length)
    clear hy
    refine rcall 9 rfl (by kernel_rfl) (by rfl) (fun K' hK => ?_)
    go_simp
    have hB2 := hB.set (1 + L.length) (.int .i64 v)
    rw [med_setv L.length (by have := H15.out; have := HLL.out; omega) v] at hB2
    have ho2 := ho.cell (1 + L.length) (.int .i64 v)
    have hT2 := hid (take_moreI (HT.out) (by have := H15.out; have := HLL.out; omega) v)
    have H15b := hid (show (rs.set L.length v).length = 15 by rw [List.length_set]; exact H15.out)
    generalize WD.setCell ⟨g, 1 + L.length, none⟩ (.int .i64 v) = WE at *
    generalize rs.set L.length v = rs2 at *
    refine hK.out _ _ (hB2.cell 16 _ (med_count H15b.out)) ?_
    clear hK K' hS hc9 hf9 hB ho HT
    try simp only [Act.put, List.setIfInBounds_toArray, List.set_cons_zero, List.set_cons_succ]
    refine wpAnyH_done (by kernel_rfl) ?_ _
    have hc16 := hB2.cell 16 _ (med_count H15b.out)
    have hf16 := hB2.free 16
    have hw1 : IntKind.i64.wrap ((L.length : Int) + 1) = (L.length : Int) + 1 := by have := HLL.out; rw [IntKind.wrap_i64]; omega
    have hw2 : wrap64 ((L.length : Int) + 1) = (L.length : Int) + 1 := by have := HLL.out; unfold wrap64; omega
    go_upto_region 5 with fail
    have hB3 := hB2.set 16 (.int .i64 ((L.length : Int) + 1))
    rw [med_setc H15b.out] at hB3
    have ho3 := ho2.cell 16 (.int .i64 ((L.length : Int) + 1))
    generalize WE.setCell ⟨g, 16, none⟩ (.int .i64 ((L.length : Int) + 1)) = WF at *
    have FA : ObAt 43 MedR WF g (n, L ++ [v]) := med_shut H15b.out (by rw [List.length_append, List.length_singleton]; exact hB3) hT2.out
    clear hB2 hB3 ho2 hc16 hf16 hw1 hw2
    rw [HPL.out] at FA
    go_wp2_with fail
    refine (ownMedM g n (putL n l v) WF FA HIN.out).mono ?_
    rintro e w9 ⟨m, rfl, hm, b9⟩
    rw [HPOS.out]
    replace hm := hid (hm.is (of_decide_eq_true HPOS.out))
    replace FA := hid (FA.below b9)
    replace ho3 := ho3.next b9
    go_wp2_with fail
    go_ret
    exact ⟨m, rfl, hm.out, FA.out, ho3⟩
  · have hfb : ((l.length : Int) == (n : Int)) = false := beq_false_of_ne (by omega)
    have hPL : putL n l v = l ++ [v] := by
      unfold putL
      rw [if_neg (by omega)]
    have HPL := hid hPL.symm
    have HT := hid ht
    have HLL := hid (show l.length < 15 by omega)
    have H15 := hid h15
    have hL0 : (0 : Int) ≤ (l.length : Int) := by omega
    have hL15 : (l.length : Int) < 15 := by omega
    clear hPL ht h15 hf hln
    go_enter Try.func11, Try.ntmps11
    go_upto_region 1 with fail
    go_quiet (fail)
    have hd := drewM_below w nq
    replace hB := hB.below hd
    have ho := Only.of_below g hd
    have hc0 := hB.cell 0 _ rfl
    have hc16 := hB.cell 16 _ (med_count H15.out)
    generalize w.drewN nq = W at *
    clear hd
    clear hc0 hc16
    go_upto_region 3 with fail
    refine wp_region_held_drew (S := fun w' => w'.cell? ⟨g, 16, none⟩ = some (.int .i64 (l.length : Int))) (by kernel_rfl) ((hB.below (Below.drew (Below.refl _ _))).cell 16 _ (med_count H15.out)) ?_
    intro hS
    have hbd := Below.drew (Below.refl W.heap.size W)
    replace hB := hB.below hbd
    replace ho := ho.next hbd
    clear hbd
    generalize W.drew = WD at *
    refine rtake 0 rfl (by rfl) (by kernel_rfl) (by kernel_rfl) (by kernel_rfl) (fun _ _ _ h => h) hS (fun wx hwx => by go_simp; try with_reducible rfl) ?_
    try simp only [Act.put, List.setIfInBounds_toArray, List.set_cons_zero, List.set_cons_succ]
    refine rtake 1 rfl (by rfl) (by kernel_rfl) (by kernel_rfl) (by kernel_rfl) (fun _ _ _ h => h) hS (fun wx hwx => by go_simp; try with_reducible rfl) ?_
    try simp only [Act.put, List.setIfInBounds_toArray, List.set_cons_zero, List.set_cons_succ]
    refine rtake 2 rfl (by rfl) (by kernel_rfl) (by kernel_rfl) (by kernel_rfl) (fun _ _ _ h => h) hS (fun wx hwx => by go_simp; try with_reducible rfl) ?_
    try simp only [Act.put, List.setIfInBounds_toArray, List.set_cons_zero, List.set_cons_succ]
    refine rtake 3 rfl (by rfl) (by kernel_rfl) (by kernel_rfl) (by kernel_rfl) (fun _ _ _ h => h) hS (fun wx hwx => by go_simp; try with_reducible rfl) ?_
    try simp only [Act.put, List.setIfInBounds_toArray, List.set_cons_zero, List.set_cons_succ]
    refine rtake 4 rfl (by rfl) (by kernel_rfl) (by kernel_rfl) (by kernel_rfl) (fun _ _ _ h => h) hS (fun wx hwx => by go_simp; try with_reducible rfl) ?_
    try simp only [Act.put, List.setIfInBounds_toArray, List.set_cons_zero, List.set_cons_succ]
    refine rtake 5 rfl (by rfl) (by kernel_rfl) (by kernel_rfl) (by kernel_rfl) (fun _ _ _ h => h) hS (fun wx hwx => by go_simp; try with_reducible rfl) ?_
    try simp only [Act.put, List.setIfInBounds_toArray, List.set_cons_zero, List.set_cons_succ]
    refine rtake 6 rfl (by rfl) (by kernel_rfl) (by kernel_rfl) (by kernel_rfl) (fun _ _ _ h => h) hS (fun wx hwx => by go_simp; try with_reducible rfl) ?_
    try simp only [Act.put, List.setIfInBounds_toArray, List.set_cons_zero, List.set_cons_succ]
    refine rtake 7 rfl (by rfl) (by kernel_rfl) (by kernel_rfl) (by kernel_rfl) (fun _ _ _ h => h) hS (fun wx hwx => by go_simp; try with_reducible rfl) ?_
    try simp only [Act.put, List.setIfInBounds_toArray, List.set_cons_zero, List.set_cons_succ]
    refine rtake 8 rfl (by rfl) (by kernel_rfl) (by kernel_rfl) (by kernel_rfl) (fun _ _ _ h => h) hS (fun wx hwx => by go_simp; try with_reducible rfl) ?_
    try simp only [Act.put, List.setIfInBounds_toArray, List.set_cons_zero, List.set_cons_succ]
    obtain ⟨y, hy⟩ : ∃ y, rs[l.length]'(by have := H15.out; have := HLL.out; omega) = y := ⟨_, rfl⟩
    have hc9 := hB.cell (1 + l.length) _ (med_val l.length (by have := H15.out; have := HLL.out; omega))
    rw [hy] at hc9
    have hf9 := hB.free (1 + l.length)
    clear hy
    refine rcall 9 rfl (by kernel_rfl) (by rfl) (fun K' hK => ?_)
    go_simp
    have hB2 := hB.set (1 + l.length) (.int .i64 v)
    rw [med_setv l.length (by have := H15.out; have := HLL.out; omega) v] at hB2
    have ho2 := ho.cell (1 + l.length) (.int .i64 v)
    have hT2 := hid (take_moreI (HT.out) (by have := H15.out; have := HLL.out; omega) v)
    have H15b := hid (show (rs.set l.length v).length = 15 by rw [List.length_set]; exact H15.out)
    generalize WD.setCell ⟨g, 1 + l.length, none⟩ (.int .i64 v) = WE at *
    generalize rs.set l.length v = rs2 at *
    refine hK.out _ _ (hB2.cell 16 _ (med_count H15b.out)) ?_
    clear hK K' hS hc9 hf9 hB ho HT
    try simp only [Act.put, List.setIfInBounds_toArray, List.set_cons_zero, List.set_cons_succ]
    refine wpAnyH_done (by kernel_rfl) ?_ _
    have hc16 := hB2.cell 16 _ (med_count H15b.out)
    have hf16 := hB2.free 16
    have hw1 : IntKind.i64.wrap ((l.length : Int) + 1) = (l.length : Int) + 1 := by have := HLL.out; rw [IntKind.wrap_i64]; omega
    have hw2 : wrap64 ((l.length : Int) + 1) = (l.length : Int) + 1 := by have := HLL.out; unfold wrap64; omega
    go_upto_region 5 with fail
    have hB3 := hB2.set 16 (.int .i64 ((l.length : Int) + 1))
    rw [med_setc H15b.out] at hB3
    have ho3 := ho2.cell 16 (.int .i64 ((l.length : Int) + 1))
    generalize WE.setCell ⟨g, 16, none⟩ (.int .i64 ((l.length : Int) + 1)) = WF at *
    have FA : ObAt 43 MedR WF g (n, l ++ [v]) := med_shut H15b.out (by rw [List.length_append, List.length_singleton]; exact hB3) hT2.out
    clear hB2 hB3 ho2 hc16 hf16 hw1 hw2
    rw [HPL.out] at FA
    go_wp2_with fail
    refine (ownMedM g n (putL n l v) WF FA HIN.out).mono ?_
    rintro e w9 ⟨m, rfl, hm, b9⟩
    rw [HPOS.out]
    replace hm := hid (hm.is (of_decide_eq_true HPOS.out))
    replace FA := hid (FA.below b9)
    replace ho3 := ho3.next b9
    go_wp2_with fail
    go_ret
    exact ⟨m, rfl, hm.out, FA.out, ho3⟩

end Go.Proofs.Ytcccjjghalajoaa
