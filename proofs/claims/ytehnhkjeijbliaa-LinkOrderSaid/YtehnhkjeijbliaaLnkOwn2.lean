/- The program's own segment: Look, Put, Take, Twice, Swap, Clear (gen_lnkown.py). -/
import Derived.Test.YtehnhkjeijbliaaLnkOwn
import Derived.BigQuiet
import Derived.Lib.SliceRun
namespace Go.Proofs.Ytehnhkjeijbliaa
open Go.RowKit Go.Proofs
set_option maxRecDepth 50000
set_option linter.unusedVariables false
set_option linter.unusedSimpArgs false

variable {rs : List (Int × ByteArray)} {c l : Int} {w w' : World} {g : Nat} {s : Lz}
theorem isL_split (s : Lz) (i : Int) : isL s i = false ∨ ∃ I : Nat, i = (I : Int) ∧ I < s.q.length := by
  by_cases h : 0 ≤ i ∧ i < s.q.length
  · exact .inr ⟨i.toNat, by omega, by omega⟩
  · exact .inl (decide_eq_false h)
theorem lookL_no {s : Lz} {i : Int} (h : isL s i = false) : lookL s i = nilF := by unfold lookL; rw [h]; rfl
theorem take_set_end {rs q : List (Int × ByteArray)} (h : rs.take q.length = q) (hq : q.length < rs.length) (y : Int × ByteArray) : (rs.set q.length y).take (q ++ [y]).length = q ++ [y] := by
  rw [List.length_append, List.length_singleton, List.take_succ_eq_append_getElem (by rw [List.length_set]; exact hq), List.getElem_set_self, List.take_set_of_le (Nat.le_refl _), h]
theorem StrT.op_load2 {α : Type} {K : RowK α} {T : TypeId} (hT : StrT K T) {op : Oper} {a : Act} {w : World} {K' : Act → World → Prop} {Q : Exit → Act → World → Prop} (x : Operand) (ho : op.op = .load T x)
    (b o : Nat) (hx : a.eval x = .pointer (some ⟨b, o, none⟩)) (c : α) (hR : w.rangeAt b o (K.enc c)) (h : K' (a.put op.dst (.agg (K.enc c).toArray)) w) : op.wp Try.prog a w K' Q := by
  obtain ⟨d, hu, hd⟩ := hT.row
  exact wp_load_mid _ x ho b o hx (K.enc c) d hR hu hd (by rw [hT.size, K.len]) h
theorem drewL_below (w : World) (n : Nat) : Below w.heap.size w (w.drewN n) := ⟨rfl, rfl, rfl, Nat.le_refl _, fun _ _ => rfl⟩
/-- Where a frame lies. -/
theorem lk_range (h : rs.length = 64) (hB : Box w g (lkL rs c l) 41) (i : Nat) (hi : i < rs.length) : w.rangeAt g (i * 2) (frK.enc rs[i]) := fun j v hj => by
  have hj2 : j < 2 := (List.getElem?_eq_some_iff.1 hj).1
  exact hB.cell (i * 2 + j) v (by rw [lk_at h i j hi hj2]; exact hj)

set_option maxRecDepth 100000 in
set_option maxHeartbeats 8000000 in
theorem look_any (FA : ObAt 41 LkR w g s) (hin : s.q.length ≤ 64) (i : Int) : Calls Try.prog 14 #[.pointer (some ⟨g, 0, none⟩), .int .i64 i] w fun e w' => e = .returned (.tuple #[.int .i64 (lookL s i).1, .string (lookL s i).2, .bool (isL s i)]) ∧ Below w.heap.size w w' := by
  rcases isL_split s i with hno | ⟨I, rfl, hI⟩
  · rw [lookL_no hno, hno]
    go_enter Try.func14, Try.ntmps14
    go_wp2_with fail
    refine (since_no FA i hno).mono ?_
    rintro e w1 ⟨rfl, rfl⟩
    go_wp2_with fail
    go_ret3
    exact ⟨rfl, Below.refl _ _⟩
  · rw [lookL_get hI, isL_yes hI]
    obtain ⟨rs, h64, hB, ht⟩ := lk_open FA
    have hI2 : I < rs.length := by omega
    have HC := hid fun (wx : World) (h : Below w.heap.size w wx) => (show wx.cell? ⟨g, I * 2, none⟩ = some (.int .i64 rs[I].1) from (hB.below h).cell (I * 2 + 0) _ (by rw [lk_at h64 I 0 hI2 (by decide)]; rfl))
    have HD := hid fun (wx : World) (h : Below w.heap.size w wx) => (show wx.cell? ⟨g, I * 2 + 1, none⟩ = some (.string rs[I].2) from (hB.below h).cell (I * 2 + 1) _ (by rw [lk_at h64 I 1 hI2 (by decide)]; rfl))
    rw [lk_same ht I hI hI2] at HC HD
    obtain ⟨n, hn⟩ : ∃ n : Nat, s.q.length - I = n := ⟨_, rfl⟩
    have hn0 : ¬ (n : Int) = 0 := by omega
    have hn1 : 0 < (n : Int) := by omega
    have hn2 : 0 < n := by omega
    have hS := hid (since_yes FA hin I hI)
    rw [hn] at hS
    clear hB ht h64 hI2 FA hn
    obtain ⟨F, hF⟩ : ∃ F, s.q[I] = F := ⟨_, rfl⟩
    rw [hF] at HC HD ⊢
    clear hF hI hin
    go_enter Try.func14, Try.ntmps14
    go_wp2_with fail
    refine hS.out.mono ?_
    rintro e w1 ⟨rfl, bq⟩
    have hc0 := HC.out _ bq
    have hc1 := HD.out _ bq
    go_upto_region 4 with fail
    go_quiet (fail)
    have hd := bnext bq (drewL_below w1 nq)
    generalize w1.drewN nq = W2 at *
    go_wp2_with fail
    go_ret3
    exact ⟨rfl, hd⟩

theorem ownLookL : CLookL obL := by
  rintro g F s i w ⟨FA, rfl⟩ hin hi
  exact look_any FA hin.1 i

set_option maxRecDepth 100000 in
set_option maxHeartbeats 8000000 in
theorem put_any (FA : ObAt 41 LkR w g s) (hin : InLz s) (f : Int) (b : ByteArray) (hb : b.size ≤ 140737488355328) : Calls Try.prog 8 #[.pointer (some ⟨g, 0, none⟩), .int .i64 f, .string b] w fun e w' => e = .returned (.int .i64 (putE s b)) ∧ ObAt 41 LkR w' g (putL' s f b) ∧ Only g w w' := by
  obtain ⟨rs, h64, hB, ht⟩ := lk_open FA
  have hc := hB.cell 128 _ (lk_count h64)
  have hl := hB.cell 129 _ (lk_lost h64)
  have hfc := hB.free 128
  have hfl := hB.free 129
  by_cases h4 : 400 < b.size
  · have h4I : (400 : Int) < (b.size : Int) := by omega
    have hE : putE s b = 3 := by unfold putE; rw [if_pos h4]
    have hL : putL' s f b = s := by unfold putL'; rw [if_pos h4]
    rw [hE, hL]
    have HA := hid FA
    clear FA hB ht h64 hc hl hfc hfl hE hL hin h4
    go_enter Try.func8, Try.ntmps8
    go_wp2_with fail
    go_ret
    exact ⟨rfl, HA.out, Only.refl _ _⟩
  have h4I : (b.size : Int) ≤ 400 := by omega
  by_cases h6 : 64 ≤ s.q.length
  · have hE : putE s b = 7 := by unfold putE; rw [if_neg h4, if_pos h6]
    have hL : putL' s f b = { s with lost := s.lost + 1 } := by unfold putL'; rw [if_neg h4, if_pos h6]
    rw [hE, hL]
    have h6b : s.q.length = 64 := by have := hin.1; omega
    rw [h6b] at hc
    obtain ⟨N, hN⟩ : ∃ N : Int, s.lost + 1 = N := ⟨_, rfl⟩
    have hw1 : IntKind.i64.wrap (s.lost + 1) = N := by have h1 := hin.2.2.1; have h2 := hin.2.2.2; rw [IntKind.wrap_i64]; omega
    have hB2 := hB.set 129 (.int .i64 N)
    rw [lk_setl h64] at hB2
    have HA := hid (lk_shut (s := { s with lost := N }) h64 hB2 ht)
    have HO := hid ((Only.refl g w).cell 129 (.int .i64 N))
    have HN := hid hN
    clear FA hB ht h64 hE hL hin h4 h6 h6b hB2 hfc hN
    rw [HN.out]
    go_enter Try.func8, Try.ntmps8
    go_wp2_with fail
    go_ret
    exact ⟨rfl, HA.out, HO.out⟩
  · have hE : putE s b = 0 := by unfold putE; rw [if_neg h4, if_neg h6]
    have hL : putL' s f b = { s with q := s.q ++ [(f, b)] } := by unfold putL'; rw [if_neg h4, if_neg h6]
    rw [hE, hL]
    obtain ⟨n, hn⟩ : ∃ n : Nat, s.q.length = n := ⟨_, rfl⟩
    rw [hn] at hB h6 hc
    have HT := hid ht
    have HN := hid hn
    have h6I : ¬ (n : Int) = 64 := by omega
    have h6b : ((n : Int) == 64) = false := beq_false_of_ne h6I
    have hn0 : (0 : Int) ≤ (n : Int) := by omega
    have hn1 : (n : Int) < 64 := by omega
    have hn2 : n < 64 := by omega
    have HB := hid hB
    have H64 := hid h64
    clear FA hB ht hE hL hin h4 h6 hl hfl hfc hn h64
    go_enter Try.func8, Try.ntmps8
    go_upto_region 6 with fail
    refine wp_region_held_drew (S := fun w' => w'.cell? ⟨g, 128, none⟩ = some (.int .i64 (n : Int))) (by kernel_rfl) ((HB.out.below (Below.drew (Below.refl _ _))).cell 128 _ (lk_count H64.out)) ?_
    intro hS
    have hbd := Below.drew (Below.refl w.heap.size w)
    generalize w.drew = WD at *
    refine rtake 0 rfl (by rfl) (by kernel_rfl) (by kernel_rfl) (by kernel_rfl) (fun _ _ _ h => h) hS (fun wx hwx => by go_simp; try with_reducible rfl) ?_
    try simp only [Act.put, List.setIfInBounds_toArray, List.set_cons_zero, List.set_cons_succ]
    refine rtake 1 rfl (by rfl) (by kernel_rfl) (by kernel_rfl) (by kernel_rfl) (fun _ _ _ h => h) hS (fun wx hwx => by go_simp; try with_reducible rfl) ?_
    try simp only [Act.put, List.setIfInBounds_toArray, List.set_cons_zero, List.set_cons_succ]
    refine rtake 2 rfl (by rfl) (by kernel_rfl) (by kernel_rfl) (by kernel_rfl) (fun _ _ _ h => h) hS (fun wx hwx => by go_simp; try with_reducible rfl) ?_
    try simp only [Act.put, List.setIfInBounds_toArray, List.set_cons_zero, List.set_cons_succ]
    refine rtake 3 rfl (by rfl) (by kernel_rfl) (by kernel_rfl) (by kernel_rfl) (fun _ _ _ h => h) hS (fun wx hwx => by go_simp; try with_reducible rfl) ?_
    try simp only [Act.put, List.setIfInBounds_toArray, List.set_cons_zero, List.set_cons_succ]
    refine rtake 4 rfl (by rfl) (by kernel_rfl) (by kernel_rfl) (by kernel_rfl) (fun _ _ _ h => h) hS (fun wx hwx => by go_simp; try with_reducible rfl) ?_
    try simp only [Act.put, List.setIfInBounds_toArray, List.set_cons_zero, List.set_cons_succ]
    refine rtake 5 rfl (by rfl) (by kernel_rfl) (by kernel_rfl) (by kernel_rfl) (fun _ _ _ h => h) hS (fun wx hwx => by go_simp; try with_reducible rfl) ?_
    try simp only [Act.put, List.setIfInBounds_toArray, List.set_cons_zero, List.set_cons_succ]
    refine rtake 6 rfl (by rfl) (by kernel_rfl) (by kernel_rfl) (by kernel_rfl) (fun _ _ _ h => h) hS (fun wx hwx => by go_simp; try with_reducible rfl) ?_
    try simp only [Act.put, List.setIfInBounds_toArray, List.set_cons_zero, List.set_cons_succ]
    refine rtake 9 rfl (by rfl) (by kernel_rfl) (by kernel_rfl) (by kernel_rfl) (fun _ _ _ h => h) hS (fun wx hwx => by go_simp; try with_reducible rfl) ?_
    try simp only [Act.put, List.setIfInBounds_toArray, List.set_cons_zero, List.set_cons_succ]
    refine rtake 10 rfl (by rfl) (by kernel_rfl) (by kernel_rfl) (by kernel_rfl) (fun _ _ _ h => h) hS (fun wx hwx => by go_simp; try with_reducible rfl) ?_
    try simp only [Act.put, List.setIfInBounds_toArray, List.set_cons_zero, List.set_cons_succ]
    refine rcall 7 rfl (by kernel_rfl) (by rfl) (fun K' hK => ?_)
    go_simp
    refine (clone_str b WD hb).mono ?_
    rintro e w1 ⟨rfl, bq⟩
    replace hbd := bnext hbd bq
    have hB1 := HB.out.below hbd
    have hS1 := hB1.cell 128 _ (lk_count H64.out)
    refine hK.out _ _ hS1 ?_
    clear hK K' hS bq
    rename w1.cell? _ = _ => hS
    try simp only [Act.put, List.setIfInBounds_toArray, List.set_cons_zero, List.set_cons_succ]
    refine rtake 8 rfl (by rfl) (by kernel_rfl) (by kernel_rfl) (by kernel_rfl) (fun _ _ _ h => h) hS (fun wx hwx => by exact exec_build_any _ _ rfl _ rfl (frK.enc (f, b)).toArray (by kernel_rfl)) ?_
    try simp only [Act.put, List.setIfInBounds_toArray, List.set_cons_zero, List.set_cons_succ]
    refine rtake 11 rfl (by rfl) (by kernel_rfl) (by kernel_rfl) (by kernel_rfl) (fun _ _ _ h => h) hS (fun wx hwx => by go_simp; try with_reducible rfl) ?_
    try simp only [Act.put, List.setIfInBounds_toArray, List.set_cons_zero, List.set_cons_succ]
    have hB2 := lk_put H64.out n hn2 (f, b) hB1
    have ho2 := (Only.of_below g hbd).cells (frK.enc (f, b)) (n * 2)
    refine rcall 12 rfl (by kernel_rfl) (by rfl) (fun K' hK => ?_)
    refine wp_store_mid _ _ _ rfl g (n * 2) (frK.enc (f, b)).toArray (by rfl) (by rfl) (hB1.there (n * 2) 2 (by rw [lk_len H64.out]; omega)) (by kernel_rfl) (all_oneCell_toArray (frK.one (f, b))) ?_
    change K' _ (w1.setCells g (n * 2) (frK.enc (f, b)))
    have H64b := hid (show (rs.set n (f, b)).length = 64 by rw [List.length_set]; exact H64.out)
    have hS2 := hB2.cell 128 _ (lk_count H64b.out)
    generalize w1.setCells g (n * 2) (frK.enc (f, b)) = W2 at *
    refine hK.out _ _ hS2 ?_
    clear hK K' hS hB1 HB hbd
    try simp only [Act.put, List.setIfInBounds_toArray, List.set_cons_zero, List.set_cons_succ]
    refine wpAnyH_done (by kernel_rfl) ?_ _
    have hf2 := hB2.free 128
    have hw1 : IntKind.i64.wrap ((n : Int) + 1) = (n : Int) + 1 := by rw [IntKind.wrap_i64]; omega
    have hB3 := hB2.set 128 (.int .i64 ((n : Int) + 1))
    rw [lk_setc H64b.out] at hB3
    have HO := hid (ho2.cell 128 (.int .i64 ((n : Int) + 1)))
    have HA := hid (lk_shut (s := { s with q := s.q ++ [(f, b)] }) H64b.out (by rw [List.length_append, HN.out]; exact hB3) (by
      have h := take_set_end HT.out (by rw [HN.out, H64.out]; exact hn2) (f, b)
      rw [HN.out] at h
      exact h))
    clear hB2 hB3 ho2
    go_wp2_with fail
    go_ret
    exact ⟨rfl, HA.out, HO.out⟩

theorem ownPutL : CPutL obL := by
  rintro g F s f b w ⟨FA, rfl⟩ hin hf hb
  refine (put_any FA hin f b hb).mono ?_
  rintro e w' ⟨rfl, h1, h2⟩
  exact ⟨rfl, obL_goes h1 h2⟩

set_option maxRecDepth 100000 in
set_option maxHeartbeats 8000000 in
theorem ownTwcL : CTwcL obL := by
  rintro g F s i w ⟨FA, rfl⟩ hin hi
  have HL := hid (look_any FA hin.1 i)
  rcases isL_split s i with hno | ⟨I, rfl, hI⟩
  · have hE : twiceE s i = 8 := by unfold twiceE; rw [hno]; rfl
    have hL : twiceL s i = s := by unfold twiceL; rw [hno]; rfl
    rw [hE, hL]
    rw [hno] at HL
    have HA := hid FA
    clear FA hE hL
    go_enter Try.func15, Try.ntmps15
    go_wp2_with fail
    refine HL.out.mono ?_
    rintro e w1 ⟨rfl, bq⟩
    go_wp2_with fail
    go_ret
    exact ⟨rfl, obL_goes (HA.out.below bq) (Only.of_below g bq)⟩
  · have hE : twiceE s (I : Int) = putE s s.q[I].2 := by unfold twiceE; rw [isL_yes hI, if_pos rfl, atL_get hI]
    have hL : twiceL s (I : Int) = putL' s s.q[I].1 s.q[I].2 := by unfold twiceL; rw [isL_yes hI, if_pos rfl, atL_get hI]
    rw [hE, hL]
    rw [lookL_get hI, isL_yes hI] at HL
    have HA := hid FA
    have hsz := hin.2.1 s.q[I] (List.getElem_mem hI)
    clear FA hE hL
    obtain ⟨X, hX⟩ : ∃ X, s.q[I] = X := ⟨_, rfl⟩
    rw [hX] at hsz HL ⊢
    clear hX
    go_enter Try.func15, Try.ntmps15
    go_wp2_with fail
    refine HL.out.mono ?_
    rintro e w1 ⟨rfl, bq⟩
    go_wp2_with fail
    refine (put_any (HA.out.below bq) hin X.1 X.2 (by omega)).mono ?_
    rintro e w2 ⟨rfl, h1, h2⟩
    go_wp2_with fail
    go_ret
    exact ⟨rfl, obL_goes h1 ((Only.of_below g bq).trans h2)⟩

end Go.Proofs.Ytehnhkjeijbliaa
