/- The program's own of chapter 13: who was heard, and where; leads, leader, One (gen_decown.py). -/
import Derived.Test.YtclpblhjfaodbaaDecRow
import Derived.Test.YtclpblhjfaodbaaVecOwn2
import Derived.Test.YtclpblhjfaodbaaHop
namespace Go.Proofs.Ytclpblhjfaodbaa
open Go.RowKit Go.Proofs
set_option maxRecDepth 50000
set_option linter.unusedVariables false
set_option linter.unusedSimpArgs false

/-- Those of the first n that are there; their places. -/
def heardO (os : List (Option Vc)) : Nat → List Vc
  | 0 => []
  | n + 1 => match oat os n with
    | none => heardO os n
    | some v => heardO os n ++ [v]
def placeO (os : List (Option Vc)) : Nat → List Int
  | 0 => []
  | n + 1 => match oat os n with
    | none => placeO os n
    | some _ => placeO os n ++ [(n : Int)]
theorem heardO_none {os : List (Option Vc)} {n : Nat} (h : oat os n = none) : heardO os (n + 1) = heardO os n := by
  show (match oat os n with | none => heardO os n | some v => heardO os n ++ [v]) = _
  rw [h]
theorem heardO_some {os : List (Option Vc)} {n : Nat} {v : Vc} (h : oat os n = some v) : heardO os (n + 1) = heardO os n ++ [v] := by
  show (match oat os n with | none => heardO os n | some v => heardO os n ++ [v]) = _
  rw [h]
theorem placeO_none {os : List (Option Vc)} {n : Nat} (h : oat os n = none) : placeO os (n + 1) = placeO os n := by
  show (match oat os n with | none => placeO os n | some _ => placeO os n ++ [(n : Int)]) = _
  rw [h]
theorem placeO_some {os : List (Option Vc)} {n : Nat} {v : Vc} (h : oat os n = some v) : placeO os (n + 1) = placeO os n ++ [(n : Int)] := by
  show (match oat os n with | none => placeO os n | some _ => placeO os n ++ [(n : Int)]) = _
  rw [h]
theorem placeO_length (os : List (Option Vc)) : ∀ n, (placeO os n).length = (heardO os n).length
  | 0 => rfl
  | n + 1 => by
    have ih := placeO_length os n
    cases h : oat os n with
    | none => rw [heardO_none h, placeO_none h]; exact ih
    | some v => rw [heardO_some h, placeO_some h, List.length_append, List.length_append, ih]; rfl
theorem heardO_le (os : List (Option Vc)) : ∀ n, (heardO os n).length ≤ n
  | 0 => Nat.le_refl _
  | n + 1 => by
    have ih := heardO_le os n
    cases h : oat os n with
    | none => rw [heardO_none h]; omega
    | some v => rw [heardO_some h, List.length_append, List.length_singleton]; omega
theorem heardO_mem {os : List (Option Vc)} : ∀ {n : Nat} {a : Vc}, a ∈ heardO os n → some a ∈ os
  | 0, a, h => by cases h
  | n + 1, a, h => by
    cases hv : oat os n with
    | none => rw [heardO_none hv] at h; exact heardO_mem h
    | some v =>
      rw [heardO_some hv] at h
      rcases List.mem_append.1 h with h | h
      · exact heardO_mem h
      · obtain rfl := List.mem_singleton.1 h
        have hn : n < os.length := Decidable.byContradiction fun hn => by rw [oat_over os n (by omega)] at hv; cases hv
        rw [oat_get os n hn] at hv
        rw [← hv]
        exact List.getElem_mem hn
theorem bestG_app (l m : List Vc) : ∀ n, n ≤ l.length → bestG (l ++ m) n = bestG l n
  | 0, _ => rfl
  | n + 1, h => by
    have ih := bestG_app l m n (by omega)
    have hv : ∀ i : Nat, i < l.length → vat (l ++ m) (i : Int) = vat l (i : Int) := fun i hi => by
      rw [vat_get _ i (by rw [List.length_append]; omega), vat_get l i hi, List.getElem_append_left hi]
    rcases bestG_range l n with ⟨h0, h1⟩ | ⟨h0, h1⟩
    · rw [bestG_first l n (by omega), bestG_first (l ++ m) n (by rw [ih]; omega)]
    · obtain ⟨K, hK⟩ := Int.eq_ofNat_of_zero_le h0
      have e1 : vat (l ++ m) (bestG (l ++ m) n) = vat l (bestG l n) := by rw [ih, hK]; exact hv K (by omega)
      have e2 := hv n (by omega)
      by_cases hc : 0 < compV (vat l (bestG l n)) (vat l n)
      · rw [bestG_later l n (by omega) hc, bestG_later (l ++ m) n (by rw [ih]; omega) (by rw [e1, e2]; exact hc)]
      · rw [bestG_stays l n (by omega) hc, bestG_stays (l ++ m) n (by rw [ih]; omega) (by rw [e1, e2]; exact hc), ih]
/-- The best one's place: the place of the best one of those that were heard. -/
theorem bestO_heard (os : List (Option Vc)) : ∀ n, ((heardO os n = [] ∧ bestO os n = -1) ∨ ∃ K : Nat, ∃ h : K < (heardO os n).length, ∃ hp : K < (placeO os n).length, bestG (heardO os n) (heardO os n).length = (K : Int) ∧ (placeO os n)[K] = bestO os n ∧ 0 ≤ bestO os n ∧ oat os (bestO os n) = some (heardO os n)[K])
  | 0 => .inl ⟨rfl, rfl⟩
  | n + 1 => by
    have ih := bestO_heard os n
    have hpl := placeO_length os n
    cases hv : oat os n with
    | none => rw [heardO_none hv, placeO_none hv, bestO_none hv]; exact ih
    | some v =>
      rw [heardO_some hv, placeO_some hv]
      right
      rcases ih with ⟨h1, h2⟩ | ⟨K, hK, hKp, h1, h2, h3, h4⟩
      · rw [bestO_first hv (by omega)]
        have hp0 : placeO os n = [] := List.eq_nil_of_length_eq_zero (by rw [hpl, h1]; rfl)
        rw [h1, hp0]
        exact ⟨0, by simp, by simp, rfl, rfl, by omega, hv⟩
      · have hlen : (heardO os n ++ [v]).length = (heardO os n).length + 1 := by simp
        have hg := bestG_app (heardO os n) [v] (heardO os n).length (Nat.le_refl _)
        have e1 : vat (heardO os n ++ [v]) (bestG (heardO os n ++ [v]) (heardO os n).length) = (heardO os n)[K] := by rw [hg, h1, vat_get _ K (by omega), List.getElem_append_left hK]
        have e2 : vat (heardO os n ++ [v]) (((heardO os n).length : Nat) : Int) = v := by rw [vat_get _ _ (by omega), List.getElem_append_right (Nat.le_refl _)]; simp
        have hge : ¬ bestG (heardO os n ++ [v]) (heardO os n).length < 0 := by rw [hg, h1]; omega
        by_cases hc : 0 < compV (heardO os n)[K] v
        · rw [bestO_later hv (by omega) h4 hc]
          refine ⟨(heardO os n).length, by omega, by rw [List.length_append, hpl]; simp, by rw [hlen]; exact bestG_later _ _ hge (by rw [e1, e2]; exact hc), ?_, by omega, ?_⟩
          · rw [List.getElem_append_right (by omega)]; simp
          · rw [hv, List.getElem_append_right (Nat.le_refl _)]; simp
        · rw [bestO_stays hv (by omega) h4 hc]
          refine ⟨K, by omega, by rw [List.length_append]; omega, by rw [hlen, bestG_stays _ _ hge (by rw [e1, e2]; exact hc), hg, h1], ?_, h3, ?_⟩
          · rw [List.getElem_append_left hKp]; exact h2
          · rw [h4, List.getElem_append_left hK]
theorem range_below {w w' : World} {b off : Nat} {xs : List Value} (h : w.rangeAt b off xs) (hlt : b < w.heap.size) (hb : Below w.heap.size w w') : w'.rangeAt b off xs := fun j v hj => by rw [hb.cell (p := ⟨b, off + j, none⟩) hlt]; exact h j v hj

set_option maxRecDepth 100000 in
set_option maxHeartbeats 8000000 in
theorem leads_any (d : Vc) (o : Option Vc) (p : Option Addr) (w : World) (hd : I64 d.st) (hP : PAt w p o) (ho : ∀ a, o = some a → I64 a.st) :
    Calls Try.prog 25 #[.agg (vcL d).toArray, .pointer p] w fun e w' => e = .returned (.bool (beatsV d o)) ∧ Below w.heap.size w w' := by
  have hB := Box.new w (vcL d) 28
  have hb := bnew w (Obj.cells (vcL d).toArray 28)
  replace hP := hP.below hb
  go_enter Try.func25, Try.ntmps25
  go_upto_region 1 with fail
  change Code.wp Try.prog _ _ _ (w.alloc (Obj.cells (vcL d).toArray 28))
  generalize w.alloc (Obj.cells (vcL d).toArray 28) = W at *
  generalize hG : w.heap.size = G at *
  rw [← hG] at hb
  cases o with
  | none =>
    cases p with
    | some x => exact hP.elim
    | none =>
      refine wp_region_held_drew (S := fun w' => Below W.drew.heap.size W.drew w') (by kernel_rfl) (Below.refl _ _) ?_
      intro hHeld
      have hbd := Below.drew (Below.refl W.heap.size W)
      replace hb := bnext hb hbd
      clear hbd
      generalize W.drew = wd at *
      refine rtake 0 rfl (by rfl) (by kernel_rfl) (by kernel_rfl) (by kernel_rfl) (fun _ _ _ h => h) hHeld (fun wx hwx => by go_simp; try with_reducible rfl) ?_
      try simp only [Act.put, List.setIfInBounds_toArray, List.set_cons_zero, List.set_cons_succ]
      refine rtake 1 rfl (by rfl) (by kernel_rfl) (by kernel_rfl) (by kernel_rfl) (fun _ _ _ h => h) hHeld (fun wx hwx => by go_simp; try with_reducible rfl) ?_
      try simp only [Act.put, List.setIfInBounds_toArray, List.set_cons_zero, List.set_cons_succ]
      refine rtake 2 rfl (by rfl) (by kernel_rfl) (by kernel_rfl) (by kernel_rfl) (fun _ _ _ h => h) hHeld (fun wx hwx => by go_simp; try with_reducible rfl) ?_
      try simp only [Act.put, List.setIfInBounds_toArray, List.set_cons_zero, List.set_cons_succ]
      refine rpass 3 rfl (by rfl) (by kernel_rfl) (by kernel_rfl) (by kernel_rfl) (fun _ _ _ h => h) hHeld ?_
      try simp only [Act.put, List.setIfInBounds_toArray, List.set_cons_zero, List.set_cons_succ]
      refine rpass 4 rfl (by rfl) (by kernel_rfl) (by kernel_rfl) (by kernel_rfl) (fun _ _ _ h => h) hHeld ?_
      try simp only [Act.put, List.setIfInBounds_toArray, List.set_cons_zero, List.set_cons_succ]
      refine rpass 5 rfl (by rfl) (by kernel_rfl) (by kernel_rfl) (by kernel_rfl) (fun _ _ _ h => h) hHeld ?_
      try simp only [Act.put, List.setIfInBounds_toArray, List.set_cons_zero, List.set_cons_succ]
      refine rpass 6 rfl (by rfl) (by kernel_rfl) (by kernel_rfl) (by kernel_rfl) (fun _ _ _ h => h) hHeld ?_
      try simp only [Act.put, List.setIfInBounds_toArray, List.set_cons_zero, List.set_cons_succ]
      refine rpass 7 rfl (by rfl) (by kernel_rfl) (by kernel_rfl) (by kernel_rfl) (fun _ _ _ h => h) hHeld ?_
      try simp only [Act.put, List.setIfInBounds_toArray, List.set_cons_zero, List.set_cons_succ]
      refine rpass 8 rfl (by rfl) (by kernel_rfl) (by kernel_rfl) (by kernel_rfl) (fun _ _ _ h => h) hHeld ?_
      try simp only [Act.put, List.setIfInBounds_toArray, List.set_cons_zero, List.set_cons_succ]
      refine rtake 9 rfl (by rfl) (by kernel_rfl) (by kernel_rfl) (by kernel_rfl) (fun _ _ _ h => h) hHeld (fun wx hwx => by go_simp; try with_reducible rfl) ?_
      try simp only [Act.put, List.setIfInBounds_toArray, List.set_cons_zero, List.set_cons_succ]
      refine rtake 10 rfl (by rfl) (by kernel_rfl) (by kernel_rfl) (by kernel_rfl) (fun _ _ _ h => h) hHeld (fun wx hwx => by go_simp; try with_reducible rfl) ?_
      try simp only [Act.put, List.setIfInBounds_toArray, List.set_cons_zero, List.set_cons_succ]
      refine wpAnyH_done (by kernel_rfl) ?_ _
      clear hHeld
      go_wp2_with fail
      go_ret
      exact ⟨rfl, hb⟩
  | some a =>
    cases p with
    | none => exact hP.elim
    | some x =>
      obtain ⟨b, off, rfl, hbl, hR⟩ := hP
      have HC := hid fun (wx : World) (h : Below W.heap.size W wx) => range_below hR hbl h
      have hX0 := fun w => ownCompS d a w hd (ho a rfl)
      have hBV := hid (show beatsV d (some a) = decide (compV d a < 0) from rfl)
      clear hR hbl hd ho
      generalize compV d a = X at *
      have hbW := Below.refl W.heap.size W
      refine wp_region_held_drew (S := fun w' => Below W.drew.heap.size W.drew w') (by kernel_rfl) (Below.refl _ _) ?_
      intro hHeld
      have hbd := Below.drew (Below.refl W.heap.size W)
      replace hb := bnext hb hbd
      replace hB := hB.below hbd
      replace hbW := bnext hbW hbd
      clear hbd
      generalize W.drew = wd at *
      refine rtake 0 rfl (by rfl) (by kernel_rfl) (by kernel_rfl) (by kernel_rfl) (fun _ _ _ h => h) hHeld (fun wx hwx => by go_simp; try with_reducible rfl) ?_
      try simp only [Act.put, List.setIfInBounds_toArray, List.set_cons_zero, List.set_cons_succ]
      refine rtake 1 rfl (by rfl) (by kernel_rfl) (by kernel_rfl) (by kernel_rfl) (fun _ _ _ h => h) hHeld (fun wx hwx => by go_simp; try with_reducible rfl) ?_
      try simp only [Act.put, List.setIfInBounds_toArray, List.set_cons_zero, List.set_cons_succ]
      refine rtake 2 rfl (by rfl) (by kernel_rfl) (by kernel_rfl) (by kernel_rfl) (fun _ _ _ h => h) hHeld (fun wx hwx => by go_simp; try with_reducible rfl) ?_
      try simp only [Act.put, List.setIfInBounds_toArray, List.set_cons_zero, List.set_cons_succ]
      refine rtake 3 rfl (by rfl) (by kernel_rfl) (by kernel_rfl) (by kernel_rfl) (fun _ _ _ h => h) hHeld (fun wx hwx => exec_load_vec _ rfl G rfl d _ (hB.below hwx)) ?_
      try simp only [Act.put, List.setIfInBounds_toArray, List.set_cons_zero, List.set_cons_succ]
      refine rtake 4 rfl (by rfl) (by kernel_rfl) (by kernel_rfl) (by kernel_rfl) (fun _ _ _ h => h) hHeld (fun wx hwx => by go_simp; try with_reducible rfl) ?_
      try simp only [Act.put, List.setIfInBounds_toArray, List.set_cons_zero, List.set_cons_succ]
      refine rtake 5 rfl (by rfl) (by kernel_rfl) (by kernel_rfl) (by kernel_rfl) (fun _ _ _ h => h) hHeld (fun wx hwx => by go_simp; try with_reducible rfl) ?_
      try simp only [Act.put, List.setIfInBounds_toArray, List.set_cons_zero, List.set_cons_succ]
      refine rtake 6 rfl (by rfl) (by kernel_rfl) (by kernel_rfl) (by kernel_rfl) (fun _ _ _ h => h) hHeld (fun wx hwx => exec_load_vec_at _ rfl b off rfl a (HC.out _ (bnext hbW hwx))) ?_
      try simp only [Act.put, List.setIfInBounds_toArray, List.set_cons_zero, List.set_cons_succ]
      refine rcall 7 rfl (by kernel_rfl) (by rfl) (fun K' hK => ?_)
      go_simp
      refine (hX0 _).mono ?_
      rintro e wq ⟨rfl, bq⟩
      refine hK.out _ _ bq ?_
      clear hK K'
      refine wpAnyH_mono (S' := fun w' => Below wq.heap.size wq w') (fun w' h => bnext bq h) _ _ _ _ ?_
      replace hb := bnext hb bq
      clear hHeld bq
      have hHeld := Below.refl wq.heap.size wq
      try simp only [Act.put, List.setIfInBounds_toArray, List.set_cons_zero, List.set_cons_succ]
      refine rtake 8 rfl (by rfl) (by kernel_rfl) (by kernel_rfl) (by kernel_rfl) (fun _ _ _ h => h) hHeld (fun wx hwx => by go_simp; try with_reducible rfl) ?_
      try simp only [Act.put, List.setIfInBounds_toArray, List.set_cons_zero, List.set_cons_succ]
      refine rtake 9 rfl (by rfl) (by kernel_rfl) (by kernel_rfl) (by kernel_rfl) (fun _ _ _ h => h) hHeld (fun wx hwx => by go_simp; try with_reducible rfl) ?_
      try simp only [Act.put, List.setIfInBounds_toArray, List.set_cons_zero, List.set_cons_succ]
      refine rtake 10 rfl (by rfl) (by kernel_rfl) (by kernel_rfl) (by kernel_rfl) (fun _ _ _ h => h) hHeld (fun wx hwx => by go_simp; try with_reducible rfl) ?_
      try simp only [Act.put, List.setIfInBounds_toArray, List.set_cons_zero, List.set_cons_succ]
      refine wpAnyH_done (by kernel_rfl) ?_ _
      clear hHeld
      go_wp2_with fail
      go_ret
      exact ⟨ret_bool hBV.out.symm, hb⟩

set_option maxRecDepth 100000 in
set_option maxHeartbeats 8000000 in
theorem leader_any (d : Vc) (o : Option Vc) (p : Option Addr) (w : World) (hd : I64 d.st) (hP : PAt w p o) (ho : ∀ a, o = some a → I64 a.st) :
    Calls Try.prog 24 #[.agg (vcL d).toArray, .pointer p] w fun e w' => e = .returned (.int .i64 (if beatsV d o then 1 else 4)) ∧ Below w.heap.size w w' := by
  obtain ⟨Y, hY⟩ : ∃ Y : Int, Y = (if beatsV d o then 1 else 4) := ⟨_, rfl⟩
  rw [← hY]
  have HY := hid hY
  clear hY
  have hB := Box.new w (vcL d) 28
  have hb := bnew w (Obj.cells (vcL d).toArray 28)
  replace hP := hP.below hb
  have HL := hid fun (wx : World) (h : PAt wx p o) => leads_any d o p wx hd h ho
  clear hd ho
  go_enter Try.func24, Try.ntmps24
  go_upto_region 1 with fail
  change Code.wp Try.prog _ _ _ (w.alloc (Obj.cells (vcL d).toArray 28))
  generalize w.alloc (Obj.cells (vcL d).toArray 28) = W at *
  generalize hG : w.heap.size = G at *
  rw [← hG] at hb
  go_wp2_with (guard_target =~ wpList _ _ _ (⟨some 5, _, _, _, _, _⟩ :: _) _ _; refine wpList_load_vec (op := ⟨some 5, .load _ _, _, _, _, _⟩) (by rfl) _ (by rfl) G (by rfl) (d) _ hB ?_)
  refine (HL.out _ hP).mono ?_
  rintro e w1 ⟨rfl, b1⟩
  replace hb := bnext hb b1
  clear HL hP hB b1
  cases hbe : beatsV d o
  · have HZ := hid (show Y = 4 from HY.out.trans (by rw [hbe]; rfl))
    clear HY hbe
    go_wp2_with fail
    go_ret
    subst hG
    exact ⟨ret_int HZ.out.symm, hb⟩
  · have HZ := hid (show Y = 1 from HY.out.trans (by rw [hbe]; rfl))
    clear HY hbe
    go_wp2_with fail
    go_ret
    subst hG
    exact ⟨ret_int HZ.out.symm, hb⟩

set_option maxRecDepth 100000 in
set_option maxHeartbeats 8000000 in
theorem one_any (d : Vc) (lis here : Bool) (ob op : Option Vc) (pb pp : Option Addr) (w : World) (hd : I64 d.st) (hPb : PAt w pb ob) (hPp : PAt w pp op) (hob : ∀ a, ob = some a → I64 a.st) (hop : ∀ a, op = some a → I64 a.st) :
    Calls Try.prog 17 #[.agg (vcL d).toArray, .bool lis, .pointer pb, .pointer pp, .bool here] w fun e w' => e = .returned (.int .i64 (oneD d lis ob op here)) ∧ Below w.heap.size w w' := by
  have hB := Box.new w (vcL d) 28
  have hb := bnew w (Obj.cells (vcL d).toArray 28)
  replace hPb := hPb.below hb
  replace hPp := hPp.below hb
  have HL := hid fun (wx : World) (h : PAt wx pp op) => leader_any d op pp wx hd h hop
  have HLb := hid fun (wx : World) (h : PAt wx pb ob) => leads_any d ob pb wx hd h hob
  go_enter Try.func17, Try.ntmps17
  go_upto_region 1 with fail
  change Code.wp Try.prog _ _ _ (w.alloc (Obj.cells (vcL d).toArray 28))
  generalize w.alloc (Obj.cells (vcL d).toArray 28) = W at *
  generalize hG : w.heap.size = G at *
  rw [← hG] at hb
  clear hd
  have c1 := hB.cell 1 _ rfl
  refine wp_scope_hop2 (fun _ _ d _ _ h => by cases d <;> exact h) ?_
  intro Q' hret hgo hpan
  cases op with
  | none =>
    cases pp with
    | some x => exact hPp.elim
    | none =>
      cases lis
      · have hV0 := hid (show oneD d false ob none here = _ from if_neg (by decide))
        by_cases hq : d.qc ≤ 127
        · have hV := hid (hV0.out.trans (if_pos hq))
          go_wp2_with (guard_target =~ wpList _ _ _ (⟨some 21, _, _, _, _, _⟩ :: _) _ _; refine wpList_load_vec (op := ⟨some 21, .load _ _, _, _, _, _⟩) (by rfl) _ (by rfl) G (by rfl) (d) _ hB ?_)
          refine (HL.out _ hPp).mono ?_
          rintro e w1 ⟨rfl, b1⟩
          generalize (if beatsV d none = true then (1 : Int) else 4) = Y at *
          replace hb := bnext hb b1
          clear c1 hB hPp hPb HL HLb b1
          go_wp2_with fail
          go_step3
          refine hgo 0 _ _ _ rfl ?_
          go_wp2_with fail
          rw [Exit.noGoto_ret]
          go_ret
          subst hG
          exact ⟨ret_int hV.out.symm, hb⟩
        · have hV1 := hid (hV0.out.trans (if_neg hq))
          go_wp2_with (guard_target =~ wpList _ _ _ (⟨some 24, _, _, _, _, _⟩ :: _) _ _; refine wpList_load_vec (op := ⟨some 24, .load _ _, _, _, _, _⟩) (by rfl) _ (by rfl) G (by rfl) (d) _ hB ?_)
          refine (HLb.out _ hPb).mono ?_
          rintro e w1 ⟨rfl, b1⟩
          replace hb := bnext hb b1
          replace hPp := hPp.below b1
          replace hPb := hPb.below b1
          have HBE := hid (show beatsV d ob = beatsV d ob from rfl)
          clear c1 hB HL HLb b1 hq
          cases hbe : beatsV d ob
          · have hV2 := hid (hV1.out.trans (if_neg (fun h => Bool.false_ne_true (hbe.symm.trans h))))
            have hbeat := hid hbe
            clear HBE hbe
            cases here
            · have hV3 := hid hV2.out
              go_upto_region 10 with fail
              refine wp_region_held_drew (S := fun w' => Below w1.drew.heap.size w1.drew w') (by kernel_rfl) (Below.refl _ _) ?_
              intro hHeld
              have hbd := Below.drew (Below.refl w1.heap.size w1)
              replace hb := bnext hb hbd
              clear hbd
              generalize w1.drew = wd at *
              refine rtake 0 rfl (by rfl) (by kernel_rfl) (by kernel_rfl) (by kernel_rfl) (fun c a w h => hpan c a _ _ w h) hHeld (fun wx hwx => by go_simp; try with_reducible rfl) ?_
              try simp only [Act.put, List.setIfInBounds_toArray, List.set_cons_zero, List.set_cons_succ]
              refine rtake 1 rfl (by rfl) (by kernel_rfl) (by kernel_rfl) (by kernel_rfl) (fun c a w h => hpan c a _ _ w h) hHeld (fun wx hwx => by go_simp; try with_reducible rfl) ?_
              try simp only [Act.put, List.setIfInBounds_toArray, List.set_cons_zero, List.set_cons_succ]
              refine rtake 2 rfl (by rfl) (by kernel_rfl) (by kernel_rfl) (by kernel_rfl) (fun c a w h => hpan c a _ _ w h) hHeld (fun wx hwx => by go_simp; try with_reducible rfl) ?_
              try simp only [Act.put, List.setIfInBounds_toArray, List.set_cons_zero, List.set_cons_succ]
              refine rpass 3 rfl (by rfl) (by kernel_rfl) (by kernel_rfl) (by kernel_rfl) (fun c a w h => hpan c a _ _ w h) hHeld ?_
              try simp only [Act.put, List.setIfInBounds_toArray, List.set_cons_zero, List.set_cons_succ]
              refine rpass 4 rfl (by rfl) (by kernel_rfl) (by kernel_rfl) (by kernel_rfl) (fun c a w h => hpan c a _ _ w h) hHeld ?_
              try simp only [Act.put, List.setIfInBounds_toArray, List.set_cons_zero, List.set_cons_succ]
              refine rpass 5 rfl (by rfl) (by kernel_rfl) (by kernel_rfl) (by kernel_rfl) (fun c a w h => hpan c a _ _ w h) hHeld ?_
              try simp only [Act.put, List.setIfInBounds_toArray, List.set_cons_zero, List.set_cons_succ]
              refine rpass 6 rfl (by rfl) (by kernel_rfl) (by kernel_rfl) (by kernel_rfl) (fun c a w h => hpan c a _ _ w h) hHeld ?_
              try simp only [Act.put, List.setIfInBounds_toArray, List.set_cons_zero, List.set_cons_succ]
              refine rpass 7 rfl (by rfl) (by kernel_rfl) (by kernel_rfl) (by kernel_rfl) (fun c a w h => hpan c a _ _ w h) hHeld ?_
              try simp only [Act.put, List.setIfInBounds_toArray, List.set_cons_zero, List.set_cons_succ]
              refine rpass 8 rfl (by rfl) (by kernel_rfl) (by kernel_rfl) (by kernel_rfl) (fun c a w h => hpan c a _ _ w h) hHeld ?_
              try simp only [Act.put, List.setIfInBounds_toArray, List.set_cons_zero, List.set_cons_succ]
              refine rpass 9 rfl (by rfl) (by kernel_rfl) (by kernel_rfl) (by kernel_rfl) (fun c a w h => hpan c a _ _ w h) hHeld ?_
              try simp only [Act.put, List.setIfInBounds_toArray, List.set_cons_zero, List.set_cons_succ]
              refine rpass 10 rfl (by rfl) (by kernel_rfl) (by kernel_rfl) (by kernel_rfl) (fun c a w h => hpan c a _ _ w h) hHeld ?_
              try simp only [Act.put, List.setIfInBounds_toArray, List.set_cons_zero, List.set_cons_succ]
              refine rtake 11 rfl (by rfl) (by kernel_rfl) (by kernel_rfl) (by kernel_rfl) (fun c a w h => hpan c a _ _ w h) hHeld (fun wx hwx => by go_simp; try with_reducible rfl) ?_
              try simp only [Act.put, List.setIfInBounds_toArray, List.set_cons_zero, List.set_cons_succ]
              refine wpAnyH_done (by kernel_rfl) ?_ _
              clear hHeld
              go_wp2_with fail
              refine wp_label ?_
              go_wp2_with fail
              refine hret _ _ ?_
              go_ret
              subst hG
              exact ⟨ret_int (hV3.out.trans (by cases ob <;> rfl)).symm, hb⟩
            · have hV3 := hid hV2.out
              go_wp2_with fail
              go_step3
              refine hgo 0 _ _ _ rfl ?_
              go_wp2_with fail
              rw [Exit.noGoto_ret]
              go_ret
              subst hG
              exact ⟨ret_int hV3.out.symm, hb⟩
          · have hV2 := hid (hV1.out.trans (if_pos hbe))
            clear HBE hbe
            go_wp2_with fail
            go_step3
            refine hgo 0 _ _ _ rfl ?_
            go_wp2_with fail
            rw [Exit.noGoto_ret]
            go_ret
            subst hG
            exact ⟨ret_int hV2.out.symm, hb⟩
      · have hV := hid (show oneD d true ob none here = 7 from if_pos rfl)
        clear c1 hB hPp hPb HL HLb
        go_wp2_with fail
        go_step3
        refine hgo 0 _ _ _ rfl ?_
        go_wp2_with fail
        rw [Exit.noGoto_ret]
        go_ret
        subst hG
        exact ⟨ret_int hV.out.symm, hb⟩
  | some a =>
    cases pp with
    | none => exact hPp.elim
    | some x =>
      have hV0 := hid (show oneD d lis ob (some a) here = _ from if_neg (by cases lis <;> simp))
      by_cases hq : d.qc ≤ 127
      · have hV := hid (hV0.out.trans (if_pos hq))
        go_wp2_with (guard_target =~ wpList _ _ _ (⟨some 21, _, _, _, _, _⟩ :: _) _ _; refine wpList_load_vec (op := ⟨some 21, .load _ _, _, _, _, _⟩) (by rfl) _ (by rfl) G (by rfl) (d) _ hB ?_)
        refine (HL.out _ hPp).mono ?_
        rintro e w1 ⟨rfl, b1⟩
        generalize (if beatsV d (some a) = true then (1 : Int) else 4) = Y at *
        replace hb := bnext hb b1
        clear c1 hB hPp hPb HL HLb b1
        go_wp2_with fail
        go_step3
        refine hgo 0 _ _ _ rfl ?_
        go_wp2_with fail
        rw [Exit.noGoto_ret]
        go_ret
        subst hG
        exact ⟨ret_int hV.out.symm, hb⟩
      · have hV1 := hid (hV0.out.trans (if_neg hq))
        go_wp2_with (guard_target =~ wpList _ _ _ (⟨some 24, _, _, _, _, _⟩ :: _) _ _; refine wpList_load_vec (op := ⟨some 24, .load _ _, _, _, _, _⟩) (by rfl) _ (by rfl) G (by rfl) (d) _ hB ?_)
        refine (HLb.out _ hPb).mono ?_
        rintro e w1 ⟨rfl, b1⟩
        replace hb := bnext hb b1
        replace hPp := hPp.below b1
        replace hPb := hPb.below b1
        have HBE := hid (show beatsV d ob = beatsV d ob from rfl)
        clear c1 hB HL HLb b1 hq
        cases hbe : beatsV d ob
        · have hV2 := hid (hV1.out.trans (if_neg (fun h => Bool.false_ne_true (hbe.symm.trans h))))
          have hbeat := hid hbe
          clear HBE hbe
          cases here
          · have hV3 := hid hV2.out
            obtain ⟨v, hv⟩ : ∃ v, ob = some v := by
              cases ob with
              | none => exact absurd hbeat.out.symm Bool.false_ne_true
              | some v => exact ⟨v, rfl⟩
            subst hv
            cases pb with
            | none => exact hPb.elim
            | some xb =>
              obtain ⟨b2, off2, rfl, hbl2, hR2⟩ := hPb
              obtain ⟨b3, off3, rfl, hbl3, hR3⟩ := hPp
              have HC2 := hid fun (wx : World) (h : Below w1.heap.size w1 wx) => range_below hR2 hbl2 h
              have HC3 := hid fun (wx : World) (h : Below w1.heap.size w1 wx) => range_below hR3 hbl3 h
              have hX0 := fun w => ownCompS v a w (hob v rfl) (hop a rfl)
              have hNV := hid (show nearV (some v) (some a) = decide (compV v a = -1) from rfl)
              clear hR2 hR3 hbl2 hbl3 hob hop
              generalize compV v a = X at *
              generalize nearV (some v) (some a) = NV at *
              go_upto_region 10 with fail
              have hbW := Below.refl w1.heap.size w1
              refine wp_region_held_drew (S := fun w' => Below w1.drew.heap.size w1.drew w') (by kernel_rfl) (Below.refl _ _) ?_
              intro hHeld
              have hbd := Below.drew (Below.refl w1.heap.size w1)
              replace hb := bnext hb hbd
              replace hbW := bnext hbW hbd
              clear hbd
              generalize w1.drew = wd at *
              refine rtake 0 rfl (by rfl) (by kernel_rfl) (by kernel_rfl) (by kernel_rfl) (fun c a w h => hpan c a _ _ w h) hHeld (fun wx hwx => by go_simp; try with_reducible rfl) ?_
              try simp only [Act.put, List.setIfInBounds_toArray, List.set_cons_zero, List.set_cons_succ]
              refine rtake 1 rfl (by rfl) (by kernel_rfl) (by kernel_rfl) (by kernel_rfl) (fun c a w h => hpan c a _ _ w h) hHeld (fun wx hwx => by go_simp; try with_reducible rfl) ?_
              try simp only [Act.put, List.setIfInBounds_toArray, List.set_cons_zero, List.set_cons_succ]
              refine rtake 2 rfl (by rfl) (by kernel_rfl) (by kernel_rfl) (by kernel_rfl) (fun c a w h => hpan c a _ _ w h) hHeld (fun wx hwx => by go_simp; try with_reducible rfl) ?_
              try simp only [Act.put, List.setIfInBounds_toArray, List.set_cons_zero, List.set_cons_succ]
              refine rtake 3 rfl (by rfl) (by kernel_rfl) (by kernel_rfl) (by kernel_rfl) (fun c a w h => hpan c a _ _ w h) hHeld (fun wx hwx => by go_simp; try with_reducible rfl) ?_
              try simp only [Act.put, List.setIfInBounds_toArray, List.set_cons_zero, List.set_cons_succ]
              refine rtake 4 rfl (by rfl) (by kernel_rfl) (by kernel_rfl) (by kernel_rfl) (fun c a w h => hpan c a _ _ w h) hHeld (fun wx hwx => by go_simp; try with_reducible rfl) ?_
              try simp only [Act.put, List.setIfInBounds_toArray, List.set_cons_zero, List.set_cons_succ]
              refine rtake 5 rfl (by rfl) (by kernel_rfl) (by kernel_rfl) (by kernel_rfl) (fun c a w h => hpan c a _ _ w h) hHeld (fun wx hwx => exec_load_vec_at _ rfl b2 off2 rfl v (HC2.out _ (bnext hbW hwx))) ?_
              try simp only [Act.put, List.setIfInBounds_toArray, List.set_cons_zero, List.set_cons_succ]
              refine rtake 6 rfl (by rfl) (by kernel_rfl) (by kernel_rfl) (by kernel_rfl) (fun c a w h => hpan c a _ _ w h) hHeld (fun wx hwx => by go_simp; try with_reducible rfl) ?_
              try simp only [Act.put, List.setIfInBounds_toArray, List.set_cons_zero, List.set_cons_succ]
              refine rtake 7 rfl (by rfl) (by kernel_rfl) (by kernel_rfl) (by kernel_rfl) (fun c a w h => hpan c a _ _ w h) hHeld (fun wx hwx => by go_simp; try with_reducible rfl) ?_
              try simp only [Act.put, List.setIfInBounds_toArray, List.set_cons_zero, List.set_cons_succ]
              refine rtake 8 rfl (by rfl) (by kernel_rfl) (by kernel_rfl) (by kernel_rfl) (fun c a w h => hpan c a _ _ w h) hHeld (fun wx hwx => exec_load_vec_at _ rfl b3 off3 rfl a (HC3.out _ (bnext hbW hwx))) ?_
              try simp only [Act.put, List.setIfInBounds_toArray, List.set_cons_zero, List.set_cons_succ]
              refine rcall 9 rfl (by kernel_rfl) (by rfl) (fun K' hK => ?_)
              go_simp
              refine (hX0 _).mono ?_
              rintro e wq ⟨rfl, bq⟩
              refine hK.out _ _ bq ?_
              clear hK K'
              refine wpAnyH_mono (S' := fun w' => Below wq.heap.size wq w') (fun w' h => bnext bq h) _ _ _ _ ?_
              replace hb := bnext hb bq
              clear hHeld bq
              have hHeld := Below.refl wq.heap.size wq
              try simp only [Act.put, List.setIfInBounds_toArray, List.set_cons_zero, List.set_cons_succ]
              by_cases hx : X = -1
              · have hV4 := hid (show oneD d lis (some v) (some a) false = 5 from hV3.out.trans (by rw [hNV.out, decide_eq_true hx]; rfl))
                subst hx
                clear HC2 HC3 hV0 hV1 hV2 hV3 hNV
                refine rtake 10 rfl (by rfl) (by kernel_rfl) (by kernel_rfl) (by kernel_rfl) (fun c a w h => hpan c a _ _ w h) hHeld (fun wx hwx => by go_simp; try with_reducible rfl) ?_
                try simp only [Act.put, List.setIfInBounds_toArray, List.set_cons_zero, List.set_cons_succ]
                refine rtake 11 rfl (by rfl) (by kernel_rfl) (by kernel_rfl) (by kernel_rfl) (fun c a w h => hpan c a _ _ w h) hHeld (fun wx hwx => by go_simp; try with_reducible rfl) ?_
                try simp only [Act.put, List.setIfInBounds_toArray, List.set_cons_zero, List.set_cons_succ]
                refine wpAnyH_done (by kernel_rfl) ?_ _
                clear hHeld
                go_wp2_with fail
                go_step3
                refine hgo 0 _ _ _ rfl ?_
                go_wp2_with fail
                rw [Exit.noGoto_ret]
                go_ret
                subst hG
                exact ⟨ret_int hV4.out.symm, hb⟩
              · have hV4 := hid (show oneD d lis (some v) (some a) false = 3 from hV3.out.trans (by rw [hNV.out, decide_eq_false hx]; rfl))
                have hxb : (X == -1) = false := beq_eq_false_iff_ne.2 hx
                clear HC2 HC3 hV0 hV1 hV2 hV3 hNV
                refine rtake 10 rfl (by rfl) (by kernel_rfl) (by kernel_rfl) (by kernel_rfl) (fun c a w h => hpan c a _ _ w h) hHeld (fun wx hwx => by go_simp; try with_reducible rfl) ?_
                try simp only [Act.put, List.setIfInBounds_toArray, List.set_cons_zero, List.set_cons_succ]
                refine rtake 11 rfl (by rfl) (by kernel_rfl) (by kernel_rfl) (by kernel_rfl) (fun c a w h => hpan c a _ _ w h) hHeld (fun wx hwx => by go_simp; try with_reducible rfl) ?_
                try simp only [Act.put, List.setIfInBounds_toArray, List.set_cons_zero, List.set_cons_succ]
                refine wpAnyH_done (by kernel_rfl) ?_ _
                clear hHeld
                go_wp2_with fail
                refine wp_label ?_
                go_wp2_with fail
                refine hret _ _ ?_
                go_ret
                subst hG
                exact ⟨ret_int hV4.out.symm, hb⟩
          · have hV3 := hid hV2.out
            go_wp2_with fail
            go_step3
            refine hgo 0 _ _ _ rfl ?_
            go_wp2_with fail
            rw [Exit.noGoto_ret]
            go_ret
            subst hG
            exact ⟨ret_int hV3.out.symm, hb⟩
        · have hV2 := hid (hV1.out.trans (if_pos hbe))
          clear HBE hbe
          go_wp2_with fail
          go_step3
          refine hgo 0 _ _ _ rfl ?_
          go_wp2_with fail
          rw [Exit.noGoto_ret]
          go_ret
          subst hG
          exact ⟨ret_int hV2.out.symm, hb⟩
end Go.Proofs.Ytclpblhjfaodbaa
