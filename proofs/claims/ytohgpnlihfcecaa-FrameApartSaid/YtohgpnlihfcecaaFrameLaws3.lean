/- The walk of FrameApart (gen_framelaws.py). -/
import Derived.Test.YtohgpnlihfcecaaFrameLaws0
namespace Go.Proofs.Ytohgpnlihfcecaa
open Go.RowKit Go.Proofs
set_option maxRecDepth 50000
set_option linter.unusedVariables false
set_option linter.unusedSimpArgs false

set_option maxRecDepth 100000 in
set_option maxHeartbeats 8000000 in
theorem frameApart_walk {w : World} (h : Hd) (d : Bd) (hok : MsgOk h d) (h2 : Hd) (d2 : Bd) (hok2 : MsgOk h2 d2) (v : Value) (l : List T2) (hT : Tlvs w v l) (hl : l.length * 24 ≤ 140737488351232) (v2 : Value) (k : List T2) (hT2 : Tlvs w v2 k) (hl2 : k.length * 24 ≤ 140737488351232) :
    Calls Try.prog 8 #[.agg (msgF h d).toArray, .agg (msgF h2 d2).toArray, v, v2] w fun e w' => e = .returned (.bool true) ∧ Below w.heap.size w w' := by
  have hfew := fun (wx : World) (h : Below w.heap.size w wx) => few09_any v l wx (hT.below h) (by omega)
  have hfew2 := fun (wx : World) (h : Below w.heap.size w wx) => few09_any v2 k wx (hT2.below h) (by omega)
  have HT := hid fun (wx : World) (h : Below w.heap.size w wx) => hT.below h
  have HT2 := hid fun (wx : World) (h : Below w.heap.size w wx) => hT2.below h
  obtain ⟨p, capT, rfl, -, -, -⟩ := hT
  obtain ⟨p2, capT2, rfl, -, -, -⟩ := hT2
  have HL := hid hl
  have HL2 := hid hl2
  clear hl hl2
  cases hF : fewB l with
  | false =>
    rw [hF] at hfew
    go_enter Try.func8, Try.ntmps8
    go_upto_region 1 with fail
    have hM : Box ((w.alloc (Obj.cells (msgF h d).toArray 28)).alloc (Obj.cells (msgF h2 d2).toArray 28)) w.heap.size (msgF h d) 28 := (Box.new w _ _).below (bnew _ _)
    have hM2 : Box ((w.alloc (Obj.cells (msgF h d).toArray 28)).alloc (Obj.cells (msgF h2 d2).toArray 28)) (w.heap.size + 1) (msgF h2 d2) 28 := heap_alloc2_new w _ _
    have hb := bnew2 w (Obj.cells (msgF h d).toArray 28) (Obj.cells (msgF h2 d2).toArray 28)
    change Code.wp Try.prog _ _ _ ((w.alloc (Obj.cells (msgF h d).toArray 28)).alloc (Obj.cells (msgF h2 d2).toArray 28))
    generalize ((w.alloc (Obj.cells (msgF h d).toArray 28)).alloc (Obj.cells (msgF h2 d2).toArray 28)) = W at *
    generalize w.heap.size + 1 = G at *
    go_wp2_with fail
    refine (hfew _ hb).mono ?_
    rintro e w1 ⟨rfl, rfl⟩
    clear hfew hfew2
    go_wp2_with fail
    refine (awake09_any _).mono ?_
    rintro e wz ⟨rfl, bz⟩
    go_wp2_with fail
    go_ret
    exact ⟨rfl, bnext hb bz⟩
  | true =>
    cases hK : fewB k with
    | false =>
      rw [hF] at hfew
      rw [hK] at hfew2
      go_enter Try.func8, Try.ntmps8
      go_upto_region 1 with fail
      have hM : Box ((w.alloc (Obj.cells (msgF h d).toArray 28)).alloc (Obj.cells (msgF h2 d2).toArray 28)) w.heap.size (msgF h d) 28 := (Box.new w _ _).below (bnew _ _)
      have hM2 : Box ((w.alloc (Obj.cells (msgF h d).toArray 28)).alloc (Obj.cells (msgF h2 d2).toArray 28)) (w.heap.size + 1) (msgF h2 d2) 28 := heap_alloc2_new w _ _
      have hb := bnew2 w (Obj.cells (msgF h d).toArray 28) (Obj.cells (msgF h2 d2).toArray 28)
      change Code.wp Try.prog _ _ _ ((w.alloc (Obj.cells (msgF h d).toArray 28)).alloc (Obj.cells (msgF h2 d2).toArray 28))
      generalize ((w.alloc (Obj.cells (msgF h d).toArray 28)).alloc (Obj.cells (msgF h2 d2).toArray 28)) = W at *
      generalize w.heap.size + 1 = G at *
      go_wp2_with fail
      refine (hfew _ hb).mono ?_
      rintro e w1 ⟨rfl, rfl⟩
      clear hfew
      go_wp2_with fail
      refine (hfew2 _ hb).mono ?_
      rintro e w1 ⟨rfl, rfl⟩
      clear hfew2
      go_wp2_with fail
      refine (awake09_any _).mono ?_
      rintro e wz ⟨rfl, bz⟩
      go_wp2_with fail
      go_ret
      exact ⟨rfl, bnext hb bz⟩
    | true =>
      have hsz : ∀ q ∈ l, q.2.length ≤ 140737488355328 := fun q hq => by have := few_all9 hF q hq; omega
      have hsz2 : ∀ q ∈ k, q.2.length ≤ 140737488355328 := fun q hq => by have := few_all9 hK q hq; omega
      have hput := fun (v : Value) (wx : World) (hT : Tlvs wx v l) => framePut_any h d v l wx hok hT (by have := HL.out; omega) hsz
      have hput2 := fun (v : Value) (wx : World) (hT : Tlvs wx v k) => framePut_any h2 d2 v k wx hok2 hT (by have := HL2.out; omega) hsz2
      rw [hF] at hfew
      rw [hK] at hfew2
      clear hF hK hsz hsz2
      by_cases hB : frameB h d l = true ∧ frameB h2 d2 k = true
      · obtain ⟨hB1, hB2⟩ := hB
        rw [frameP_yes hB1] at hput
        rw [frameP_yes hB2] at hput2
        have key : (frameS h d l = frameS h2 d2 k) ↔ (sameM h d h2 d2 = true ∧ l = k) := by
          constructor
          · intro e
            obtain ⟨e1, e2, e3⟩ := frame_apart hok hok2 hB1 hB2 e
            exact ⟨sameM_iff.2 ⟨e1, e2⟩, e3⟩
          · rintro ⟨e1, e2⟩
            obtain ⟨e3, e4⟩ := sameM_iff.1 e1
            subst e2 e3 e4
            rfl
        have hE := fun wx => equal_msg h d h2 d2 wx
        have hX := ByteArray_eq (frameS h d l) (frameS h2 d2 k)
        generalize frameS h d l = FS at *
        generalize frameS h2 d2 k = FS2 at *
        have HPUT := hid hput
        have HPUT2 := hid hput2
        clear hput hput2 hB1 hB2
        have hcase : (sameM h d h2 d2 = true ∧ (l == k) = true ∧ FS = FS2) ∨ (sameM h d h2 d2 = true ∧ (l == k) = false ∧ ¬ FS = FS2) ∨ (sameM h d h2 d2 = false ∧ ¬ FS = FS2) := by
          by_cases h1 : sameM h d h2 d2 = true
          · by_cases h2 : l = k
            · exact .inl ⟨h1, beq_iff_eq.2 h2, key.2 ⟨h1, h2⟩⟩
            · exact .inr (.inl ⟨h1, beq_false_of_ne h2, fun e => h2 (key.1 e).2⟩)
          · exact .inr (.inr ⟨by simpa using h1, fun e => h1 (key.1 e).1⟩)
        clear key
        rcases hcase with ⟨e1, e2, rfl⟩ | ⟨e1, e2, e3⟩ | ⟨e1, e3⟩
        · rw [e1] at hE
          rw [beq_self_eq_true FS] at hX
          go_enter Try.func8, Try.ntmps8
          go_upto_region 1 with fail
          have hM : Box ((w.alloc (Obj.cells (msgF h d).toArray 28)).alloc (Obj.cells (msgF h2 d2).toArray 28)) w.heap.size (msgF h d) 28 := (Box.new w _ _).below (bnew _ _)
          have hM2 : Box ((w.alloc (Obj.cells (msgF h d).toArray 28)).alloc (Obj.cells (msgF h2 d2).toArray 28)) (w.heap.size + 1) (msgF h2 d2) 28 := heap_alloc2_new w _ _
          have hb := bnew2 w (Obj.cells (msgF h d).toArray 28) (Obj.cells (msgF h2 d2).toArray 28)
          change Code.wp Try.prog _ _ _ ((w.alloc (Obj.cells (msgF h d).toArray 28)).alloc (Obj.cells (msgF h2 d2).toArray 28))
          generalize ((w.alloc (Obj.cells (msgF h d).toArray 28)).alloc (Obj.cells (msgF h2 d2).toArray 28)) = W at *
          generalize w.heap.size + 1 = G at *
          go_wp2_with fail
          refine (hfew _ hb).mono ?_
          rintro e w1 ⟨rfl, rfl⟩
          clear hfew
          go_wp2_with fail
          refine (hfew2 _ hb).mono ?_
          rintro e w1 ⟨rfl, rfl⟩
          clear hfew2
          go_upto_region 3 with fail
          refine wp_region_held_drew (S := fun w' => Below W.drew.heap.size W.drew w') (by kernel_rfl) (Below.refl _ _) ?_
          intro hHeld
          have hbd := Below.drew (Below.refl W.heap.size W)
          replace hb := bnext hb hbd
          replace hM := hM.below hbd
          replace hM2 := hM2.below hbd
          clear hbd
          generalize W.drew = wd at *
          refine rtake 0 rfl (by rfl) (by kernel_rfl) (by kernel_rfl) (by kernel_rfl) (fun _ _ _ h => h) hHeld (fun wx hwx => exec_load_msg _ rfl w.heap.size rfl (msgF h d) _ (hM.below hwx) (msgF_length _ _)) ?_
          try simp only [Act.put, List.setIfInBounds_toArray, List.set_cons_zero, List.set_cons_succ]
          refine rtake 1 rfl (by rfl) (by kernel_rfl) (by kernel_rfl) (by kernel_rfl) (fun _ _ _ h => h) hHeld (fun wx hwx => by go_simp; try with_reducible rfl) ?_
          try simp only [Act.put, List.setIfInBounds_toArray, List.set_cons_zero, List.set_cons_succ]
          refine rcall 2 rfl (by kernel_rfl) (by rfl) (fun K hK => ?_)
          go_simp
          refine (tlvs00_any _ l wd (HT.out _ hb) (by have := HL.out; omega)).mono ?_
          rintro e wa ⟨va, rfl, oa, ba⟩
          refine hK.out _ _ ba ?_
          clear hK K
          refine wpAnyH_mono (S' := fun w' => Below wa.heap.size wa w') (fun w' h => bnext ba h) _ _ _ _ ?_
          replace hb := bnext hb ba
          replace hM := hM.below ba
          replace hM2 := hM2.below ba
          clear hHeld ba
          have hHeld := Below.refl wa.heap.size wa
          try simp only [Act.put, List.setIfInBounds_toArray, List.set_cons_zero, List.set_cons_succ]
          refine rcall 3 rfl (by kernel_rfl) (by rfl) (fun K hK => ?_)
          go_simp
          refine (HPUT.out va wa oa.tlvs).mono ?_
          rintro e wb ⟨rfl, ba⟩
          refine hK.out _ _ ba ?_
          clear hK K
          refine wpAnyH_mono (S' := fun w' => Below wb.heap.size wb w') (fun w' h => bnext ba h) _ _ _ _ ?_
          replace hb := bnext hb ba
          replace hM := hM.below ba
          replace hM2 := hM2.below ba
          clear hHeld ba oa
          have hHeld := Below.refl wb.heap.size wb
          try simp only [Act.put, List.setIfInBounds_toArray, List.set_cons_zero, List.set_cons_succ]
          refine rtake 4 rfl (by rfl) (by kernel_rfl) (by kernel_rfl) (by kernel_rfl) (fun _ _ _ h => h) hHeld (fun wx hwx => by go_simp; try with_reducible rfl) ?_
          try simp only [Act.put, List.setIfInBounds_toArray, List.set_cons_zero, List.set_cons_succ]
          refine rtake 5 rfl (by rfl) (by kernel_rfl) (by kernel_rfl) (by kernel_rfl) (fun _ _ _ h => h) hHeld (fun wx hwx => by go_simp; try with_reducible rfl) ?_
          try simp only [Act.put, List.setIfInBounds_toArray, List.set_cons_zero, List.set_cons_succ]
          refine rtake 6 rfl (by rfl) (by kernel_rfl) (by kernel_rfl) (by kernel_rfl) (fun _ _ _ h => h) hHeld (fun wx hwx => by go_simp; try with_reducible rfl) ?_
          try simp only [Act.put, List.setIfInBounds_toArray, List.set_cons_zero, List.set_cons_succ]
          refine rtake 7 rfl (by rfl) (by kernel_rfl) (by kernel_rfl) (by kernel_rfl) (fun _ _ _ h => h) hHeld (fun wx hwx => by go_simp; try with_reducible rfl) ?_
          try simp only [Act.put, List.setIfInBounds_toArray, List.set_cons_zero, List.set_cons_succ]
          refine rtake 8 rfl (by rfl) (by kernel_rfl) (by kernel_rfl) (by kernel_rfl) (fun _ _ _ h => h) hHeld (fun wx hwx => by go_simp; try with_reducible rfl) ?_
          try simp only [Act.put, List.setIfInBounds_toArray, List.set_cons_zero, List.set_cons_succ]
          refine wpAnyH_done (by kernel_rfl) ?_ _
          clear hHeld
          go_upto_region 4 with fail
          refine wp_region_held_drew (S := fun w' => Below wb.drew.heap.size wb.drew w') (by kernel_rfl) (Below.refl _ _) ?_
          intro hHeld
          have hbd := Below.drew (Below.refl wb.heap.size wb)
          replace hb := bnext hb hbd
          replace hM := hM.below hbd
          replace hM2 := hM2.below hbd
          clear hbd
          generalize wb.drew = wd at *
          refine rtake 0 rfl (by rfl) (by kernel_rfl) (by kernel_rfl) (by kernel_rfl) (fun _ _ _ h => h) hHeld (fun wx hwx => exec_load_msg _ rfl G rfl (msgF h2 d2) _ (hM2.below hwx) (msgF_length _ _)) ?_
          try simp only [Act.put, List.setIfInBounds_toArray, List.set_cons_zero, List.set_cons_succ]
          refine rtake 1 rfl (by rfl) (by kernel_rfl) (by kernel_rfl) (by kernel_rfl) (fun _ _ _ h => h) hHeld (fun wx hwx => by go_simp; try with_reducible rfl) ?_
          try simp only [Act.put, List.setIfInBounds_toArray, List.set_cons_zero, List.set_cons_succ]
          refine rcall 2 rfl (by kernel_rfl) (by rfl) (fun K hK => ?_)
          go_simp
          refine (tlvs00_any _ k wd (HT2.out _ hb) (by have := HL2.out; omega)).mono ?_
          rintro e wc ⟨va2, rfl, oa, ba⟩
          refine hK.out _ _ ba ?_
          clear hK K
          refine wpAnyH_mono (S' := fun w' => Below wc.heap.size wc w') (fun w' h => bnext ba h) _ _ _ _ ?_
          replace hb := bnext hb ba
          replace hM := hM.below ba
          replace hM2 := hM2.below ba
          clear hHeld ba
          have hHeld := Below.refl wc.heap.size wc
          try simp only [Act.put, List.setIfInBounds_toArray, List.set_cons_zero, List.set_cons_succ]
          refine rcall 3 rfl (by kernel_rfl) (by rfl) (fun K hK => ?_)
          go_simp
          refine (HPUT2.out va2 wc oa.tlvs).mono ?_
          rintro e we ⟨rfl, ba⟩
          refine hK.out _ _ ba ?_
          clear hK K
          refine wpAnyH_mono (S' := fun w' => Below we.heap.size we w') (fun w' h => bnext ba h) _ _ _ _ ?_
          replace hb := bnext hb ba
          replace hM := hM.below ba
          replace hM2 := hM2.below ba
          clear hHeld ba oa
          have hHeld := Below.refl we.heap.size we
          try simp only [Act.put, List.setIfInBounds_toArray, List.set_cons_zero, List.set_cons_succ]
          refine rtake 4 rfl (by rfl) (by kernel_rfl) (by kernel_rfl) (by kernel_rfl) (fun _ _ _ h => h) hHeld (fun wx hwx => by go_simp; try with_reducible rfl) ?_
          try simp only [Act.put, List.setIfInBounds_toArray, List.set_cons_zero, List.set_cons_succ]
          refine rtake 5 rfl (by rfl) (by kernel_rfl) (by kernel_rfl) (by kernel_rfl) (fun _ _ _ h => h) hHeld (fun wx hwx => by go_simp; try with_reducible rfl) ?_
          try simp only [Act.put, List.setIfInBounds_toArray, List.set_cons_zero, List.set_cons_succ]
          refine rtake 6 rfl (by rfl) (by kernel_rfl) (by kernel_rfl) (by kernel_rfl) (fun _ _ _ h => h) hHeld (fun wx hwx => by go_simp; try with_reducible rfl) ?_
          try simp only [Act.put, List.setIfInBounds_toArray, List.set_cons_zero, List.set_cons_succ]
          refine rtake 7 rfl (by rfl) (by kernel_rfl) (by kernel_rfl) (by kernel_rfl) (fun _ _ _ h => h) hHeld (fun wx hwx => by go_simp; try with_reducible rfl) ?_
          try simp only [Act.put, List.setIfInBounds_toArray, List.set_cons_zero, List.set_cons_succ]
          refine rtake 8 rfl (by rfl) (by kernel_rfl) (by kernel_rfl) (by kernel_rfl) (fun _ _ _ h => h) hHeld (fun wx hwx => by go_simp; try with_reducible rfl) ?_
          try simp only [Act.put, List.setIfInBounds_toArray, List.set_cons_zero, List.set_cons_succ]
          refine wpAnyH_done (by kernel_rfl) ?_ _
          clear hHeld
          go_wp2_with (first | (guard_target =~ wpList _ _ _ (⟨some 46, _, _, _, _, _⟩ :: _) _ _; refine wpList_load_msg (op := ⟨some 46, .load _ _, _, _, _, _⟩) (by rfl) _ (by rfl) w.heap.size (by rfl) (msgF h d) _ hM (msgF_length _ _) ?_) | (guard_target =~ wpList _ _ _ (⟨some 47, _, _, _, _, _⟩ :: _) _ _; refine wpList_load_msg (op := ⟨some 47, .load _ _, _, _, _, _⟩) (by rfl) _ (by rfl) G (by rfl) (msgF h2 d2) _ hM2 (msgF_length _ _) ?_))
          refine (sameTlvs_any _ _ l k _ (HT.out _ hb) (HT2.out _ hb) (by have := HL.out; omega) (by have := HL2.out; omega)).mono ?_
          rintro e w6 ⟨rfl, b6⟩
          rw [e2]
          replace hb := bnext hb b6
          go_wp2_with fail
          refine (awake09_any _).mono ?_
          rintro e wz ⟨rfl, bz⟩
          go_wp2_with fail
          go_ret
          exact ⟨rfl, bnext hb bz⟩
        · rw [e1] at hE
          rw [beq_false_of_ne e3] at hX
          have hXL : (FS == FS2) = false := beq_false_of_ne e3
          go_enter Try.func8, Try.ntmps8
          go_upto_region 1 with fail
          have hM : Box ((w.alloc (Obj.cells (msgF h d).toArray 28)).alloc (Obj.cells (msgF h2 d2).toArray 28)) w.heap.size (msgF h d) 28 := (Box.new w _ _).below (bnew _ _)
          have hM2 : Box ((w.alloc (Obj.cells (msgF h d).toArray 28)).alloc (Obj.cells (msgF h2 d2).toArray 28)) (w.heap.size + 1) (msgF h2 d2) 28 := heap_alloc2_new w _ _
          have hb := bnew2 w (Obj.cells (msgF h d).toArray 28) (Obj.cells (msgF h2 d2).toArray 28)
          change Code.wp Try.prog _ _ _ ((w.alloc (Obj.cells (msgF h d).toArray 28)).alloc (Obj.cells (msgF h2 d2).toArray 28))
          generalize ((w.alloc (Obj.cells (msgF h d).toArray 28)).alloc (Obj.cells (msgF h2 d2).toArray 28)) = W at *
          generalize w.heap.size + 1 = G at *
          go_wp2_with fail
          refine (hfew _ hb).mono ?_
          rintro e w1 ⟨rfl, rfl⟩
          clear hfew
          go_wp2_with fail
          refine (hfew2 _ hb).mono ?_
          rintro e w1 ⟨rfl, rfl⟩
          clear hfew2
          go_upto_region 3 with fail
          refine wp_region_held_drew (S := fun w' => Below W.drew.heap.size W.drew w') (by kernel_rfl) (Below.refl _ _) ?_
          intro hHeld
          have hbd := Below.drew (Below.refl W.heap.size W)
          replace hb := bnext hb hbd
          replace hM := hM.below hbd
          replace hM2 := hM2.below hbd
          clear hbd
          generalize W.drew = wd at *
          refine rtake 0 rfl (by rfl) (by kernel_rfl) (by kernel_rfl) (by kernel_rfl) (fun _ _ _ h => h) hHeld (fun wx hwx => exec_load_msg _ rfl w.heap.size rfl (msgF h d) _ (hM.below hwx) (msgF_length _ _)) ?_
          try simp only [Act.put, List.setIfInBounds_toArray, List.set_cons_zero, List.set_cons_succ]
          refine rtake 1 rfl (by rfl) (by kernel_rfl) (by kernel_rfl) (by kernel_rfl) (fun _ _ _ h => h) hHeld (fun wx hwx => by go_simp; try with_reducible rfl) ?_
          try simp only [Act.put, List.setIfInBounds_toArray, List.set_cons_zero, List.set_cons_succ]
          refine rcall 2 rfl (by kernel_rfl) (by rfl) (fun K hK => ?_)
          go_simp
          refine (tlvs00_any _ l wd (HT.out _ hb) (by have := HL.out; omega)).mono ?_
          rintro e wa ⟨va, rfl, oa, ba⟩
          refine hK.out _ _ ba ?_
          clear hK K
          refine wpAnyH_mono (S' := fun w' => Below wa.heap.size wa w') (fun w' h => bnext ba h) _ _ _ _ ?_
          replace hb := bnext hb ba
          replace hM := hM.below ba
          replace hM2 := hM2.below ba
          clear hHeld ba
          have hHeld := Below.refl wa.heap.size wa
          try simp only [Act.put, List.setIfInBounds_toArray, List.set_cons_zero, List.set_cons_succ]
          refine rcall 3 rfl (by kernel_rfl) (by rfl) (fun K hK => ?_)
          go_simp
          refine (HPUT.out va wa oa.tlvs).mono ?_
          rintro e wb ⟨rfl, ba⟩
          refine hK.out _ _ ba ?_
          clear hK K
          refine wpAnyH_mono (S' := fun w' => Below wb.heap.size wb w') (fun w' h => bnext ba h) _ _ _ _ ?_
          replace hb := bnext hb ba
          replace hM := hM.below ba
          replace hM2 := hM2.below ba
          clear hHeld ba oa
          have hHeld := Below.refl wb.heap.size wb
          try simp only [Act.put, List.setIfInBounds_toArray, List.set_cons_zero, List.set_cons_succ]
          refine rtake 4 rfl (by rfl) (by kernel_rfl) (by kernel_rfl) (by kernel_rfl) (fun _ _ _ h => h) hHeld (fun wx hwx => by go_simp; try with_reducible rfl) ?_
          try simp only [Act.put, List.setIfInBounds_toArray, List.set_cons_zero, List.set_cons_succ]
          refine rtake 5 rfl (by rfl) (by kernel_rfl) (by kernel_rfl) (by kernel_rfl) (fun _ _ _ h => h) hHeld (fun wx hwx => by go_simp; try with_reducible rfl) ?_
          try simp only [Act.put, List.setIfInBounds_toArray, List.set_cons_zero, List.set_cons_succ]
          refine rtake 6 rfl (by rfl) (by kernel_rfl) (by kernel_rfl) (by kernel_rfl) (fun _ _ _ h => h) hHeld (fun wx hwx => by go_simp; try with_reducible rfl) ?_
          try simp only [Act.put, List.setIfInBounds_toArray, List.set_cons_zero, List.set_cons_succ]
          refine rtake 7 rfl (by rfl) (by kernel_rfl) (by kernel_rfl) (by kernel_rfl) (fun _ _ _ h => h) hHeld (fun wx hwx => by go_simp; try with_reducible rfl) ?_
          try simp only [Act.put, List.setIfInBounds_toArray, List.set_cons_zero, List.set_cons_succ]
          refine rtake 8 rfl (by rfl) (by kernel_rfl) (by kernel_rfl) (by kernel_rfl) (fun _ _ _ h => h) hHeld (fun wx hwx => by go_simp; try with_reducible rfl) ?_
          try simp only [Act.put, List.setIfInBounds_toArray, List.set_cons_zero, List.set_cons_succ]
          refine wpAnyH_done (by kernel_rfl) ?_ _
          clear hHeld
          go_upto_region 4 with fail
          refine wp_region_held_drew (S := fun w' => Below wb.drew.heap.size wb.drew w') (by kernel_rfl) (Below.refl _ _) ?_
          intro hHeld
          have hbd := Below.drew (Below.refl wb.heap.size wb)
          replace hb := bnext hb hbd
          replace hM := hM.below hbd
          replace hM2 := hM2.below hbd
          clear hbd
          generalize wb.drew = wd at *
          refine rtake 0 rfl (by rfl) (by kernel_rfl) (by kernel_rfl) (by kernel_rfl) (fun _ _ _ h => h) hHeld (fun wx hwx => exec_load_msg _ rfl G rfl (msgF h2 d2) _ (hM2.below hwx) (msgF_length _ _)) ?_
          try simp only [Act.put, List.setIfInBounds_toArray, List.set_cons_zero, List.set_cons_succ]
          refine rtake 1 rfl (by rfl) (by kernel_rfl) (by kernel_rfl) (by kernel_rfl) (fun _ _ _ h => h) hHeld (fun wx hwx => by go_simp; try with_reducible rfl) ?_
          try simp only [Act.put, List.setIfInBounds_toArray, List.set_cons_zero, List.set_cons_succ]
          refine rcall 2 rfl (by kernel_rfl) (by rfl) (fun K hK => ?_)
          go_simp
          refine (tlvs00_any _ k wd (HT2.out _ hb) (by have := HL2.out; omega)).mono ?_
          rintro e wc ⟨va2, rfl, oa, ba⟩
          refine hK.out _ _ ba ?_
          clear hK K
          refine wpAnyH_mono (S' := fun w' => Below wc.heap.size wc w') (fun w' h => bnext ba h) _ _ _ _ ?_
          replace hb := bnext hb ba
          replace hM := hM.below ba
          replace hM2 := hM2.below ba
          clear hHeld ba
          have hHeld := Below.refl wc.heap.size wc
          try simp only [Act.put, List.setIfInBounds_toArray, List.set_cons_zero, List.set_cons_succ]
          refine rcall 3 rfl (by kernel_rfl) (by rfl) (fun K hK => ?_)
          go_simp
          refine (HPUT2.out va2 wc oa.tlvs).mono ?_
          rintro e we ⟨rfl, ba⟩
          refine hK.out _ _ ba ?_
          clear hK K
          refine wpAnyH_mono (S' := fun w' => Below we.heap.size we w') (fun w' h => bnext ba h) _ _ _ _ ?_
          replace hb := bnext hb ba
          replace hM := hM.below ba
          replace hM2 := hM2.below ba
          clear hHeld ba oa
          have hHeld := Below.refl we.heap.size we
          try simp only [Act.put, List.setIfInBounds_toArray, List.set_cons_zero, List.set_cons_succ]
          refine rtake 4 rfl (by rfl) (by kernel_rfl) (by kernel_rfl) (by kernel_rfl) (fun _ _ _ h => h) hHeld (fun wx hwx => by go_simp; try with_reducible rfl) ?_
          try simp only [Act.put, List.setIfInBounds_toArray, List.set_cons_zero, List.set_cons_succ]
          refine rtake 5 rfl (by rfl) (by kernel_rfl) (by kernel_rfl) (by kernel_rfl) (fun _ _ _ h => h) hHeld (fun wx hwx => by go_simp; try with_reducible rfl) ?_
          try simp only [Act.put, List.setIfInBounds_toArray, List.set_cons_zero, List.set_cons_succ]
          refine rtake 6 rfl (by rfl) (by kernel_rfl) (by kernel_rfl) (by kernel_rfl) (fun _ _ _ h => h) hHeld (fun wx hwx => by go_simp; try with_reducible rfl) ?_
          try simp only [Act.put, List.setIfInBounds_toArray, List.set_cons_zero, List.set_cons_succ]
          refine rtake 7 rfl (by rfl) (by kernel_rfl) (by kernel_rfl) (by kernel_rfl) (fun _ _ _ h => h) hHeld (fun wx hwx => by go_simp; try with_reducible rfl) ?_
          try simp only [Act.put, List.setIfInBounds_toArray, List.set_cons_zero, List.set_cons_succ]
          refine rtake 8 rfl (by rfl) (by kernel_rfl) (by kernel_rfl) (by kernel_rfl) (fun _ _ _ h => h) hHeld (fun wx hwx => by go_simp; try with_reducible rfl) ?_
          try simp only [Act.put, List.setIfInBounds_toArray, List.set_cons_zero, List.set_cons_succ]
          refine wpAnyH_done (by kernel_rfl) ?_ _
          clear hHeld
          go_wp2_with (first | (guard_target =~ wpList _ _ _ (⟨some 46, _, _, _, _, _⟩ :: _) _ _; refine wpList_load_msg (op := ⟨some 46, .load _ _, _, _, _, _⟩) (by rfl) _ (by rfl) w.heap.size (by rfl) (msgF h d) _ hM (msgF_length _ _) ?_) | (guard_target =~ wpList _ _ _ (⟨some 47, _, _, _, _, _⟩ :: _) _ _; refine wpList_load_msg (op := ⟨some 47, .load _ _, _, _, _, _⟩) (by rfl) _ (by rfl) G (by rfl) (msgF h2 d2) _ hM2 (msgF_length _ _) ?_))
          refine (sameTlvs_any _ _ l k _ (HT.out _ hb) (HT2.out _ hb) (by have := HL.out; omega) (by have := HL2.out; omega)).mono ?_
          rintro e w6 ⟨rfl, b6⟩
          rw [e2]
          replace hb := bnext hb b6
          go_wp2_with fail
          refine (awake09_any _).mono ?_
          rintro e wz ⟨rfl, bz⟩
          go_wp2_with fail
          go_ret
          exact ⟨rfl, bnext hb bz⟩
        · rw [e1] at hE
          rw [beq_false_of_ne e3] at hX
          have hXL : (FS == FS2) = false := beq_false_of_ne e3
          go_enter Try.func8, Try.ntmps8
          go_upto_region 1 with fail
          have hM : Box ((w.alloc (Obj.cells (msgF h d).toArray 28)).alloc (Obj.cells (msgF h2 d2).toArray 28)) w.heap.size (msgF h d) 28 := (Box.new w _ _).below (bnew _ _)
          have hM2 : Box ((w.alloc (Obj.cells (msgF h d).toArray 28)).alloc (Obj.cells (msgF h2 d2).toArray 28)) (w.heap.size + 1) (msgF h2 d2) 28 := heap_alloc2_new w _ _
          have hb := bnew2 w (Obj.cells (msgF h d).toArray 28) (Obj.cells (msgF h2 d2).toArray 28)
          change Code.wp Try.prog _ _ _ ((w.alloc (Obj.cells (msgF h d).toArray 28)).alloc (Obj.cells (msgF h2 d2).toArray 28))
          generalize ((w.alloc (Obj.cells (msgF h d).toArray 28)).alloc (Obj.cells (msgF h2 d2).toArray 28)) = W at *
          generalize w.heap.size + 1 = G at *
          go_wp2_with fail
          refine (hfew _ hb).mono ?_
          rintro e w1 ⟨rfl, rfl⟩
          clear hfew
          go_wp2_with fail
          refine (hfew2 _ hb).mono ?_
          rintro e w1 ⟨rfl, rfl⟩
          clear hfew2
          go_upto_region 3 with fail
          refine wp_region_held_drew (S := fun w' => Below W.drew.heap.size W.drew w') (by kernel_rfl) (Below.refl _ _) ?_
          intro hHeld
          have hbd := Below.drew (Below.refl W.heap.size W)
          replace hb := bnext hb hbd
          replace hM := hM.below hbd
          replace hM2 := hM2.below hbd
          clear hbd
          generalize W.drew = wd at *
          refine rtake 0 rfl (by rfl) (by kernel_rfl) (by kernel_rfl) (by kernel_rfl) (fun _ _ _ h => h) hHeld (fun wx hwx => exec_load_msg _ rfl w.heap.size rfl (msgF h d) _ (hM.below hwx) (msgF_length _ _)) ?_
          try simp only [Act.put, List.setIfInBounds_toArray, List.set_cons_zero, List.set_cons_succ]
          refine rtake 1 rfl (by rfl) (by kernel_rfl) (by kernel_rfl) (by kernel_rfl) (fun _ _ _ h => h) hHeld (fun wx hwx => by go_simp; try with_reducible rfl) ?_
          try simp only [Act.put, List.setIfInBounds_toArray, List.set_cons_zero, List.set_cons_succ]
          refine rcall 2 rfl (by kernel_rfl) (by rfl) (fun K hK => ?_)
          go_simp
          refine (tlvs00_any _ l wd (HT.out _ hb) (by have := HL.out; omega)).mono ?_
          rintro e wa ⟨va, rfl, oa, ba⟩
          refine hK.out _ _ ba ?_
          clear hK K
          refine wpAnyH_mono (S' := fun w' => Below wa.heap.size wa w') (fun w' h => bnext ba h) _ _ _ _ ?_
          replace hb := bnext hb ba
          replace hM := hM.below ba
          replace hM2 := hM2.below ba
          clear hHeld ba
          have hHeld := Below.refl wa.heap.size wa
          try simp only [Act.put, List.setIfInBounds_toArray, List.set_cons_zero, List.set_cons_succ]
          refine rcall 3 rfl (by kernel_rfl) (by rfl) (fun K hK => ?_)
          go_simp
          refine (HPUT.out va wa oa.tlvs).mono ?_
          rintro e wb ⟨rfl, ba⟩
          refine hK.out _ _ ba ?_
          clear hK K
          refine wpAnyH_mono (S' := fun w' => Below wb.heap.size wb w') (fun w' h => bnext ba h) _ _ _ _ ?_
          replace hb := bnext hb ba
          replace hM := hM.below ba
          replace hM2 := hM2.below ba
          clear hHeld ba oa
          have hHeld := Below.refl wb.heap.size wb
          try simp only [Act.put, List.setIfInBounds_toArray, List.set_cons_zero, List.set_cons_succ]
          refine rtake 4 rfl (by rfl) (by kernel_rfl) (by kernel_rfl) (by kernel_rfl) (fun _ _ _ h => h) hHeld (fun wx hwx => by go_simp; try with_reducible rfl) ?_
          try simp only [Act.put, List.setIfInBounds_toArray, List.set_cons_zero, List.set_cons_succ]
          refine rtake 5 rfl (by rfl) (by kernel_rfl) (by kernel_rfl) (by kernel_rfl) (fun _ _ _ h => h) hHeld (fun wx hwx => by go_simp; try with_reducible rfl) ?_
          try simp only [Act.put, List.setIfInBounds_toArray, List.set_cons_zero, List.set_cons_succ]
          refine rtake 6 rfl (by rfl) (by kernel_rfl) (by kernel_rfl) (by kernel_rfl) (fun _ _ _ h => h) hHeld (fun wx hwx => by go_simp; try with_reducible rfl) ?_
          try simp only [Act.put, List.setIfInBounds_toArray, List.set_cons_zero, List.set_cons_succ]
          refine rtake 7 rfl (by rfl) (by kernel_rfl) (by kernel_rfl) (by kernel_rfl) (fun _ _ _ h => h) hHeld (fun wx hwx => by go_simp; try with_reducible rfl) ?_
          try simp only [Act.put, List.setIfInBounds_toArray, List.set_cons_zero, List.set_cons_succ]
          refine rtake 8 rfl (by rfl) (by kernel_rfl) (by kernel_rfl) (by kernel_rfl) (fun _ _ _ h => h) hHeld (fun wx hwx => by go_simp; try with_reducible rfl) ?_
          try simp only [Act.put, List.setIfInBounds_toArray, List.set_cons_zero, List.set_cons_succ]
          refine wpAnyH_done (by kernel_rfl) ?_ _
          clear hHeld
          go_upto_region 4 with fail
          refine wp_region_held_drew (S := fun w' => Below wb.drew.heap.size wb.drew w') (by kernel_rfl) (Below.refl _ _) ?_
          intro hHeld
          have hbd := Below.drew (Below.refl wb.heap.size wb)
          replace hb := bnext hb hbd
          replace hM := hM.below hbd
          replace hM2 := hM2.below hbd
          clear hbd
          generalize wb.drew = wd at *
          refine rtake 0 rfl (by rfl) (by kernel_rfl) (by kernel_rfl) (by kernel_rfl) (fun _ _ _ h => h) hHeld (fun wx hwx => exec_load_msg _ rfl G rfl (msgF h2 d2) _ (hM2.below hwx) (msgF_length _ _)) ?_
          try simp only [Act.put, List.setIfInBounds_toArray, List.set_cons_zero, List.set_cons_succ]
          refine rtake 1 rfl (by rfl) (by kernel_rfl) (by kernel_rfl) (by kernel_rfl) (fun _ _ _ h => h) hHeld (fun wx hwx => by go_simp; try with_reducible rfl) ?_
          try simp only [Act.put, List.setIfInBounds_toArray, List.set_cons_zero, List.set_cons_succ]
          refine rcall 2 rfl (by kernel_rfl) (by rfl) (fun K hK => ?_)
          go_simp
          refine (tlvs00_any _ k wd (HT2.out _ hb) (by have := HL2.out; omega)).mono ?_
          rintro e wc ⟨va2, rfl, oa, ba⟩
          refine hK.out _ _ ba ?_
          clear hK K
          refine wpAnyH_mono (S' := fun w' => Below wc.heap.size wc w') (fun w' h => bnext ba h) _ _ _ _ ?_
          replace hb := bnext hb ba
          replace hM := hM.below ba
          replace hM2 := hM2.below ba
          clear hHeld ba
          have hHeld := Below.refl wc.heap.size wc
          try simp only [Act.put, List.setIfInBounds_toArray, List.set_cons_zero, List.set_cons_succ]
          refine rcall 3 rfl (by kernel_rfl) (by rfl) (fun K hK => ?_)
          go_simp
          refine (HPUT2.out va2 wc oa.tlvs).mono ?_
          rintro e we ⟨rfl, ba⟩
          refine hK.out _ _ ba ?_
          clear hK K
          refine wpAnyH_mono (S' := fun w' => Below we.heap.size we w') (fun w' h => bnext ba h) _ _ _ _ ?_
          replace hb := bnext hb ba
          replace hM := hM.below ba
          replace hM2 := hM2.below ba
          clear hHeld ba oa
          have hHeld := Below.refl we.heap.size we
          try simp only [Act.put, List.setIfInBounds_toArray, List.set_cons_zero, List.set_cons_succ]
          refine rtake 4 rfl (by rfl) (by kernel_rfl) (by kernel_rfl) (by kernel_rfl) (fun _ _ _ h => h) hHeld (fun wx hwx => by go_simp; try with_reducible rfl) ?_
          try simp only [Act.put, List.setIfInBounds_toArray, List.set_cons_zero, List.set_cons_succ]
          refine rtake 5 rfl (by rfl) (by kernel_rfl) (by kernel_rfl) (by kernel_rfl) (fun _ _ _ h => h) hHeld (fun wx hwx => by go_simp; try with_reducible rfl) ?_
          try simp only [Act.put, List.setIfInBounds_toArray, List.set_cons_zero, List.set_cons_succ]
          refine rtake 6 rfl (by rfl) (by kernel_rfl) (by kernel_rfl) (by kernel_rfl) (fun _ _ _ h => h) hHeld (fun wx hwx => by go_simp; try with_reducible rfl) ?_
          try simp only [Act.put, List.setIfInBounds_toArray, List.set_cons_zero, List.set_cons_succ]
          refine rtake 7 rfl (by rfl) (by kernel_rfl) (by kernel_rfl) (by kernel_rfl) (fun _ _ _ h => h) hHeld (fun wx hwx => by go_simp; try with_reducible rfl) ?_
          try simp only [Act.put, List.setIfInBounds_toArray, List.set_cons_zero, List.set_cons_succ]
          refine rtake 8 rfl (by rfl) (by kernel_rfl) (by kernel_rfl) (by kernel_rfl) (fun _ _ _ h => h) hHeld (fun wx hwx => by go_simp; try with_reducible rfl) ?_
          try simp only [Act.put, List.setIfInBounds_toArray, List.set_cons_zero, List.set_cons_succ]
          refine wpAnyH_done (by kernel_rfl) ?_ _
          clear hHeld
          go_wp2_with (first | (guard_target =~ wpList _ _ _ (⟨some 46, _, _, _, _, _⟩ :: _) _ _; refine wpList_load_msg (op := ⟨some 46, .load _ _, _, _, _, _⟩) (by rfl) _ (by rfl) w.heap.size (by rfl) (msgF h d) _ hM (msgF_length _ _) ?_) | (guard_target =~ wpList _ _ _ (⟨some 47, _, _, _, _, _⟩ :: _) _ _; refine wpList_load_msg (op := ⟨some 47, .load _ _, _, _, _, _⟩) (by rfl) _ (by rfl) G (by rfl) (msgF h2 d2) _ hM2 (msgF_length _ _) ?_))
          refine (awake09_any _).mono ?_
          rintro e wz ⟨rfl, bz⟩
          go_wp2_with fail
          go_ret
          exact ⟨rfl, bnext hb bz⟩
      · have HPUT := hid hput
        have HPUT2 := hid hput2
        have hB' : (frameP h d l).2 = false ∨ ((frameP h d l).2 = true ∧ (frameP h2 d2 k).2 = false) := by
          cases h1 : frameB h d l with
          | false => left; rw [frameP_no h1]
          | true =>
            cases h2' : frameB h2 d2 k with
            | false => right; rw [frameP_yes h1, frameP_no h2']; exact ⟨rfl, rfl⟩
            | true => exact absurd ⟨h1, h2'⟩ hB
        clear hput hput2 hB
        generalize frameP h d l = F at *
        generalize frameP h2 d2 k = F2 at *
        obtain ⟨FS, FB⟩ := F
        obtain ⟨FS2, FB2⟩ := F2
        have hB' : FB = false ∨ (FB = true ∧ FB2 = false) := hB'
        rcases hB' with rfl | ⟨rfl, rfl⟩
        all_goals
          go_enter Try.func8, Try.ntmps8
          go_upto_region 1 with fail
          have hM : Box ((w.alloc (Obj.cells (msgF h d).toArray 28)).alloc (Obj.cells (msgF h2 d2).toArray 28)) w.heap.size (msgF h d) 28 := (Box.new w _ _).below (bnew _ _)
          have hM2 : Box ((w.alloc (Obj.cells (msgF h d).toArray 28)).alloc (Obj.cells (msgF h2 d2).toArray 28)) (w.heap.size + 1) (msgF h2 d2) 28 := heap_alloc2_new w _ _
          have hb := bnew2 w (Obj.cells (msgF h d).toArray 28) (Obj.cells (msgF h2 d2).toArray 28)
          change Code.wp Try.prog _ _ _ ((w.alloc (Obj.cells (msgF h d).toArray 28)).alloc (Obj.cells (msgF h2 d2).toArray 28))
          generalize ((w.alloc (Obj.cells (msgF h d).toArray 28)).alloc (Obj.cells (msgF h2 d2).toArray 28)) = W at *
          generalize w.heap.size + 1 = G at *
          go_wp2_with fail
          refine (hfew _ hb).mono ?_
          rintro e w1 ⟨rfl, rfl⟩
          clear hfew
          go_wp2_with fail
          refine (hfew2 _ hb).mono ?_
          rintro e w1 ⟨rfl, rfl⟩
          clear hfew2
          go_upto_region 3 with fail
          refine wp_region_held_drew (S := fun w' => Below W.drew.heap.size W.drew w') (by kernel_rfl) (Below.refl _ _) ?_
          intro hHeld
          have hbd := Below.drew (Below.refl W.heap.size W)
          replace hb := bnext hb hbd
          replace hM := hM.below hbd
          replace hM2 := hM2.below hbd
          clear hbd
          generalize W.drew = wd at *
          refine rtake 0 rfl (by rfl) (by kernel_rfl) (by kernel_rfl) (by kernel_rfl) (fun _ _ _ h => h) hHeld (fun wx hwx => exec_load_msg _ rfl w.heap.size rfl (msgF h d) _ (hM.below hwx) (msgF_length _ _)) ?_
          try simp only [Act.put, List.setIfInBounds_toArray, List.set_cons_zero, List.set_cons_succ]
          refine rtake 1 rfl (by rfl) (by kernel_rfl) (by kernel_rfl) (by kernel_rfl) (fun _ _ _ h => h) hHeld (fun wx hwx => by go_simp; try with_reducible rfl) ?_
          try simp only [Act.put, List.setIfInBounds_toArray, List.set_cons_zero, List.set_cons_succ]
          refine rcall 2 rfl (by kernel_rfl) (by rfl) (fun K hK => ?_)
          go_simp
          refine (tlvs00_any _ l wd (HT.out _ hb) (by have := HL.out; omega)).mono ?_
          rintro e wa ⟨va, rfl, oa, ba⟩
          refine hK.out _ _ ba ?_
          clear hK K
          refine wpAnyH_mono (S' := fun w' => Below wa.heap.size wa w') (fun w' h => bnext ba h) _ _ _ _ ?_
          replace hb := bnext hb ba
          replace hM := hM.below ba
          replace hM2 := hM2.below ba
          clear hHeld ba
          have hHeld := Below.refl wa.heap.size wa
          try simp only [Act.put, List.setIfInBounds_toArray, List.set_cons_zero, List.set_cons_succ]
          refine rcall 3 rfl (by kernel_rfl) (by rfl) (fun K hK => ?_)
          go_simp
          refine (HPUT.out va wa oa.tlvs).mono ?_
          rintro e wb ⟨rfl, ba⟩
          refine hK.out _ _ ba ?_
          clear hK K
          refine wpAnyH_mono (S' := fun w' => Below wb.heap.size wb w') (fun w' h => bnext ba h) _ _ _ _ ?_
          replace hb := bnext hb ba
          replace hM := hM.below ba
          replace hM2 := hM2.below ba
          clear hHeld ba oa
          have hHeld := Below.refl wb.heap.size wb
          try simp only [Act.put, List.setIfInBounds_toArray, List.set_cons_zero, List.set_cons_succ]
          refine rtake 4 rfl (by rfl) (by kernel_rfl) (by kernel_rfl) (by kernel_rfl) (fun _ _ _ h => h) hHeld (fun wx hwx => by go_simp; try with_reducible rfl) ?_
          try simp only [Act.put, List.setIfInBounds_toArray, List.set_cons_zero, List.set_cons_succ]
          refine rtake 5 rfl (by rfl) (by kernel_rfl) (by kernel_rfl) (by kernel_rfl) (fun _ _ _ h => h) hHeld (fun wx hwx => by go_simp; try with_reducible rfl) ?_
          try simp only [Act.put, List.setIfInBounds_toArray, List.set_cons_zero, List.set_cons_succ]
          refine rtake 6 rfl (by rfl) (by kernel_rfl) (by kernel_rfl) (by kernel_rfl) (fun _ _ _ h => h) hHeld (fun wx hwx => by go_simp; try with_reducible rfl) ?_
          try simp only [Act.put, List.setIfInBounds_toArray, List.set_cons_zero, List.set_cons_succ]
          refine rtake 7 rfl (by rfl) (by kernel_rfl) (by kernel_rfl) (by kernel_rfl) (fun _ _ _ h => h) hHeld (fun wx hwx => by go_simp; try with_reducible rfl) ?_
          try simp only [Act.put, List.setIfInBounds_toArray, List.set_cons_zero, List.set_cons_succ]
          refine rtake 8 rfl (by rfl) (by kernel_rfl) (by kernel_rfl) (by kernel_rfl) (fun _ _ _ h => h) hHeld (fun wx hwx => by go_simp; try with_reducible rfl) ?_
          try simp only [Act.put, List.setIfInBounds_toArray, List.set_cons_zero, List.set_cons_succ]
          refine wpAnyH_done (by kernel_rfl) ?_ _
          clear hHeld
          go_upto_region 4 with fail
          refine wp_region_held_drew (S := fun w' => Below wb.drew.heap.size wb.drew w') (by kernel_rfl) (Below.refl _ _) ?_
          intro hHeld
          have hbd := Below.drew (Below.refl wb.heap.size wb)
          replace hb := bnext hb hbd
          replace hM := hM.below hbd
          replace hM2 := hM2.below hbd
          clear hbd
          generalize wb.drew = wd at *
          refine rtake 0 rfl (by rfl) (by kernel_rfl) (by kernel_rfl) (by kernel_rfl) (fun _ _ _ h => h) hHeld (fun wx hwx => exec_load_msg _ rfl G rfl (msgF h2 d2) _ (hM2.below hwx) (msgF_length _ _)) ?_
          try simp only [Act.put, List.setIfInBounds_toArray, List.set_cons_zero, List.set_cons_succ]
          refine rtake 1 rfl (by rfl) (by kernel_rfl) (by kernel_rfl) (by kernel_rfl) (fun _ _ _ h => h) hHeld (fun wx hwx => by go_simp; try with_reducible rfl) ?_
          try simp only [Act.put, List.setIfInBounds_toArray, List.set_cons_zero, List.set_cons_succ]
          refine rcall 2 rfl (by kernel_rfl) (by rfl) (fun K hK => ?_)
          go_simp
          refine (tlvs00_any _ k wd (HT2.out _ hb) (by have := HL2.out; omega)).mono ?_
          rintro e wc ⟨va2, rfl, oa, ba⟩
          refine hK.out _ _ ba ?_
          clear hK K
          refine wpAnyH_mono (S' := fun w' => Below wc.heap.size wc w') (fun w' h => bnext ba h) _ _ _ _ ?_
          replace hb := bnext hb ba
          replace hM := hM.below ba
          replace hM2 := hM2.below ba
          clear hHeld ba
          have hHeld := Below.refl wc.heap.size wc
          try simp only [Act.put, List.setIfInBounds_toArray, List.set_cons_zero, List.set_cons_succ]
          refine rcall 3 rfl (by kernel_rfl) (by rfl) (fun K hK => ?_)
          go_simp
          refine (HPUT2.out va2 wc oa.tlvs).mono ?_
          rintro e we ⟨rfl, ba⟩
          refine hK.out _ _ ba ?_
          clear hK K
          refine wpAnyH_mono (S' := fun w' => Below we.heap.size we w') (fun w' h => bnext ba h) _ _ _ _ ?_
          replace hb := bnext hb ba
          replace hM := hM.below ba
          replace hM2 := hM2.below ba
          clear hHeld ba oa
          have hHeld := Below.refl we.heap.size we
          try simp only [Act.put, List.setIfInBounds_toArray, List.set_cons_zero, List.set_cons_succ]
          refine rtake 4 rfl (by rfl) (by kernel_rfl) (by kernel_rfl) (by kernel_rfl) (fun _ _ _ h => h) hHeld (fun wx hwx => by go_simp; try with_reducible rfl) ?_
          try simp only [Act.put, List.setIfInBounds_toArray, List.set_cons_zero, List.set_cons_succ]
          refine rtake 5 rfl (by rfl) (by kernel_rfl) (by kernel_rfl) (by kernel_rfl) (fun _ _ _ h => h) hHeld (fun wx hwx => by go_simp; try with_reducible rfl) ?_
          try simp only [Act.put, List.setIfInBounds_toArray, List.set_cons_zero, List.set_cons_succ]
          refine rtake 6 rfl (by rfl) (by kernel_rfl) (by kernel_rfl) (by kernel_rfl) (fun _ _ _ h => h) hHeld (fun wx hwx => by go_simp; try with_reducible rfl) ?_
          try simp only [Act.put, List.setIfInBounds_toArray, List.set_cons_zero, List.set_cons_succ]
          refine rtake 7 rfl (by rfl) (by kernel_rfl) (by kernel_rfl) (by kernel_rfl) (fun _ _ _ h => h) hHeld (fun wx hwx => by go_simp; try with_reducible rfl) ?_
          try simp only [Act.put, List.setIfInBounds_toArray, List.set_cons_zero, List.set_cons_succ]
          refine rtake 8 rfl (by rfl) (by kernel_rfl) (by kernel_rfl) (by kernel_rfl) (fun _ _ _ h => h) hHeld (fun wx hwx => by go_simp; try with_reducible rfl) ?_
          try simp only [Act.put, List.setIfInBounds_toArray, List.set_cons_zero, List.set_cons_succ]
          refine wpAnyH_done (by kernel_rfl) ?_ _
          clear hHeld
          clear hM hM2
          go_wp2_with fail
          refine (awake09_any _).mono ?_
          rintro e wz ⟨rfl, bz⟩
          go_wp2_with fail
          go_ret
          exact ⟨rfl, bnext hb bz⟩

end Go.Proofs.Ytohgpnlihfcecaa
