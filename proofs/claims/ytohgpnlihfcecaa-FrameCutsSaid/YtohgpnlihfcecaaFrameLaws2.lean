/- The walks of FrameBack and FrameCuts (gen_framelaws.py). -/
import Derived.Test.YtohgpnlihfcecaaFrameLaws0
namespace Go.Proofs.Ytohgpnlihfcecaa
open Go.RowKit Go.Proofs
set_option maxRecDepth 50000
set_option linter.unusedVariables false
set_option linter.unusedSimpArgs false

theorem upto_str (s : List UInt8) (n : Nat) (h : n ≤ s.length) : (⟨s.toArray⟩ : ByteArray).extract 0 n = ⟨(s.take n).toArray⟩ := by
  apply ByteArray.ext
  simp [ByteArray.data_extract]

set_option maxRecDepth 100000 in
set_option maxHeartbeats 8000000 in
theorem frameBack_walk {w : World} (h : Hd) (d : Bd) (hok : MsgOk h d) (v : Value) (l : List T2) (hT : Tlvs w v l) (hl : l.length * 24 ≤ 140737488351232) (dm : Int) (wd : (Lit.int .i64 dm).wf = true) :
    Calls Try.prog 5 #[.agg (msgF h d).toArray, v, .int .i64 dm] w fun e w' => e = .returned (.bool true) ∧ Below w.heap.size w w' := by
  have hfew := fun (wx : World) (h : Below w.heap.size w wx) => few09_any v l wx (hT.below h) (by omega)
  have HT := hid fun (wx : World) (h : Below w.heap.size w wx) => hT.below h
  obtain ⟨p, capT, rfl, -, -, -⟩ := hT
  have HL := hid hl
  clear hl
  cases hF : fewB l with
  | false =>
    rw [hF] at hfew
    go_enter Try.func5, Try.ntmps5
    go_upto_region 1 with fail
    obtain ⟨W, hWe, hb, hM⟩ := box_msg w (msgF h d)
    rw [← hWe]
    clear hWe
    go_wp2_with fail
    refine (hfew _ hb).mono ?_
    rintro e w1 ⟨rfl, rfl⟩
    go_wp2_with fail
    refine (awake09_any _).mono ?_
    rintro e wz ⟨rfl, bz⟩
    go_wp2_with fail
    go_ret
    exact ⟨rfl, bnext hb bz⟩
  | true =>
    have hsz : ∀ q ∈ l, q.2.length ≤ 140737488355328 := fun q hq => by have := few_all9 hF q hq; omega
    have hput := fun (v : Value) (wx : World) (hT : Tlvs wx v l) => framePut_any h d v l wx hok hT (by have := HL.out; omega) hsz
    rw [hF] at hfew
    clear hF hsz
    cases hB : frameB h d l with
    | false =>
      rw [frameP_no hB] at hput
      have HPUT := hid hput
      clear hput hB
      go_enter Try.func5, Try.ntmps5
      go_upto_region 1 with fail
      obtain ⟨W, hWe, hb, hM⟩ := box_msg w (msgF h d)
      rw [← hWe]
      clear hWe
      go_wp2_with fail
      refine (hfew _ hb).mono ?_
      rintro e w1 ⟨rfl, rfl⟩
      clear hfew
      go_upto_region 3 with fail
      refine wp_region_held_drew (S := fun w' => Below W.drew.heap.size W.drew w') (by kernel_rfl) (Below.refl _ _) ?_
      intro hHeld
      have hbd := Below.drew (Below.refl W.heap.size W)
      replace hb := bnext hb hbd
      replace hM := hM.below hbd
      clear hbd
      generalize W.drew = wd at *
      refine rtake 0 rfl (by rfl) (by kernel_rfl) (by kernel_rfl) (by kernel_rfl) (fun _ _ _ h => h) hHeld (fun wx hwx => exec_load_msg _ rfl w.heap.size rfl (msgF h d) _ (hM.below hwx) (msgF_length _ _)) ?_
      try simp only [Act.put, List.setIfInBounds_toArray, List.set_cons_zero, List.set_cons_succ]
      refine rtake 1 rfl (by rfl) (by kernel_rfl) (by kernel_rfl) (by kernel_rfl) (fun _ _ _ h => h) hHeld (fun wx hwx => by go_simp; try with_reducible rfl) ?_
      try simp only [Act.put, List.setIfInBounds_toArray, List.set_cons_zero, List.set_cons_succ]
      refine rcall 2 rfl (by kernel_rfl) (by rfl) (fun K hK => ?_)
      go_simp
      refine (tlvs00_any _ l wd (HT.out _ hb) (by have := HL.out; omega)).mono ?_
      rintro e wa ⟨va, rfl, oa, ba⟩
      refine hK.out _ _ ba ?_
      clear hK K
      refine wpAnyH_mono (S' := fun w' => Below wa.heap.size wa w') (fun w' h => bnext ba h) _ _ _ _ ?_
      replace hb := bnext hb ba
      replace hM := hM.below ba
      clear hHeld ba
      have hHeld := Below.refl wa.heap.size wa
      try simp only [Act.put, List.setIfInBounds_toArray, List.set_cons_zero, List.set_cons_succ]
      refine rcall 3 rfl (by kernel_rfl) (by rfl) (fun K hK => ?_)
      go_simp
      refine (HPUT.out va wa oa.tlvs).mono ?_
      rintro e wb ⟨rfl, ba⟩
      refine hK.out _ _ ba ?_
      clear hK K
      refine wpAnyH_mono (S' := fun w' => Below wb.heap.size wb w') (fun w' h => bnext ba h) _ _ _ _ ?_
      replace hb := bnext hb ba
      replace hM := hM.below ba
      clear hHeld ba oa
      have hHeld := Below.refl wb.heap.size wb
      try simp only [Act.put, List.setIfInBounds_toArray, List.set_cons_zero, List.set_cons_succ]
      refine rtake 4 rfl (by rfl) (by kernel_rfl) (by kernel_rfl) (by kernel_rfl) (fun _ _ _ h => h) hHeld (fun wx hwx => by go_simp; try with_reducible rfl) ?_
      try simp only [Act.put, List.setIfInBounds_toArray, List.set_cons_zero, List.set_cons_succ]
      refine rtake 5 rfl (by rfl) (by kernel_rfl) (by kernel_rfl) (by kernel_rfl) (fun _ _ _ h => h) hHeld (fun wx hwx => by go_simp; try with_reducible rfl) ?_
      try simp only [Act.put, List.setIfInBounds_toArray, List.set_cons_zero, List.set_cons_succ]
      refine rtake 6 rfl (by rfl) (by kernel_rfl) (by kernel_rfl) (by kernel_rfl) (fun _ _ _ h => h) hHeld (fun wx hwx => by go_simp; try with_reducible rfl) ?_
      try simp only [Act.put, List.setIfInBounds_toArray, List.set_cons_zero, List.set_cons_succ]
      refine rtake 7 rfl (by rfl) (by kernel_rfl) (by kernel_rfl) (by kernel_rfl) (fun _ _ _ h => h) hHeld (fun wx hwx => by go_simp; try with_reducible rfl) ?_
      try simp only [Act.put, List.setIfInBounds_toArray, List.set_cons_zero, List.set_cons_succ]
      refine rtake 8 rfl (by rfl) (by kernel_rfl) (by kernel_rfl) (by kernel_rfl) (fun _ _ _ h => h) hHeld (fun wx hwx => by go_simp; try with_reducible rfl) ?_
      try simp only [Act.put, List.setIfInBounds_toArray, List.set_cons_zero, List.set_cons_succ]
      refine wpAnyH_done (by kernel_rfl) ?_ _
      clear hHeld
      clear hM
      go_wp2_with fail
      refine (awake09_any _).mono ?_
      rintro e wz ⟨rfl, bz⟩
      go_wp2_with fail
      go_ret
      exact ⟨rfl, bnext hb bz⟩
    | true =>
      rw [frameP_yes hB] at hput
      obtain ⟨q1, q2, q3, q4⟩ := frame_back hok hB
      obtain ⟨-, -, hn, -, hlen⟩ := frameB_parts hB
      have hFl : (frameS h d l).length ≤ 400 := by omega
      clear hn hlen hB
      generalize frameS h d l = FS at *
      have hget := fun wx => frameGet_any FS wx (by omega)
      have hhere := fun wx => frameHere_any FS dm wx (by omega)
      have hE : (hereE FS dm = 0 ∧ (dm == h.dm) = true) ∨ (hereE FS dm = 6 ∧ (dm == h.dm) = false) := by
        unfold hereE otherB
        rw [q1, q2]
        by_cases hd : dm = h.dm
        · left
          subst hd
          exact ⟨by simp, beq_self_eq_true _⟩
        · right
          exact ⟨by simp [Ne.symm hd], beq_false_of_ne hd⟩
      rw [q1, q2, q3, q4] at hget
      clear q1 q2 q3 q4
      generalize hereE FS dm = E' at *
      generalize hereH FS dm = H' at *
      generalize hereD FS dm = D' at *
      generalize hereT FS dm = T' at *
      have hS := same_self9 h d
      have HPUT := hid hput
      clear hput
      have hFI : (FS.length : Int) ≤ 400 := by omega
      rcases hE with ⟨rfl, hI⟩ | ⟨rfl, hI⟩
      all_goals
        go_enter Try.func5, Try.ntmps5
        go_upto_region 1 with fail
        obtain ⟨W, hWe, hb, hM⟩ := box_msg w (msgF h d)
        rw [← hWe]
        clear hWe
        go_wp2_with fail
        refine (hfew _ hb).mono ?_
        rintro e w1 ⟨rfl, rfl⟩
        clear hfew
        go_upto_region 3 with fail
        refine wp_region_held_drew (S := fun w' => Below W.drew.heap.size W.drew w') (by kernel_rfl) (Below.refl _ _) ?_
        intro hHeld
        have hbd := Below.drew (Below.refl W.heap.size W)
        replace hb := bnext hb hbd
        replace hM := hM.below hbd
        clear hbd
        generalize W.drew = wd at *
        refine rtake 0 rfl (by rfl) (by kernel_rfl) (by kernel_rfl) (by kernel_rfl) (fun _ _ _ h => h) hHeld (fun wx hwx => exec_load_msg _ rfl w.heap.size rfl (msgF h d) _ (hM.below hwx) (msgF_length _ _)) ?_
        try simp only [Act.put, List.setIfInBounds_toArray, List.set_cons_zero, List.set_cons_succ]
        refine rtake 1 rfl (by rfl) (by kernel_rfl) (by kernel_rfl) (by kernel_rfl) (fun _ _ _ h => h) hHeld (fun wx hwx => by go_simp; try with_reducible rfl) ?_
        try simp only [Act.put, List.setIfInBounds_toArray, List.set_cons_zero, List.set_cons_succ]
        refine rcall 2 rfl (by kernel_rfl) (by rfl) (fun K hK => ?_)
        go_simp
        refine (tlvs00_any _ l wd (HT.out _ hb) (by have := HL.out; omega)).mono ?_
        rintro e wa ⟨va, rfl, oa, ba⟩
        refine hK.out _ _ ba ?_
        clear hK K
        refine wpAnyH_mono (S' := fun w' => Below wa.heap.size wa w') (fun w' h => bnext ba h) _ _ _ _ ?_
        replace hb := bnext hb ba
        replace hM := hM.below ba
        clear hHeld ba
        have hHeld := Below.refl wa.heap.size wa
        try simp only [Act.put, List.setIfInBounds_toArray, List.set_cons_zero, List.set_cons_succ]
        refine rcall 3 rfl (by kernel_rfl) (by rfl) (fun K hK => ?_)
        go_simp
        refine (HPUT.out va wa oa.tlvs).mono ?_
        rintro e wb ⟨rfl, ba⟩
        refine hK.out _ _ ba ?_
        clear hK K
        refine wpAnyH_mono (S' := fun w' => Below wb.heap.size wb w') (fun w' h => bnext ba h) _ _ _ _ ?_
        replace hb := bnext hb ba
        replace hM := hM.below ba
        clear hHeld ba oa
        have hHeld := Below.refl wb.heap.size wb
        try simp only [Act.put, List.setIfInBounds_toArray, List.set_cons_zero, List.set_cons_succ]
        refine rtake 4 rfl (by rfl) (by kernel_rfl) (by kernel_rfl) (by kernel_rfl) (fun _ _ _ h => h) hHeld (fun wx hwx => by go_simp; try with_reducible rfl) ?_
        try simp only [Act.put, List.setIfInBounds_toArray, List.set_cons_zero, List.set_cons_succ]
        refine rtake 5 rfl (by rfl) (by kernel_rfl) (by kernel_rfl) (by kernel_rfl) (fun _ _ _ h => h) hHeld (fun wx hwx => by go_simp; try with_reducible rfl) ?_
        try simp only [Act.put, List.setIfInBounds_toArray, List.set_cons_zero, List.set_cons_succ]
        refine rtake 6 rfl (by rfl) (by kernel_rfl) (by kernel_rfl) (by kernel_rfl) (fun _ _ _ h => h) hHeld (fun wx hwx => by go_simp; try with_reducible rfl) ?_
        try simp only [Act.put, List.setIfInBounds_toArray, List.set_cons_zero, List.set_cons_succ]
        refine rtake 7 rfl (by rfl) (by kernel_rfl) (by kernel_rfl) (by kernel_rfl) (fun _ _ _ h => h) hHeld (fun wx hwx => by go_simp; try with_reducible rfl) ?_
        try simp only [Act.put, List.setIfInBounds_toArray, List.set_cons_zero, List.set_cons_succ]
        refine rtake 8 rfl (by rfl) (by kernel_rfl) (by kernel_rfl) (by kernel_rfl) (fun _ _ _ h => h) hHeld (fun wx hwx => by go_simp; try with_reducible rfl) ?_
        try simp only [Act.put, List.setIfInBounds_toArray, List.set_cons_zero, List.set_cons_succ]
        refine wpAnyH_done (by kernel_rfl) ?_ _
        clear hHeld
        go_wp2_with fail
        refine (hget _).mono ?_
        rintro e w4 ⟨v4, rfl, o1, b4⟩
        replace hb := bnext hb b4
        replace hM := hM.below b4
        have N := Box.new w4 (msgL hd0 zr) 28
        have nb := bnew w4 (Obj.cells (msgL hd0 zr).toArray 28)
        go_upto_region 7 with (guard_target =~ wpList _ _ _ (⟨none, _, _, _, _, _⟩ :: _) _ _; refine wpList_store_msg (op := ⟨none, .store _ _ _, _, _, _, _⟩) (by rfl) _ _ (by rfl) w4.heap.size (msgF h d) (msgL hd0 zr) _ (by rfl) (by rfl) N (msgF_length _ _) (msgL_length _ _ zr_length) (msgL_one _ _ (bdL_one _)) ?_)
        have B1 := N.row (msgF h d)
        replace nb := below_setRow nb (Nat.le_refl _) (msgF h d).toArray
        change Code.wp _ _ _ _ ((w4.alloc (Obj.cells (msgL hd0 zr).toArray 28)).setRow w4.heap.size (msgF h d).toArray)
        generalize ((w4.alloc (Obj.cells (msgL hd0 zr).toArray 28)).setRow w4.heap.size (msgF h d).toArray) = W4 at *
        generalize hgB1 : w4.heap.size = gB1 at *
        have nc : Below w4.heap.size w4 W4 := by rw [hgB1]; exact nb
        replace hb := bnext hb nc
        replace o1 := o1.below nc
        replace hM := hM.below nc
        clear N nb nc
        go_wp2_with fail
        refine (hhere _).mono ?_
        rintro e w5 ⟨v5, rfl, -, b5⟩
        replace hb := bnext hb b5
        replace o1 := o1.below b5
        replace hM := hM.below b5
        replace B1 := B1.below b5
        have N := Box.new w5 (msgL hd0 zr) 28
        have nb := bnew w5 (Obj.cells (msgL hd0 zr).toArray 28)
        go_upto_region 8 with (guard_target =~ wpList _ _ _ (⟨none, _, _, _, _, _⟩ :: _) _ _; refine wpList_store_msg (op := ⟨none, .store _ _ _, _, _, _, _⟩) (by rfl) _ _ (by rfl) w5.heap.size (msgF H' D') (msgL hd0 zr) _ (by rfl) (by rfl) N (msgF_length _ _) (msgL_length _ _ zr_length) (msgL_one _ _ (bdL_one _)) ?_)
        have B2 := N.row (msgF H' D')
        replace nb := below_setRow nb (Nat.le_refl _) (msgF H' D').toArray
        change Code.wp _ _ _ _ ((w5.alloc (Obj.cells (msgL hd0 zr).toArray 28)).setRow w5.heap.size (msgF H' D').toArray)
        generalize ((w5.alloc (Obj.cells (msgL hd0 zr).toArray 28)).setRow w5.heap.size (msgF H' D').toArray) = W5 at *
        generalize hgB2 : w5.heap.size = gB2 at *
        have nc : Below w5.heap.size w5 W5 := by rw [hgB2]; exact nb
        replace hb := bnext hb nc
        replace o1 := o1.below nc
        replace hM := hM.below nc
        replace B1 := B1.below nc
        clear N nb nc
        clear hget hhere HPUT B2
        go_wp2_with (first | (guard_target =~ wpList _ _ _ (⟨some 49, _, _, _, _, _⟩ :: _) _ _; refine wpList_load_msg_g (op := ⟨some 49, .load _ _, _, _, _, _⟩) (by rfl) _ (by rfl) gB1 (by rfl) (msgF h d) _ B1 (msgF_length _ _) ?_) | (guard_target =~ wpList _ _ _ (⟨some 50, _, _, _, _, _⟩ :: _) _ _; refine wpList_load_msg_g (op := ⟨some 50, .load _ _, _, _, _, _⟩) (by rfl) _ (by rfl) w.heap.size (by rfl) (msgF h d) _ hM (msgF_length _ _) ?_))
        refine (sameTlvs_any _ _ l l _ o1.tlvs (HT.out _ hb) (by have := HL.out; omega) (by have := HL.out; omega)).mono ?_
        rintro e w6 ⟨rfl, b6⟩
        rw [beq_self_eq_true]
        replace hb := bnext hb b6
        have c1 := (hM.below b6).cell 1 _ rfl
        clear hM
        go_wp2_with fail
        refine (awake09_any _).mono ?_
        rintro e wz ⟨rfl, bz⟩
        go_wp2_with fail
        go_ret
        exact ⟨rfl, bnext hb bz⟩

set_option maxRecDepth 100000 in
set_option maxHeartbeats 8000000 in
theorem frameCuts_walk {w : World} (h : Hd) (d : Bd) (hok : MsgOk h d) (v : Value) (l : List T2) (hT : Tlvs w v l) (hl : l.length * 24 ≤ 140737488351232) (at' : Int) (wt : (Lit.int .i64 at').wf = true) (v2 : Value) (more : List UInt8) (hB : Bytes w v2 more) (hbl : more.length ≤ 140737488351232) :
    Calls Try.prog 6 #[.agg (msgF h d).toArray, v, .int .i64 at', v2] w fun e w' => e = .returned (.bool true) ∧ Below w.heap.size w w' := by
  have hfew := fun (wx : World) (h : Below w.heap.size w wx) => few09_any v l wx (hT.below h) (by omega)
  have HT := hid fun (wx : World) (h : Below w.heap.size w wx) => hT.below h
  obtain ⟨p, capT, rfl, -, -, -⟩ := hT
  have HL := hid hl
  clear hl
  have HB := hid fun (wx : World) (h : Below w.heap.size w wx) => hB.below h
  obtain ⟨p2, cap2, rfl, -, -, -⟩ := id hB
  have HBL := hid hbl
  clear hB hbl wt
  cases hF : fewB l with
  | false =>
    rw [hF] at hfew
    go_enter Try.func6, Try.ntmps6
    go_upto_region 1 with fail
    obtain ⟨W, hWe, hb, hM⟩ := box_msg w (msgF h d)
    rw [← hWe]
    clear hWe
    go_wp2_with fail
    refine (hfew _ hb).mono ?_
    rintro e w1 ⟨rfl, rfl⟩
    go_wp2_with fail
    refine (awake09_any _).mono ?_
    rintro e wz ⟨rfl, bz⟩
    go_wp2_with fail
    go_ret
    exact ⟨rfl, bnext hb bz⟩
  | true =>
    have hsz : ∀ q ∈ l, q.2.length ≤ 140737488355328 := fun q hq => by have := few_all9 hF q hq; omega
    have hput := fun (v : Value) (wx : World) (hT : Tlvs wx v l) => framePut_any h d v l wx hok hT (by have := HL.out; omega) hsz
    rw [hF] at hfew
    clear hF hsz
    by_cases hm : more.length ≤ 50
    · have hmI : ¬ 50 < (more.length : Int) := by omega
      cases hB : frameB h d l with
      | false =>
        rw [frameP_no hB] at hput
        have HPUT := hid hput
        clear hput hB
        go_enter Try.func6, Try.ntmps6
        go_upto_region 1 with fail
        obtain ⟨W, hWe, hb, hM⟩ := box_msg w (msgF h d)
        rw [← hWe]
        clear hWe
        go_wp2_with fail
        refine (hfew _ hb).mono ?_
        rintro e w1 ⟨rfl, rfl⟩
        clear hfew
        go_upto_region 3 with fail
        refine wp_region_held_drew (S := fun w' => Below W.drew.heap.size W.drew w') (by kernel_rfl) (Below.refl _ _) ?_
        intro hHeld
        have hbd := Below.drew (Below.refl W.heap.size W)
        replace hb := bnext hb hbd
        replace hM := hM.below hbd
        clear hbd
        generalize W.drew = wd at *
        refine rtake 0 rfl (by rfl) (by kernel_rfl) (by kernel_rfl) (by kernel_rfl) (fun _ _ _ h => h) hHeld (fun wx hwx => exec_load_msg _ rfl w.heap.size rfl (msgF h d) _ (hM.below hwx) (msgF_length _ _)) ?_
        try simp only [Act.put, List.setIfInBounds_toArray, List.set_cons_zero, List.set_cons_succ]
        refine rtake 1 rfl (by rfl) (by kernel_rfl) (by kernel_rfl) (by kernel_rfl) (fun _ _ _ h => h) hHeld (fun wx hwx => by go_simp; try with_reducible rfl) ?_
        try simp only [Act.put, List.setIfInBounds_toArray, List.set_cons_zero, List.set_cons_succ]
        refine rcall 2 rfl (by kernel_rfl) (by rfl) (fun K hK => ?_)
        go_simp
        refine (tlvs00_any _ l wd (HT.out _ hb) (by have := HL.out; omega)).mono ?_
        rintro e wa ⟨va, rfl, oa, ba⟩
        refine hK.out _ _ ba ?_
        clear hK K
        refine wpAnyH_mono (S' := fun w' => Below wa.heap.size wa w') (fun w' h => bnext ba h) _ _ _ _ ?_
        replace hb := bnext hb ba
        replace hM := hM.below ba
        clear hHeld ba
        have hHeld := Below.refl wa.heap.size wa
        try simp only [Act.put, List.setIfInBounds_toArray, List.set_cons_zero, List.set_cons_succ]
        refine rcall 3 rfl (by kernel_rfl) (by rfl) (fun K hK => ?_)
        go_simp
        refine (HPUT.out va wa oa.tlvs).mono ?_
        rintro e wb ⟨rfl, ba⟩
        refine hK.out _ _ ba ?_
        clear hK K
        refine wpAnyH_mono (S' := fun w' => Below wb.heap.size wb w') (fun w' h => bnext ba h) _ _ _ _ ?_
        replace hb := bnext hb ba
        replace hM := hM.below ba
        clear hHeld ba oa
        have hHeld := Below.refl wb.heap.size wb
        try simp only [Act.put, List.setIfInBounds_toArray, List.set_cons_zero, List.set_cons_succ]
        refine rtake 4 rfl (by rfl) (by kernel_rfl) (by kernel_rfl) (by kernel_rfl) (fun _ _ _ h => h) hHeld (fun wx hwx => by go_simp; try with_reducible rfl) ?_
        try simp only [Act.put, List.setIfInBounds_toArray, List.set_cons_zero, List.set_cons_succ]
        refine rtake 5 rfl (by rfl) (by kernel_rfl) (by kernel_rfl) (by kernel_rfl) (fun _ _ _ h => h) hHeld (fun wx hwx => by go_simp; try with_reducible rfl) ?_
        try simp only [Act.put, List.setIfInBounds_toArray, List.set_cons_zero, List.set_cons_succ]
        refine rtake 6 rfl (by rfl) (by kernel_rfl) (by kernel_rfl) (by kernel_rfl) (fun _ _ _ h => h) hHeld (fun wx hwx => by go_simp; try with_reducible rfl) ?_
        try simp only [Act.put, List.setIfInBounds_toArray, List.set_cons_zero, List.set_cons_succ]
        refine rtake 7 rfl (by rfl) (by kernel_rfl) (by kernel_rfl) (by kernel_rfl) (fun _ _ _ h => h) hHeld (fun wx hwx => by go_simp; try with_reducible rfl) ?_
        try simp only [Act.put, List.setIfInBounds_toArray, List.set_cons_zero, List.set_cons_succ]
        refine rtake 8 rfl (by rfl) (by kernel_rfl) (by kernel_rfl) (by kernel_rfl) (fun _ _ _ h => h) hHeld (fun wx hwx => by go_simp; try with_reducible rfl) ?_
        try simp only [Act.put, List.setIfInBounds_toArray, List.set_cons_zero, List.set_cons_succ]
        refine wpAnyH_done (by kernel_rfl) ?_ _
        clear hHeld
        clear hM
        go_wp2_with fail
        refine (awake09_any _).mono ?_
        rintro e wz ⟨rfl, bz⟩
        go_wp2_with fail
        go_ret
        exact ⟨rfl, bnext hb bz⟩
      | true =>
        rw [frameP_yes hB] at hput
        obtain ⟨-, -, hn, -, hlen⟩ := frameB_parts hB
        have hN : 34 ≤ frameN h l := by have h1 := lenI_in h.ty; unfold frameN; omega
        have hFl : (frameS h d l).length ≤ 400 := by omega
        have hF0 : 0 < (frameS h d l).length := by omega
        obtain ⟨K, hK⟩ : ∃ K : Nat, at' % ((frameS h d l).length : Int) = (K : Int) := ⟨(at' % ((frameS h d l).length : Int)).toNat, by have := Int.emod_nonneg at' (show ((frameS h d l).length : Int) ≠ 0 by omega); omega⟩
        have hKL : K < (frameS h d l).length := by
          have := Int.emod_lt_of_pos at' (show (0 : Int) < ((frameS h d l).length : Int) by omega)
          omega
        have hcut := frame_cut hok hB K hKL
        have hE : (frameE (frameS h d l ++ more) = 0 ∧ ((more.length : Int) == 0) = true) ∨ (frameE (frameS h d l ++ more) = 3 ∧ ((more.length : Int) == 0) = false) := by
          by_cases h0 : more.length = 0
          · left
            obtain rfl := List.length_eq_zero_iff.1 h0
            rw [List.append_nil]
            exact ⟨(frame_back hok hB).1, rfl⟩
          · right
            exact ⟨frame_long hok hB more (by omega), beq_false_of_ne (by omega)⟩
        clear hn hlen hB hN
        generalize frameS h d l = FS at *
        obtain ⟨n1, n2, n3⟩ := frame_no (b := FS.take K) (by rw [hcut]; decide)
        have hget := fun wx => frameGet_any (FS.take K) wx (by rw [List.length_take]; omega)
        have hget2 := fun wx => frameGet_any (FS ++ more) wx (by rw [List.length_append]; omega)
        rw [n1, n2, n3, hcut] at hget
        clear n1 n2 n3 hcut
        have hplace := place_any at' (FS.length : Int)
        rw [hK] at hplace
        have hSl := upto_str FS K (by omega)
        have hcat := cat_bytes FS more
        have hs1 : ¬ 9223372036854775807 < FS.length + more.length := by omega
        generalize FS.take K = FK at *
        generalize FS ++ more = FM at *
        generalize frameE FM = E' at *
        generalize frameH FM = H' at *
        generalize frameD FM = D' at *
        generalize frameT FM = T' at *
        have HPUT := hid hput
        clear hput hK
        rcases hE with ⟨rfl, hI⟩ | ⟨rfl, hI⟩
        all_goals
          go_enter Try.func6, Try.ntmps6
          go_upto_region 1 with fail
          obtain ⟨W, hWe, hb, hM⟩ := box_msg w (msgF h d)
          rw [← hWe]
          clear hWe
          go_wp2_with fail
          refine (hfew _ hb).mono ?_
          rintro e w1 ⟨rfl, rfl⟩
          clear hfew
          go_upto_region 3 with fail
          refine wp_region_held_drew (S := fun w' => Below W.drew.heap.size W.drew w') (by kernel_rfl) (Below.refl _ _) ?_
          intro hHeld
          have hbd := Below.drew (Below.refl W.heap.size W)
          replace hb := bnext hb hbd
          replace hM := hM.below hbd
          clear hbd
          generalize W.drew = wd at *
          refine rtake 0 rfl (by rfl) (by kernel_rfl) (by kernel_rfl) (by kernel_rfl) (fun _ _ _ h => h) hHeld (fun wx hwx => exec_load_msg _ rfl w.heap.size rfl (msgF h d) _ (hM.below hwx) (msgF_length _ _)) ?_
          try simp only [Act.put, List.setIfInBounds_toArray, List.set_cons_zero, List.set_cons_succ]
          refine rtake 1 rfl (by rfl) (by kernel_rfl) (by kernel_rfl) (by kernel_rfl) (fun _ _ _ h => h) hHeld (fun wx hwx => by go_simp; try with_reducible rfl) ?_
          try simp only [Act.put, List.setIfInBounds_toArray, List.set_cons_zero, List.set_cons_succ]
          refine rcall 2 rfl (by kernel_rfl) (by rfl) (fun K hK => ?_)
          go_simp
          refine (tlvs00_any _ l wd (HT.out _ hb) (by have := HL.out; omega)).mono ?_
          rintro e wa ⟨va, rfl, oa, ba⟩
          refine hK.out _ _ ba ?_
          clear hK K
          refine wpAnyH_mono (S' := fun w' => Below wa.heap.size wa w') (fun w' h => bnext ba h) _ _ _ _ ?_
          replace hb := bnext hb ba
          replace hM := hM.below ba
          clear hHeld ba
          have hHeld := Below.refl wa.heap.size wa
          try simp only [Act.put, List.setIfInBounds_toArray, List.set_cons_zero, List.set_cons_succ]
          refine rcall 3 rfl (by kernel_rfl) (by rfl) (fun K hK => ?_)
          go_simp
          refine (HPUT.out va wa oa.tlvs).mono ?_
          rintro e wb ⟨rfl, ba⟩
          refine hK.out _ _ ba ?_
          clear hK K
          refine wpAnyH_mono (S' := fun w' => Below wb.heap.size wb w') (fun w' h => bnext ba h) _ _ _ _ ?_
          replace hb := bnext hb ba
          replace hM := hM.below ba
          clear hHeld ba oa
          have hHeld := Below.refl wb.heap.size wb
          try simp only [Act.put, List.setIfInBounds_toArray, List.set_cons_zero, List.set_cons_succ]
          refine rtake 4 rfl (by rfl) (by kernel_rfl) (by kernel_rfl) (by kernel_rfl) (fun _ _ _ h => h) hHeld (fun wx hwx => by go_simp; try with_reducible rfl) ?_
          try simp only [Act.put, List.setIfInBounds_toArray, List.set_cons_zero, List.set_cons_succ]
          refine rtake 5 rfl (by rfl) (by kernel_rfl) (by kernel_rfl) (by kernel_rfl) (fun _ _ _ h => h) hHeld (fun wx hwx => by go_simp; try with_reducible rfl) ?_
          try simp only [Act.put, List.setIfInBounds_toArray, List.set_cons_zero, List.set_cons_succ]
          refine rtake 6 rfl (by rfl) (by kernel_rfl) (by kernel_rfl) (by kernel_rfl) (fun _ _ _ h => h) hHeld (fun wx hwx => by go_simp; try with_reducible rfl) ?_
          try simp only [Act.put, List.setIfInBounds_toArray, List.set_cons_zero, List.set_cons_succ]
          refine rtake 7 rfl (by rfl) (by kernel_rfl) (by kernel_rfl) (by kernel_rfl) (fun _ _ _ h => h) hHeld (fun wx hwx => by go_simp; try with_reducible rfl) ?_
          try simp only [Act.put, List.setIfInBounds_toArray, List.set_cons_zero, List.set_cons_succ]
          refine rtake 8 rfl (by rfl) (by kernel_rfl) (by kernel_rfl) (by kernel_rfl) (fun _ _ _ h => h) hHeld (fun wx hwx => by go_simp; try with_reducible rfl) ?_
          try simp only [Act.put, List.setIfInBounds_toArray, List.set_cons_zero, List.set_cons_succ]
          refine wpAnyH_done (by kernel_rfl) ?_ _
          clear hHeld
          clear hM
          go_wp2_with fail
          refine (hplace _ (by omega) (by omega)).mono ?_
          rintro e w3 ⟨rfl, rfl⟩
          have hKI : (K : Int) ≤ (FS.length : Int) := by omega
          go_wp2_with fail
          refine (hget _).mono ?_
          rintro e w4 ⟨v4, rfl, -, b4⟩
          replace hb := bnext hb b4
          clear hSl hKI
          have N := Box.new w4 (msgL hd0 zr) 28
          have nb := bnew w4 (Obj.cells (msgL hd0 zr).toArray 28)
          go_upto_region 7 with (guard_target =~ wpList _ _ _ (⟨none, _, _, _, _, _⟩ :: _) _ _; refine wpList_store_msg (op := ⟨none, .store _ _ _, _, _, _, _⟩) (by rfl) _ _ (by rfl) w4.heap.size (msgF hd0 bd0) (msgL hd0 zr) _ (by rfl) (by rfl) N (msgF_length _ _) (msgL_length _ _ zr_length) (msgL_one _ _ (bdL_one _)) ?_)
          have B1 := N.row (msgF hd0 bd0)
          replace nb := below_setRow nb (Nat.le_refl _) (msgF hd0 bd0).toArray
          change Code.wp _ _ _ _ ((w4.alloc (Obj.cells (msgL hd0 zr).toArray 28)).setRow w4.heap.size (msgF hd0 bd0).toArray)
          generalize ((w4.alloc (Obj.cells (msgL hd0 zr).toArray 28)).setRow w4.heap.size (msgF hd0 bd0).toArray) = W4 at *
          generalize hgB1 : w4.heap.size = gB1 at *
          have nc : Below w4.heap.size w4 W4 := by rw [hgB1]; exact nb
          replace hb := bnext hb nc
          clear N nb nc
          have hst := (HB.out _ hb).str
          go_wp2_with fail
          refine (hget2 _).mono ?_
          rintro e w5 ⟨v5, rfl, -, b5⟩
          replace hb := bnext hb b5
          clear hst hcat hs1
          have N := Box.new w5 (msgL hd0 zr) 28
          have nb := bnew w5 (Obj.cells (msgL hd0 zr).toArray 28)
          go_upto_region 8 with (guard_target =~ wpList _ _ _ (⟨none, _, _, _, _, _⟩ :: _) _ _; refine wpList_store_msg (op := ⟨none, .store _ _ _, _, _, _, _⟩) (by rfl) _ _ (by rfl) w5.heap.size (msgF H' D') (msgL hd0 zr) _ (by rfl) (by rfl) N (msgF_length _ _) (msgL_length _ _ zr_length) (msgL_one _ _ (bdL_one _)) ?_)
          have B2 := N.row (msgF H' D')
          replace nb := below_setRow nb (Nat.le_refl _) (msgF H' D').toArray
          change Code.wp _ _ _ _ ((w5.alloc (Obj.cells (msgL hd0 zr).toArray 28)).setRow w5.heap.size (msgF H' D').toArray)
          generalize ((w5.alloc (Obj.cells (msgL hd0 zr).toArray 28)).setRow w5.heap.size (msgF H' D').toArray) = W5 at *
          generalize hgB2 : w5.heap.size = gB2 at *
          have nc : Below w5.heap.size w5 W5 := by rw [hgB2]; exact nb
          replace hb := bnext hb nc
          clear N nb nc
          clear hget hget2 HPUT B1 B2 hplace
          go_wp2_with fail
          refine (awake09_any _).mono ?_
          rintro e wz ⟨rfl, bz⟩
          go_wp2_with fail
          go_ret
          exact ⟨rfl, bnext hb bz⟩
    · have hmI : 50 < (more.length : Int) := by omega
      clear hput
      go_enter Try.func6, Try.ntmps6
      go_upto_region 1 with fail
      obtain ⟨W, hWe, hb, hM⟩ := box_msg w (msgF h d)
      rw [← hWe]
      clear hWe
      go_wp2_with fail
      refine (hfew _ hb).mono ?_
      rintro e w1 ⟨rfl, rfl⟩
      clear hfew
      go_wp2_with fail
      refine (awake09_any _).mono ?_
      rintro e wz ⟨rfl, bz⟩
      go_wp2_with fail
      go_ret
      exact ⟨rfl, bnext hb bz⟩

end Go.Proofs.Ytohgpnlihfcecaa
