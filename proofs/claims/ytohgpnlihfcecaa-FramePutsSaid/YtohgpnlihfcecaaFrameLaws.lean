/- The walks of FramePuts and FrameGets (gen_framelaws.py). -/
import Derived.Test.YtohgpnlihfcecaaFrameLaws0
namespace Go.Proofs.Ytohgpnlihfcecaa
open Go.RowKit Go.Proofs
set_option maxRecDepth 50000
set_option linter.unusedVariables false
set_option linter.unusedSimpArgs false

theorem getF_len9 (b : List UInt8) : ∀ (k A : Nat) (acc : List T2), (getF b k A acc).1.length ≤ acc.length + k
  | 0, A, acc => by unfold getF; split <;> simp
  | k + 1, A, acc => by
    unfold getF
    split
    · split
      · simp
      · split
        · simp
        · split
          · refine Nat.le_trans (getF_len9 b k _ _) ?_
            simp
            omega
          · simp
    · simp

theorem getT_len9 (b : List UInt8) (at' : Int) : (getT b at').1.length ≤ 8 := by
  unfold getT
  split
  · exact Nat.le_trans (getF_len9 b 8 _ _) (by simp)
  · simp

theorem frameT_len (b : List UInt8) : (frameT b).length ≤ 8 := by
  unfold frameT frameL
  split
  · exact getT_len9 _ _
  · exact Nat.zero_le _
theorem hereT_len (b : List UInt8) (dm : Int) : (hereT b dm).length ≤ 8 := by
  unfold hereT
  split
  · exact Nat.zero_le _
  · exact frameT_len b

set_option maxRecDepth 100000 in
set_option maxHeartbeats 8000000 in
theorem framePuts_walk {w : World} (h : Hd) (d : Bd) (hok : MsgOk h d) (v : Value) (l : List T2) (hT : Tlvs w v l) (hl : l.length * 24 ≤ 140737488351232) :
    Calls Try.prog 3 #[.agg (msgF h d).toArray, v] w fun e w' => e = .returned (.bool true) ∧ Below w.heap.size w w' := by
  have hfew := fun (wx : World) (h : Below w.heap.size w wx) => few09_any v l wx (hT.below h) (by omega)
  have HT := hid fun (wx : World) (h : Below w.heap.size w wx) => hT.below h
  obtain ⟨p, capT, rfl, -, -, -⟩ := hT
  have HL := hid hl
  clear hl
  cases hF : fewB l with
  | false =>
    rw [hF] at hfew
    go_enter Try.func3, Try.ntmps3
    go_upto_region 1 with fail
    obtain ⟨W, hWe, hb, hM⟩ := box_msg w (msgF h d)
    rw [← hWe]
    clear hWe
    go_wp2_with fail
    refine (hfew _ hb).mono ?_
    rintro e w1 ⟨rfl, rfl⟩
    go_wp2_with fail
    refine (awake09_any _).mono ?_
    rintro e wz ⟨rfl, bz⟩
    go_wp2_with fail
    go_ret
    exact ⟨rfl, bnext hb bz⟩
  | true =>
    have hsz : ∀ q ∈ l, q.2.length ≤ 140737488355328 := fun q hq => by have := few_all9 hF q hq; omega
    have HPUT := hid fun (v : Value) (wx : World) (hT : Tlvs wx v l) => framePut_any h d v l wx hok hT (by have := HL.out; omega) hsz
    have HREF := hid fun (v : Value) (wx : World) (hT : Tlvs wx v l) => refFramePut_any h d v l wx hok hT (by have := HL.out; omega) hsz
    rw [hF] at hfew
    clear hF hsz
    generalize frameP h d l = F at *
    obtain ⟨FS, FB⟩ := F
    go_enter Try.func3, Try.ntmps3
    go_upto_region 1 with fail
    obtain ⟨W, hWe, hb, hM⟩ := box_msg w (msgF h d)
    rw [← hWe]
    clear hWe
    go_wp2_with fail
    refine (hfew _ hb).mono ?_
    rintro e w1 ⟨rfl, rfl⟩
    clear hfew
    go_upto_region 3 with fail
    refine wp_region_held_drew (S := fun w' => Below W.drew.heap.size W.drew w') (by kernel_rfl) (Below.refl _ _) ?_
    intro hHeld
    have hbd := Below.drew (Below.refl W.heap.size W)
    replace hb := bnext hb hbd
    replace hM := hM.below hbd
    clear hbd
    generalize W.drew = wd at *
    refine rtake 0 rfl (by rfl) (by kernel_rfl) (by kernel_rfl) (by kernel_rfl) (fun _ _ _ h => h) hHeld (fun wx hwx => exec_load_msg _ rfl w.heap.size rfl (msgF h d) _ (hM.below hwx) (msgF_length _ _)) ?_
    try simp only [Act.put, List.setIfInBounds_toArray, List.set_cons_zero, List.set_cons_succ]
    refine rtake 1 rfl (by rfl) (by kernel_rfl) (by kernel_rfl) (by kernel_rfl) (fun _ _ _ h => h) hHeld (fun wx hwx => by go_simp; try with_reducible rfl) ?_
    try simp only [Act.put, List.setIfInBounds_toArray, List.set_cons_zero, List.set_cons_succ]
    refine rcall 2 rfl (by kernel_rfl) (by rfl) (fun K hK => ?_)
    go_simp
    refine (tlvs00_any _ l wd (HT.out _ hb) (by have := HL.out; omega)).mono ?_
    rintro e wa ⟨va, rfl, oa, ba⟩
    refine hK.out _ _ ba ?_
    clear hK K
    refine wpAnyH_mono (S' := fun w' => Below wa.heap.size wa w') (fun w' h => bnext ba h) _ _ _ _ ?_
    replace hb := bnext hb ba
    replace hM := hM.below ba
    clear hHeld ba
    have hHeld := Below.refl wa.heap.size wa
    try simp only [Act.put, List.setIfInBounds_toArray, List.set_cons_zero, List.set_cons_succ]
    refine rcall 3 rfl (by kernel_rfl) (by rfl) (fun K hK => ?_)
    go_simp
    refine (HPUT.out va wa oa.tlvs).mono ?_
    rintro e wb ⟨rfl, ba⟩
    refine hK.out _ _ ba ?_
    clear hK K
    refine wpAnyH_mono (S' := fun w' => Below wb.heap.size wb w') (fun w' h => bnext ba h) _ _ _ _ ?_
    replace hb := bnext hb ba
    replace hM := hM.below ba
    clear hHeld ba oa
    have hHeld := Below.refl wb.heap.size wb
    try simp only [Act.put, List.setIfInBounds_toArray, List.set_cons_zero, List.set_cons_succ]
    refine rtake 4 rfl (by rfl) (by kernel_rfl) (by kernel_rfl) (by kernel_rfl) (fun _ _ _ h => h) hHeld (fun wx hwx => by go_simp; try with_reducible rfl) ?_
    try simp only [Act.put, List.setIfInBounds_toArray, List.set_cons_zero, List.set_cons_succ]
    refine rtake 5 rfl (by rfl) (by kernel_rfl) (by kernel_rfl) (by kernel_rfl) (fun _ _ _ h => h) hHeld (fun wx hwx => by go_simp; try with_reducible rfl) ?_
    try simp only [Act.put, List.setIfInBounds_toArray, List.set_cons_zero, List.set_cons_succ]
    refine rtake 6 rfl (by rfl) (by kernel_rfl) (by kernel_rfl) (by kernel_rfl) (fun _ _ _ h => h) hHeld (fun wx hwx => by go_simp; try with_reducible rfl) ?_
    try simp only [Act.put, List.setIfInBounds_toArray, List.set_cons_zero, List.set_cons_succ]
    refine rtake 7 rfl (by rfl) (by kernel_rfl) (by kernel_rfl) (by kernel_rfl) (fun _ _ _ h => h) hHeld (fun wx hwx => by go_simp; try with_reducible rfl) ?_
    try simp only [Act.put, List.setIfInBounds_toArray, List.set_cons_zero, List.set_cons_succ]
    refine rtake 8 rfl (by rfl) (by kernel_rfl) (by kernel_rfl) (by kernel_rfl) (fun _ _ _ h => h) hHeld (fun wx hwx => by go_simp; try with_reducible rfl) ?_
    try simp only [Act.put, List.setIfInBounds_toArray, List.set_cons_zero, List.set_cons_succ]
    refine wpAnyH_done (by kernel_rfl) ?_ _
    clear hHeld
    go_wp2_with (guard_target =~ wpList _ _ _ (⟨some 21, _, _, _, _, _⟩ :: _) _ _; refine wpList_load_msg (op := ⟨some 21, .load _ _, _, _, _, _⟩) (by rfl) _ (by rfl) w.heap.size (by rfl) (msgF h d) _ hM (msgF_length _ _) ?_)
    refine (HREF.out _ wb (HT.out _ hb)).mono ?_
    rintro e w6 ⟨rfl, b6⟩
    replace hb := bnext hb b6
    clear hM
    have hx : FB = true ∨ FB = false := by cases FB <;> simp
    rcases hx with rfl | rfl
    all_goals
      go_wp2_with fail
      refine (awake09_any _).mono ?_
      rintro e wz ⟨rfl, bz⟩
      go_wp2_with fail
      go_ret
      exact ⟨rfl, bnext hb bz⟩

set_option maxRecDepth 100000 in
set_option maxHeartbeats 8000000 in
theorem frameGets_walk (m : ByteArray) (wm : m.size ≤ maxLen) (rm : m.data.toList.length ≤ reachBytes) (dm : Int) (wd : (Lit.int .i64 dm).wf = true) (w : World) :
    Calls Try.prog 4 #[.string m, .int .i64 dm] w fun e w' => e = .returned (.bool true) ∧ Below w.heap.size w w' := by
  obtain ⟨b, hB⟩ : ∃ x, m.data.toList = x := ⟨_, rfl⟩
  have hm : m = ⟨b.toArray⟩ := by rw [← hB]
  subst hm
  clear hB wm rm
  change Calls Try.prog 4 #[sv b, .int .i64 dm] w _
  by_cases hl : b.length ≤ 1000
  · have h1 := fun wx => frameGet_any b wx (by omega)
    have h2 := fun wx => refFrameGet_any b wx (by omega)
    have h3 := fun wx => frameHere_any b dm wx (by omega)
    have h4 := fun wx => refHere_any b dm wx (by omega)
    have hTl := frameT_len b
    have hTl' := hereT_len b dm
    generalize frameH b = H at *
    generalize frameD b = D at *
    generalize frameT b = T at *
    generalize frameE b = E at *
    generalize hereH b dm = H' at *
    generalize hereD b dm = D' at *
    generalize hereT b dm = T' at *
    generalize hereE b dm = E' at *
    have hS1 := same_self9 H D
    have hS2 := same_self9 H' D'
    have hb := Below.refl w.heap.size w
    go_enter Try.func4, Try.ntmps4
    go_wp2_with fail
    refine (h1 _).mono ?_
    rintro e w1 ⟨v1, rfl, o1, b1⟩
    replace hb := bnext hb b1
    have N := Box.new w1 (msgL hd0 zr) 28
    have nb := bnew w1 (Obj.cells (msgL hd0 zr).toArray 28)
    go_upto_region 4 with (guard_target =~ wpList _ _ _ (⟨none, _, _, _, _, _⟩ :: _) _ _; refine wpList_store_msg (op := ⟨none, .store _ _ _, _, _, _, _⟩) (by rfl) _ _ (by rfl) w1.heap.size (msgF H D) (msgL hd0 zr) _ (by rfl) (by rfl) N (msgF_length _ _) (msgL_length _ _ zr_length) (msgL_one _ _ (bdL_one _)) ?_)
    have B1 := N.row (msgF H D)
    replace nb := below_setRow nb (Nat.le_refl _) (msgF H D).toArray
    change Code.wp _ _ _ _ ((w1.alloc (Obj.cells (msgL hd0 zr).toArray 28)).setRow w1.heap.size (msgF H D).toArray)
    generalize ((w1.alloc (Obj.cells (msgL hd0 zr).toArray 28)).setRow w1.heap.size (msgF H D).toArray) = W1 at *
    generalize hgB1 : w1.heap.size = gB1 at *
    have nc : Below w1.heap.size w1 W1 := by rw [hgB1]; exact nb
    replace hb := bnext hb nc
    replace o1 := o1.below nc
    clear N nb nc
    go_wp2_with fail
    refine (h2 _).mono ?_
    rintro e w2 ⟨v2, rfl, o2, b2⟩
    replace hb := bnext hb b2
    replace o1 := o1.below b2
    replace B1 := B1.below b2
    have N := Box.new w2 (msgL hd0 zr) 28
    have nb := bnew w2 (Obj.cells (msgL hd0 zr).toArray 28)
    go_upto_region 5 with (guard_target =~ wpList _ _ _ (⟨none, _, _, _, _, _⟩ :: _) _ _; refine wpList_store_msg (op := ⟨none, .store _ _ _, _, _, _, _⟩) (by rfl) _ _ (by rfl) w2.heap.size (msgF H D) (msgL hd0 zr) _ (by rfl) (by rfl) N (msgF_length _ _) (msgL_length _ _ zr_length) (msgL_one _ _ (bdL_one _)) ?_)
    have B2 := N.row (msgF H D)
    replace nb := below_setRow nb (Nat.le_refl _) (msgF H D).toArray
    change Code.wp _ _ _ _ ((w2.alloc (Obj.cells (msgL hd0 zr).toArray 28)).setRow w2.heap.size (msgF H D).toArray)
    generalize ((w2.alloc (Obj.cells (msgL hd0 zr).toArray 28)).setRow w2.heap.size (msgF H D).toArray) = W2 at *
    generalize hgB2 : w2.heap.size = gB2 at *
    have nc : Below w2.heap.size w2 W2 := by rw [hgB2]; exact nb
    replace hb := bnext hb nc
    replace o1 := o1.below nc
    replace o2 := o2.below nc
    replace B1 := B1.below nc
    clear N nb nc
    go_wp2_with fail
    refine (h3 _).mono ?_
    rintro e w3 ⟨v3, rfl, o3, b3⟩
    replace hb := bnext hb b3
    replace o1 := o1.below b3
    replace o2 := o2.below b3
    replace B1 := B1.below b3
    replace B2 := B2.below b3
    have N := Box.new w3 (msgL hd0 zr) 28
    have nb := bnew w3 (Obj.cells (msgL hd0 zr).toArray 28)
    go_upto_region 6 with (guard_target =~ wpList _ _ _ (⟨none, _, _, _, _, _⟩ :: _) _ _; refine wpList_store_msg (op := ⟨none, .store _ _ _, _, _, _, _⟩) (by rfl) _ _ (by rfl) w3.heap.size (msgF H' D') (msgL hd0 zr) _ (by rfl) (by rfl) N (msgF_length _ _) (msgL_length _ _ zr_length) (msgL_one _ _ (bdL_one _)) ?_)
    have B3 := N.row (msgF H' D')
    replace nb := below_setRow nb (Nat.le_refl _) (msgF H' D').toArray
    change Code.wp _ _ _ _ ((w3.alloc (Obj.cells (msgL hd0 zr).toArray 28)).setRow w3.heap.size (msgF H' D').toArray)
    generalize ((w3.alloc (Obj.cells (msgL hd0 zr).toArray 28)).setRow w3.heap.size (msgF H' D').toArray) = W3 at *
    generalize hgB3 : w3.heap.size = gB3 at *
    have nc : Below w3.heap.size w3 W3 := by rw [hgB3]; exact nb
    replace hb := bnext hb nc
    replace o1 := o1.below nc
    replace o2 := o2.below nc
    replace o3 := o3.below nc
    replace B1 := B1.below nc
    replace B2 := B2.below nc
    clear N nb nc
    go_wp2_with fail
    refine (h4 _).mono ?_
    rintro e w4 ⟨v4, rfl, o4, b4⟩
    replace hb := bnext hb b4
    replace o1 := o1.below b4
    replace o2 := o2.below b4
    replace o3 := o3.below b4
    replace B1 := B1.below b4
    replace B2 := B2.below b4
    replace B3 := B3.below b4
    have N := Box.new w4 (msgL hd0 zr) 28
    have nb := bnew w4 (Obj.cells (msgL hd0 zr).toArray 28)
    go_upto_region 7 with (guard_target =~ wpList _ _ _ (⟨none, _, _, _, _, _⟩ :: _) _ _; refine wpList_store_msg (op := ⟨none, .store _ _ _, _, _, _, _⟩) (by rfl) _ _ (by rfl) w4.heap.size (msgF H' D') (msgL hd0 zr) _ (by rfl) (by rfl) N (msgF_length _ _) (msgL_length _ _ zr_length) (msgL_one _ _ (bdL_one _)) ?_)
    have B4 := N.row (msgF H' D')
    replace nb := below_setRow nb (Nat.le_refl _) (msgF H' D').toArray
    change Code.wp _ _ _ _ ((w4.alloc (Obj.cells (msgL hd0 zr).toArray 28)).setRow w4.heap.size (msgF H' D').toArray)
    generalize ((w4.alloc (Obj.cells (msgL hd0 zr).toArray 28)).setRow w4.heap.size (msgF H' D').toArray) = W4 at *
    generalize hgB4 : w4.heap.size = gB4 at *
    have nc : Below w4.heap.size w4 W4 := by rw [hgB4]; exact nb
    replace hb := bnext hb nc
    replace o1 := o1.below nc
    replace o2 := o2.below nc
    replace o3 := o3.below nc
    replace o4 := o4.below nc
    replace B1 := B1.below nc
    replace B2 := B2.below nc
    replace B3 := B3.below nc
    clear N nb nc
    clear h1 h2 h3 h4
    go_wp2_with (first | (guard_target =~ wpList _ _ _ (⟨some 47, _, _, _, _, _⟩ :: _) _ _; refine wpList_load_msg (op := ⟨some 47, .load _ _, _, _, _, _⟩) (by rfl) _ (by rfl) gB1 (by rfl) (msgF H D) _ B1 (msgF_length _ _) ?_) | (guard_target =~ wpList _ _ _ (⟨some 48, _, _, _, _, _⟩ :: _) _ _; refine wpList_load_msg (op := ⟨some 48, .load _ _, _, _, _, _⟩) (by rfl) _ (by rfl) gB2 (by rfl) (msgF H D) _ B2 (msgF_length _ _) ?_))
    refine (sameTlvs_any _ _ T T _ o1.tlvs o2.tlvs (by omega) (by omega)).mono ?_
    rintro e w5 ⟨rfl, b5⟩
    rw [beq_self_eq_true]
    replace hb := bnext hb b5
    replace o3 := o3.below b5
    replace o4 := o4.below b5
    replace B3 := B3.below b5
    replace B4 := B4.below b5
    go_wp2_with (first | (guard_target =~ wpList _ _ _ (⟨some 61, _, _, _, _, _⟩ :: _) _ _; refine wpList_load_msg_g (op := ⟨some 61, .load _ _, _, _, _, _⟩) (by rfl) _ (by rfl) gB3 (by rfl) (msgF H' D') _ B3 (msgF_length _ _) ?_) | (guard_target =~ wpList _ _ _ (⟨some 62, _, _, _, _, _⟩ :: _) _ _; refine wpList_load_msg_g (op := ⟨some 62, .load _ _, _, _, _, _⟩) (by rfl) _ (by rfl) gB4 (by rfl) (msgF H' D') _ B4 (msgF_length _ _) ?_))
    refine (sameTlvs_any _ _ T' T' _ o3.tlvs o4.tlvs (by omega) (by omega)).mono ?_
    rintro e w6 ⟨rfl, b6⟩
    rw [beq_self_eq_true]
    replace hb := bnext hb b6
    go_wp2_with fail
    refine (awake09_any _).mono ?_
    rintro e wz ⟨rfl, bz⟩
    go_wp2_with fail
    go_ret
    exact ⟨rfl, bnext hb bz⟩
  · have hl2 : 1000 < b.length := by omega
    have hb := Below.refl w.heap.size w
    go_enter Try.func4, Try.ntmps4
    go_wp2_with fail
    refine (awake09_any _).mono ?_
    rintro e wz ⟨rfl, bz⟩
    go_wp2_with fail
    go_ret
    exact ⟨rfl, bnext hb bz⟩

end Go.Proofs.Ytohgpnlihfcecaa
