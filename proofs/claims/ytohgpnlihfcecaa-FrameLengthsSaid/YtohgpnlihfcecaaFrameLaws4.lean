/- The walk of FrameLengths (gen_framelaws.py). -/
import Derived.Test.YtohgpnlihfcecaaFrameLaws0
namespace Go.Proofs.Ytohgpnlihfcecaa
open Go.RowKit Go.Proofs
set_option maxRecDepth 50000
set_option linter.unusedVariables false
set_option linter.unusedSimpArgs false

def H12 : Hd := ⟨12, 0, 0, 0, 0, 0, 0, 0⟩
theorem len_ok : MsgOk H12 bd0 := by unfold MsgOk HdOk; decide
theorem len_B1 : frameB H12 bd0 [(9, List.replicate 352 0)] = true := by decide +kernel
theorem len_B2 : frameB H12 bd0 [(9, List.replicate 354 0)] = false := by decide +kernel
theorem len_N1 : frameN H12 [(9, List.replicate 352 0)] = 400 := by decide +kernel

set_option maxRecDepth 100000 in
set_option maxHeartbeats 8000000 in
theorem frameLengths_walk (w : World) :
    Calls Try.prog 7 #[] w fun e w' => e = .returned (.bool true) ∧ Below w.heap.size w w' := by
  obtain ⟨q1, q2, q3, q4⟩ := frame_back len_ok len_B1
  have hlen : (frameS H12 bd0 [(9, List.replicate 352 0)]).length = 400 := by
    have h1 := (frameB_parts len_B1).2.2.2.2
    have h2 := len_N1
    omega
  have hL1 : (List.replicate 352 (0 : UInt8)).length = 352 := List.length_replicate
  have hL2 : (List.replicate 354 (0 : UInt8)).length = 354 := List.length_replicate
  have hput1 := fun (v : Value) (wx : World) (hT : Tlvs wx v [(9, List.replicate 352 0)]) => framePut_any H12 bd0 v _ wx len_ok hT (by decide) (fun q hq => by rw [List.mem_singleton.1 hq]; show (List.replicate 352 (0 : UInt8)).length ≤ _; rw [hL1]; decide)
  have hput2 := fun (v : Value) (wx : World) (hT : Tlvs wx v [(9, List.replicate 354 0)]) => framePut_any H12 bd0 v _ wx len_ok hT (by decide) (fun q hq => by rw [List.mem_singleton.1 hq]; show (List.replicate 354 (0 : UInt8)).length ≤ _; rw [hL2]; decide)
  rw [frameP_yes len_B1] at hput1
  rw [frameP_no len_B2] at hput2
  have hget := fun wx => frameGet_any (frameS H12 bd0 [(9, List.replicate 352 0)]) wx (by omega)
  rw [q1, q2, q3, q4] at hget
  clear q1 q2 q3 q4
  generalize frameS H12 bd0 [(9, List.replicate 352 0)] = FS at *
  have hmk1 := make_bytes 352 (by decide) 352 352 rfl rfl
  have hmk2 := make_bytes 354 (by decide) 354 354 rfl rfl
  generalize List.replicate 352 (0 : UInt8) = Z1 at *
  generalize List.replicate 354 (0 : UInt8) = Z2 at *
  have HMK1 := hid hmk1
  have HMK2 := hid hmk2
  clear hmk1 hmk2
  have HPUT1 := hid hput1
  have HPUT2 := hid hput2
  clear hput1 hput2
  have hE := same_self9 H12 bd0
  go_enter Try.func7, Try.ntmps7
  have N := Box.new w (msgL hd0 zr) 28
  have nb := bnew w (Obj.cells (msgL hd0 zr).toArray 28)
  go_upto_region 2 with (first | (guard_target =~ wpList _ _ _ (⟨some 10, _, _, _, _, _⟩ :: _) _ _; refine wpList_build_type (op := ⟨some 10, .build _ _, _, _, _, _⟩) (by rfl) _ (by rfl) 12 (by rfl) ?_) | (guard_target =~ wpList _ _ _ (⟨none, _, _, _, _, _⟩ :: _) _ _; refine wpList_store_msg (op := ⟨none, .store _ _ _, _, _, _, _⟩) (by rfl) _ _ (by rfl) w.heap.size (msgF H12 bd0) (msgL hd0 zr) _ (by rfl) (by rfl) N (msgF_length _ _) (msgL_length _ _ zr_length) (msgL_one _ _ (bdL_one _)) ?_))
  have B0 := N.row (msgF H12 bd0)
  replace nb := below_setRow nb (Nat.le_refl _) (msgF H12 bd0).toArray
  change Code.wp _ _ _ _ ((w.alloc (Obj.cells (msgL hd0 zr).toArray 28)).setRow w.heap.size (msgF H12 bd0).toArray)
  generalize ((w.alloc (Obj.cells (msgL hd0 zr).toArray 28)).setRow w.heap.size (msgF H12 bd0).toArray) = W1 at *
  generalize hgB0 : w.heap.size = gB0 at *
  have nc : Below w.heap.size w W1 := by rw [hgB0]; exact nb
  have hb := nc
  clear N nb nc
  go_upto_region 3 with fail
  refine wp_region_held_drew (S := fun w' => Below W1.drew.heap.size W1.drew w') (by kernel_rfl) (Below.refl _ _) ?_
  intro hHeld
  have hbd := Below.drew (Below.refl W1.heap.size W1)
  replace hb := bnext hb hbd
  replace B0 := B0.below hbd
  clear hbd
  generalize W1.drew = wd at *
  refine rtake 0 rfl (by rfl) (by kernel_rfl) (by kernel_rfl) (by kernel_rfl) (fun _ _ _ h => h) hHeld (fun wx hwx => exec_load_msg _ rfl gB0 rfl (msgF H12 bd0) _ (B0.below hwx) (msgF_length _ _)) ?_
  try simp only [Act.put, List.setIfInBounds_toArray, List.set_cons_zero, List.set_cons_succ]
  refine rtake 1 rfl (by rfl) (by kernel_rfl) (by kernel_rfl) (by kernel_rfl) (fun _ _ _ h => h) hHeld (fun wx hwx => by go_simp; try with_reducible rfl) ?_
  try simp only [Act.put, List.setIfInBounds_toArray, List.set_cons_zero, List.set_cons_succ]
  have hmk := HMK1.out wd
  have hS := (Own.lit wd Z1 (by rw [hL1]; unfold maxLen; omega)).bytes.strs
  have hbn := bnew wd (.cells (cellsOf Z1).toArray 5)
  rw [hL1] at hS
  refine rcall 2 rfl (by kernel_rfl) (by rfl) (fun K hK => ?_)
  go_simp
  generalize hwn : wd.alloc (.cells (cellsOf Z1).toArray 5) = wn at *
  refine hK.out _ _ hbn ?_
  clear hK K
  refine wpAnyH_mono (S' := fun w' => Below wn.heap.size wn w') (fun w' h => bnext hbn h) _ _ _ _ ?_
  replace hb := bnext hb hbn
  replace B0 := B0.below hbn
  clear hHeld hmk hbn hwn
  have hHeld := Below.refl wn.heap.size wn
  try simp only [Act.put, List.setIfInBounds_toArray, List.set_cons_zero, List.set_cons_succ]
  refine rtake 3 rfl (by rfl) (by kernel_rfl) (by kernel_rfl) (by kernel_rfl) (fun _ _ _ h => h) hHeld (fun wx hwx => by have h1 := hS wx hwx; go_simp; try with_reducible rfl) ?_
  try simp only [Act.put, List.setIfInBounds_toArray, List.set_cons_zero, List.set_cons_succ]
  refine rtake 4 rfl (by rfl) (by kernel_rfl) (by kernel_rfl) (by kernel_rfl) (fun _ _ _ h => h) hHeld (fun wx hwx => by go_simp; try with_reducible rfl) ?_
  try simp only [Act.put, List.setIfInBounds_toArray, List.set_cons_zero, List.set_cons_succ]
  have hT := tlvs_lit wn ((9 : Int), Z1)
  have hbn := bnew wn (Obj.cells #[.int .i64 9, sv Z1] 47)
  refine rcall 5 rfl (by kernel_rfl) (by rfl) (fun K hK => ?_)
  go_simp
  generalize hwn : wn.alloc (Obj.cells #[.int .i64 9, sv Z1] 47) = wm at *
  refine hK.out _ _ hbn ?_
  clear hK K
  refine wpAnyH_mono (S' := fun w' => Below wm.heap.size wm w') (fun w' h => bnext hbn h) _ _ _ _ ?_
  replace hb := bnext hb hbn
  replace B0 := B0.below hbn
  clear hHeld hbn hwn hS
  have hHeld := Below.refl wm.heap.size wm
  try simp only [Act.put, List.setIfInBounds_toArray, List.set_cons_zero, List.set_cons_succ]
  refine rcall 6 rfl (by kernel_rfl) (by rfl) (fun K hK => ?_)
  go_simp
  refine (HPUT1.out _ wm hT).mono ?_
  rintro e w2 ⟨rfl, ba⟩
  refine hK.out _ _ ba ?_
  clear hK K hT
  refine wpAnyH_mono (S' := fun w' => Below w2.heap.size w2 w') (fun w' h => bnext ba h) _ _ _ _ ?_
  replace hb := bnext hb ba
  replace B0 := B0.below ba
  clear hHeld ba
  have hHeld := Below.refl w2.heap.size w2
  try simp only [Act.put, List.setIfInBounds_toArray, List.set_cons_zero, List.set_cons_succ]
  refine rtake 7 rfl (by rfl) (by kernel_rfl) (by kernel_rfl) (by kernel_rfl) (fun _ _ _ h => h) hHeld (fun wx hwx => by go_simp; try with_reducible rfl) ?_
  try simp only [Act.put, List.setIfInBounds_toArray, List.set_cons_zero, List.set_cons_succ]
  refine rtake 8 rfl (by rfl) (by kernel_rfl) (by kernel_rfl) (by kernel_rfl) (fun _ _ _ h => h) hHeld (fun wx hwx => by go_simp; try with_reducible rfl) ?_
  try simp only [Act.put, List.setIfInBounds_toArray, List.set_cons_zero, List.set_cons_succ]
  refine rtake 9 rfl (by rfl) (by kernel_rfl) (by kernel_rfl) (by kernel_rfl) (fun _ _ _ h => h) hHeld (fun wx hwx => by go_simp; try with_reducible rfl) ?_
  try simp only [Act.put, List.setIfInBounds_toArray, List.set_cons_zero, List.set_cons_succ]
  refine rtake 10 rfl (by rfl) (by kernel_rfl) (by kernel_rfl) (by kernel_rfl) (fun _ _ _ h => h) hHeld (fun wx hwx => by go_simp; try with_reducible rfl) ?_
  try simp only [Act.put, List.setIfInBounds_toArray, List.set_cons_zero, List.set_cons_succ]
  refine rtake 11 rfl (by rfl) (by kernel_rfl) (by kernel_rfl) (by kernel_rfl) (fun _ _ _ h => h) hHeld (fun wx hwx => by go_simp; try with_reducible rfl) ?_
  try simp only [Act.put, List.setIfInBounds_toArray, List.set_cons_zero, List.set_cons_succ]
  refine wpAnyH_done (by kernel_rfl) ?_ _
  clear hHeld
  go_upto_region 4 with fail
  refine wp_region_held_drew (S := fun w' => Below w2.drew.heap.size w2.drew w') (by kernel_rfl) (Below.refl _ _) ?_
  intro hHeld
  have hbd := Below.drew (Below.refl w2.heap.size w2)
  replace hb := bnext hb hbd
  replace B0 := B0.below hbd
  clear hbd
  generalize w2.drew = wd at *
  refine rtake 0 rfl (by rfl) (by kernel_rfl) (by kernel_rfl) (by kernel_rfl) (fun _ _ _ h => h) hHeld (fun wx hwx => exec_load_msg _ rfl gB0 rfl (msgF H12 bd0) _ (B0.below hwx) (msgF_length _ _)) ?_
  try simp only [Act.put, List.setIfInBounds_toArray, List.set_cons_zero, List.set_cons_succ]
  refine rtake 1 rfl (by rfl) (by kernel_rfl) (by kernel_rfl) (by kernel_rfl) (fun _ _ _ h => h) hHeld (fun wx hwx => by go_simp; try with_reducible rfl) ?_
  try simp only [Act.put, List.setIfInBounds_toArray, List.set_cons_zero, List.set_cons_succ]
  refine rtake 2 rfl (by rfl) (by kernel_rfl) (by kernel_rfl) (by kernel_rfl) (fun _ _ _ h => h) hHeld (fun wx hwx => by go_simp; try with_reducible rfl) ?_
  try simp only [Act.put, List.setIfInBounds_toArray, List.set_cons_zero, List.set_cons_succ]
  rw [show IntKind.i64.wrap (354 : Int) = 354 from by decide]
  have hmk := HMK2.out wd
  have hS := (Own.lit wd Z2 (by rw [hL2]; unfold maxLen; omega)).bytes.strs
  have hbn := bnew wd (.cells (cellsOf Z2).toArray 5)
  rw [hL2] at hS
  refine rcall 3 rfl (by kernel_rfl) (by rfl) (fun K hK => ?_)
  go_simp
  generalize hwn : wd.alloc (.cells (cellsOf Z2).toArray 5) = wn at *
  refine hK.out _ _ hbn ?_
  clear hK K
  refine wpAnyH_mono (S' := fun w' => Below wn.heap.size wn w') (fun w' h => bnext hbn h) _ _ _ _ ?_
  replace hb := bnext hb hbn
  replace B0 := B0.below hbn
  clear hHeld hmk hbn hwn
  have hHeld := Below.refl wn.heap.size wn
  try simp only [Act.put, List.setIfInBounds_toArray, List.set_cons_zero, List.set_cons_succ]
  refine rtake 4 rfl (by rfl) (by kernel_rfl) (by kernel_rfl) (by kernel_rfl) (fun _ _ _ h => h) hHeld (fun wx hwx => by have h1 := hS wx hwx; go_simp; try with_reducible rfl) ?_
  try simp only [Act.put, List.setIfInBounds_toArray, List.set_cons_zero, List.set_cons_succ]
  refine rtake 5 rfl (by rfl) (by kernel_rfl) (by kernel_rfl) (by kernel_rfl) (fun _ _ _ h => h) hHeld (fun wx hwx => by go_simp; try with_reducible rfl) ?_
  try simp only [Act.put, List.setIfInBounds_toArray, List.set_cons_zero, List.set_cons_succ]
  have hT := tlvs_lit wn ((9 : Int), Z2)
  have hbn := bnew wn (Obj.cells #[.int .i64 9, sv Z2] 47)
  refine rcall 6 rfl (by kernel_rfl) (by rfl) (fun K hK => ?_)
  go_simp
  generalize hwn : wn.alloc (Obj.cells #[.int .i64 9, sv Z2] 47) = wm at *
  refine hK.out _ _ hbn ?_
  clear hK K
  refine wpAnyH_mono (S' := fun w' => Below wm.heap.size wm w') (fun w' h => bnext hbn h) _ _ _ _ ?_
  replace hb := bnext hb hbn
  replace B0 := B0.below hbn
  clear hHeld hbn hwn hS
  have hHeld := Below.refl wm.heap.size wm
  try simp only [Act.put, List.setIfInBounds_toArray, List.set_cons_zero, List.set_cons_succ]
  refine rcall 7 rfl (by kernel_rfl) (by rfl) (fun K hK => ?_)
  go_simp
  refine (HPUT2.out _ wm hT).mono ?_
  rintro e w3 ⟨rfl, ba⟩
  refine hK.out _ _ ba ?_
  clear hK K hT
  refine wpAnyH_mono (S' := fun w' => Below w3.heap.size w3 w') (fun w' h => bnext ba h) _ _ _ _ ?_
  replace hb := bnext hb ba
  replace B0 := B0.below ba
  clear hHeld ba
  have hHeld := Below.refl w3.heap.size w3
  try simp only [Act.put, List.setIfInBounds_toArray, List.set_cons_zero, List.set_cons_succ]
  refine rtake 8 rfl (by rfl) (by kernel_rfl) (by kernel_rfl) (by kernel_rfl) (fun _ _ _ h => h) hHeld (fun wx hwx => by go_simp; try with_reducible rfl) ?_
  try simp only [Act.put, List.setIfInBounds_toArray, List.set_cons_zero, List.set_cons_succ]
  refine rtake 9 rfl (by rfl) (by kernel_rfl) (by kernel_rfl) (by kernel_rfl) (fun _ _ _ h => h) hHeld (fun wx hwx => by go_simp; try with_reducible rfl) ?_
  try simp only [Act.put, List.setIfInBounds_toArray, List.set_cons_zero, List.set_cons_succ]
  refine rtake 10 rfl (by rfl) (by kernel_rfl) (by kernel_rfl) (by kernel_rfl) (fun _ _ _ h => h) hHeld (fun wx hwx => by go_simp; try with_reducible rfl) ?_
  try simp only [Act.put, List.setIfInBounds_toArray, List.set_cons_zero, List.set_cons_succ]
  refine rtake 11 rfl (by rfl) (by kernel_rfl) (by kernel_rfl) (by kernel_rfl) (fun _ _ _ h => h) hHeld (fun wx hwx => by go_simp; try with_reducible rfl) ?_
  try simp only [Act.put, List.setIfInBounds_toArray, List.set_cons_zero, List.set_cons_succ]
  refine rtake 12 rfl (by rfl) (by kernel_rfl) (by kernel_rfl) (by kernel_rfl) (fun _ _ _ h => h) hHeld (fun wx hwx => by go_simp; try with_reducible rfl) ?_
  try simp only [Act.put, List.setIfInBounds_toArray, List.set_cons_zero, List.set_cons_succ]
  refine wpAnyH_done (by kernel_rfl) ?_ _
  clear hHeld
  go_wp2_with fail
  refine (hget _).mono ?_
  rintro e w4 ⟨v4, rfl, o4, b4⟩
  replace hb := bnext hb b4
  replace B0 := B0.below b4
  clear hget
  have N := Box.new w4 (msgL hd0 zr) 28
  have nb := bnew w4 (Obj.cells (msgL hd0 zr).toArray 28)
  go_upto_region 6 with (guard_target =~ wpList _ _ _ (⟨none, _, _, _, _, _⟩ :: _) _ _; refine wpList_store_msg (op := ⟨none, .store _ _ _, _, _, _, _⟩) (by rfl) _ _ (by rfl) w4.heap.size (msgF H12 bd0) (msgL hd0 zr) _ (by rfl) (by rfl) N (msgF_length _ _) (msgL_length _ _ zr_length) (msgL_one _ _ (bdL_one _)) ?_)
  have B1 := N.row (msgF H12 bd0)
  replace nb := below_setRow nb (Nat.le_refl _) (msgF H12 bd0).toArray
  change Code.wp _ _ _ _ ((w4.alloc (Obj.cells (msgL hd0 zr).toArray 28)).setRow w4.heap.size (msgF H12 bd0).toArray)
  generalize ((w4.alloc (Obj.cells (msgL hd0 zr).toArray 28)).setRow w4.heap.size (msgF H12 bd0).toArray) = W4 at *
  generalize hgB1 : w4.heap.size = gB1 at *
  have nc : Below w4.heap.size w4 W4 := by rw [hgB1]; exact nb
  replace hb := bnext hb nc
  replace o4 := o4.below nc
  replace B0 := B0.below nc
  clear N nb nc
  obtain ⟨p4, c4, rfl, hc4, -, hat⟩ := o4.tlvs
  obtain ⟨b4, off4, rfl, hrow⟩ := hat.row (Nat.zero_lt_one)
  obtain ⟨c, s, hq, H1, H2⟩ := hrow.get 0 (Nat.zero_lt_one)
  have hq : ((9 : Int), Z1) = (c, s) := hq
  cases hq
  have c2 := H2.out _ (Below.refl _ _)
  rw [show ([((9 : Int), Z1)] : List T2).length = 1 from rfl] at hc4 ⊢
  clear hat hrow H1 H2 o4
  go_wp2_with (first | (guard_target =~ wpList _ _ _ (⟨some 53, _, _, _, _, _⟩ :: _) _ _; refine wpList_load_msg_g (op := ⟨some 53, .load _ _, _, _, _, _⟩) (by rfl) _ (by rfl) gB1 (by rfl) (msgF H12 bd0) _ B1 (msgF_length _ _) ?_) | (guard_target =~ wpList _ _ _ (⟨some 54, _, _, _, _, _⟩ :: _) _ _; refine wpList_load_msg_g (op := ⟨some 54, .load _ _, _, _, _, _⟩) (by rfl) _ (by rfl) gB0 (by rfl) (msgF H12 bd0) _ B0 (msgF_length _ _) ?_))
  refine (awake09_any _).mono ?_
  rintro e wz ⟨rfl, bz⟩
  go_wp2_with fail
  go_ret
  exact ⟨rfl, bnext hb bz⟩

end Go.Proofs.Ytohgpnlihfcecaa
