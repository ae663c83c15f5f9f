/- The walk of the law BodyBack (gen_bodyback.py). -/
import Derived.Test.YtpelgbcccgdlbaaBodyLaws
import Derived.Test.YtpelgbcccgdlbaaBodySay
import Derived.Test.YtpelgbcccgdlbaaBodyRef
import Derived.Test.YtpelgbcccgdlbaaPlace
namespace Go.Proofs.Ytpelgbcccgdlbaa
open Go.RowKit Go.Proofs
set_option linter.unusedVariables false
set_option linter.unusedSimpArgs false

theorem same_self (h : Hd) (d : Bd) (w : World) : (Op.equalIn 10000 29 (.agg (msgF h d).toArray) (.agg (msgF h d).toArray)).run Try.prog w = .ok true w := by
  rw [equal_msg, sameM_iff.2 ⟨rfl, rfl⟩]

set_option maxRecDepth 100000 in
set_option maxHeartbeats 8000000 in
theorem bodyBack_walk {w : World} (v : Value) (l : List UInt8) (hB : Bytes w v l) (hl : l.length ≤ 140737488351232) (h : Hd) (d : Bd) (hok : MsgOk h d) :
    Calls Try.prog 4 #[v, .agg (msgF h d).toArray] w fun e w' => e = .returned (.bool true) ∧ Below w.heap.size w w' := by
  have HB := hid fun (w' : World) (h : Below w.heap.size w w') => hB.below h
  have hS := same_self h d
  obtain ⟨p, cap, rfl, -, -, -⟩ := id hB
  clear hB
  go_enter Try.func4, Try.ntmps4
  go_upto_region 1 with fail
  obtain ⟨W, hWe, hb, hM⟩ := box_msg w (msgF h d)
  rw [← hWe]
  clear hWe
  go_wp2_with (guard_target =~ wpList _ _ _ (⟨some 11, _, _, _, _, _⟩ :: _) _ _; refine wpList_load_msg (op := ⟨some 11, .load _ _, _, _, _, _⟩) (by rfl) _ (by rfl) w.heap.size (by rfl) (msgF h d) _ hM (msgF_length _ _) ?_)
  refine (refCheckM_any h d _).mono ?_
  rintro e w1 ⟨rfl, hb1⟩
  replace hM := hM.below hb1
  replace hb := bnext hb hb1
  clear hb1
  cases hm : checkM h d
  · go_wp2_with fail
    refine (awake07_any _).mono ?_
    rintro e w7 ⟨rfl, hb7⟩
    go_wp2_with fail
    go_ret
    exact ⟨rfl, bnext hb hb7⟩
  go_upto_region 3 with fail
  refine wp_region_held_drew (S := fun w' => Box w' w.heap.size (msgF h d) 29) (by kernel_rfl) (hM.below (Below.drew (Below.refl _ _))) ?_
  intro hM
  replace hb := bnext hb (Below.drew (Below.refl w1.heap.size w1))
  generalize w1.drew = W1 at *
  refine rtake 0 rfl (by rfl) (by kernel_rfl) (by kernel_rfl) (by kernel_rfl) (fun _ _ _ h => h) hM (fun wx hwx => by go_simp; try with_reducible rfl) ?_
  try simp only [Act.put, List.setIfInBounds_toArray, List.set_cons_zero, List.set_cons_succ]
  refine rtake 2 rfl (by rfl) (by kernel_rfl) (by kernel_rfl) (by kernel_rfl) (fun _ _ _ h => h) hM (fun wx hwx => exec_load_msg _ rfl w.heap.size rfl (msgF h d) _ hwx (msgF_length _ _)) ?_
  try simp only [Act.put, List.setIfInBounds_toArray, List.set_cons_zero, List.set_cons_succ]
  refine rcall 1 rfl (by kernel_rfl) (by rfl) (fun K hK => ?_)
  go_simp
  refine (bytes00_any _ l _ (HB.out _ hb) (by omega)).mono ?_
  rintro e w2 ⟨x2, rfl, own2, hb2⟩
  replace hb := bnext hb hb2
  have hM2 := hM.below hb2
  refine hK.out _ _ hM2 ?_
  clear hK K hM hb2
  try simp only [Act.put, List.setIfInBounds_toArray, List.set_cons_zero, List.set_cons_succ]
  refine rcall 3 rfl (by kernel_rfl) (by rfl) (fun K hK => ?_)
  go_simp
  refine (bodyPut_yes x2 l h d _ own2.bytes (by omega) hok.2.2.1.1 hok.2.1.1 hm).mono ?_
  rintro e w3 ⟨x3, rfl, own3, hb3⟩
  replace hb := bnext hb hb3
  have hM := hM2.below hb3
  refine hK.out _ _ hM ?_
  clear hK K hM2 hb3 own2
  try simp only [Act.put, List.setIfInBounds_toArray, List.set_cons_zero, List.set_cons_succ]
  refine rtake 4 rfl (by rfl) (by kernel_rfl) (by kernel_rfl) (by kernel_rfl) (fun _ _ _ h => h) hM (fun wx hwx => by go_simp; try with_reducible rfl) ?_
  try simp only [Act.put, List.setIfInBounds_toArray, List.set_cons_zero, List.set_cons_succ]
  refine rtake 5 rfl (by rfl) (by kernel_rfl) (by kernel_rfl) (by kernel_rfl) (fun _ _ _ h => h) hM (fun wx hwx => by go_simp; try with_reducible rfl) ?_
  try simp only [Act.put, List.setIfInBounds_toArray, List.set_cons_zero, List.set_cons_succ]
  refine rtake 6 rfl (by rfl) (by kernel_rfl) (by kernel_rfl) (by kernel_rfl) (fun _ _ _ h => h) hM (fun wx hwx => by go_simp; try with_reducible rfl) ?_
  try simp only [Act.put, List.setIfInBounds_toArray, List.set_cons_zero, List.set_cons_succ]
  refine rtake 7 rfl (by rfl) (by kernel_rfl) (by kernel_rfl) (by kernel_rfl) (fun _ _ _ h => h) hM (fun wx hwx => by go_simp; try with_reducible rfl) ?_
  try simp only [Act.put, List.setIfInBounds_toArray, List.set_cons_zero, List.set_cons_succ]
  refine rtake 8 rfl (by rfl) (by kernel_rfl) (by kernel_rfl) (by kernel_rfl) (fun _ _ _ h => h) hM (fun wx hwx => by go_simp; try with_reducible rfl) ?_
  try simp only [Act.put, List.setIfInBounds_toArray, List.set_cons_zero, List.set_cons_succ]
  refine wpAnyH_done (by kernel_rfl) ?_ _
  have hlen := bodyS_length h.ty d
  have hlen2 := lenI_in h.ty
  have hLen : ((l ++ bodyS h.ty d).length : Int) = (l.length : Int) + lenI h.ty := by rw [List.length_append]; omega
  have hgo := fun (w' : World) (hB : Bytes w' x3 (l ++ (bodyS h.ty d ++ []))) => bodyGet_back x3 l [] h h d w' hB (by rw [List.append_nil]; omega) rfl hok hm
  rw [List.append_nil] at hgo
  have hX := own3.bytes
  have HX := hid fun (w' : World) (hx : Below w3.heap.size w3 w') => hX.below hx
  obtain ⟨p3, cap3, rfl, -, -, -⟩ := id hX
  generalize l ++ bodyS h.ty d = L at *
  have hbeq : (((l.length : Int) + lenI h.ty) == (L.length : Int)) = true := beq_iff_eq.2 hLen.symm
  obtain ⟨hlen0, hlen1⟩ := hlen2
  have HGo := hid hgo
  clear hX own3 hLen hlen hgo hm hok
  obtain ⟨c0, c1, c2, c3, c4, c5, c6, c7⟩ := hM.hd w3 (Below.refl _ _)
  go_upto_region 5 with (first | (guard_target =~ wpList _ _ _ (⟨some 36, _, _, _, _, _⟩ :: _) _ _; refine wpList_build_head (op := ⟨some 36, .build _ _, _, _, _, _⟩) (by rfl) _ _ _ _ _ _ _ (by rfl) h (by rfl) (by rfl) (by rfl) (by rfl) (by rfl) (by rfl) (by rfl) ?_) | (guard_target =~ wpList _ _ _ (⟨none, _, _, _, _, _⟩ :: _) _ _; refine wpList_store_msg (op := ⟨none, .store _ _ _, _, _, _, _⟩) (by rfl) _ _ (by rfl) w3.heap.size (msgF h bd0) (msgL hd0 zr) _ (by rfl) (by rfl) (Box.new w3 _ _) (msgF_length _ _) (msgL_length _ _ zr_length) (msgL_one _ _ (bdL_one _)) ?_))
  have hn1 := bnew w3 (Obj.cells (msgL hd0 zr).toArray 29)
  have hne : w.heap.size ≠ w3.heap.size := by have := hM.lt; omega
  have hZ := (Box.new w3 (msgL hd0 zr) 29).row (msgF h bd0)
  replace hM := (hM.below hn1).row_other hne (msgF h bd0).toArray
  have hbz := below_setRow (bnext (Below.refl w3.heap.size w3) hn1) (Nat.le_refl _) (msgF h bd0).toArray
  replace hb := bnext hb hbz
  clear hn1 c0 c1 c2 c3 c4 c5 c6 c7
  change Code.wp _ _ _ _ ((w3.alloc (Obj.cells (msgL hd0 zr).toArray 29)).setRow w3.heap.size (msgF h bd0).toArray)
  generalize (w3.alloc (Obj.cells (msgL hd0 zr).toArray 29)).setRow w3.heap.size (msgF h bd0).toArray = W4 at *
  generalize hG3 : w3.heap.size = G3 at *
  go_wp2_with (guard_target =~ wpList _ _ _ (⟨some 38, _, _, _, _, _⟩ :: _) _ _; refine wpList_load_msg (op := ⟨some 38, .load _ _, _, _, _, _⟩) (by rfl) _ (by rfl) G3 (by rfl) (msgF h bd0) _ hZ (msgF_length _ _) ?_)
  refine (HGo.out _ (HX.out _ hbz)).mono ?_
  rintro e w5 ⟨rfl, hb5⟩
  replace hM := hM.below hb5
  replace hb := bnext hb hb5
  clear hb5 hZ hbz HX HGo
  go_upto_region 6 with (guard_target =~ wpList _ _ _ (⟨none, _, _, _, _, _⟩ :: _) _ _; refine wpList_store_msg (op := ⟨none, .store _ _ _, _, _, _, _⟩) (by rfl) _ _ (by rfl) w5.heap.size (msgF h d) (msgL hd0 zr) _ (by rfl) (by rfl) (Box.new w5 _ _) (msgF_length _ _) (msgL_length _ _ zr_length) (msgL_one _ _ (bdL_one _)) ?_)
  have hn5 := bnew w5 (Obj.cells (msgL hd0 zr).toArray 29)
  have hne5 : w.heap.size ≠ w5.heap.size := by have := hM.lt; omega
  have hY := (Box.new w5 (msgL hd0 zr) 29).row (msgF h d)
  replace hM := (hM.below hn5).row_other hne5 (msgF h d).toArray
  replace hb := bnext hb (below_setRow (bnext (Below.refl w5.heap.size w5) hn5) (Nat.le_refl _) (msgF h d).toArray)
  clear hn5
  change Code.wp _ _ _ _ ((w5.alloc (Obj.cells (msgL hd0 zr).toArray 29)).setRow w5.heap.size (msgF h d).toArray)
  generalize (w5.alloc (Obj.cells (msgL hd0 zr).toArray 29)).setRow w5.heap.size (msgF h d).toArray = W6 at *
  generalize w5.heap.size = G5 at *
  have c0 := hM.cell 0 _ rfl
  go_wp2_with fail
  refine (len_any _ _).mono ?_
  rintro e w7 ⟨rfl, hb7⟩
  replace hM := hM.below hb7
  replace hY := hY.below hb7
  replace hb := bnext hb hb7
  clear hb7 c0
  go_wp2_with (first | (guard_target =~ wpList _ _ _ (⟨some 68, _, _, _, _, _⟩ :: _) _ _; refine wpList_load_msg_g (op := ⟨some 68, .load _ _, _, _, _, _⟩) (by rfl) _ (by rfl) G5 (by rfl) (msgF h d) _ hY (msgF_length _ _) ?_) | (guard_target =~ wpList _ _ _ (⟨some 69, _, _, _, _, _⟩ :: _) _ _; refine wpList_load_msg_g (op := ⟨some 69, .load _ _, _, _, _, _⟩) (by rfl) _ (by rfl) w.heap.size (by rfl) (msgF h d) _ hM (msgF_length _ _) ?_))
  refine (awake07_any _).mono ?_
  rintro e w8 ⟨rfl, hb8⟩
  go_wp2_with fail
  go_ret
  exact ⟨rfl, bnext hb hb8⟩
end Go.Proofs.Ytpelgbcccgdlbaa