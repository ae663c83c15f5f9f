/- The walk of the law HeaderBack. -/
import Derived.Test.YtomfpmoglamflaaHeadAwake
import Derived.Test.YtomfpmoglamflaaHeadSay
import Derived.Test.YtomfpmoglamflaaAppZ
import Derived.Test.YtomfpmoglamflaaPlace
namespace Go.Proofs.Ytomfpmoglamflaa
open Go.RowKit Go.Proofs
set_option linter.unusedVariables false
set_option linter.unusedSimpArgs false

set_option maxRecDepth 100000 in
set_option maxHeartbeats 4000000 in
theorem headerBack_walk (h : Hd) (r : List Value) (hr : r.length = 15) (hok : HdOk h) (n : Int) (wn : (Lit.int .i64 n).wf = true) (w : World) :
    Calls Try.prog 5 #[.agg (msgL h r).toArray, .int .i64 n] w fun e w' => e = .returned (.bool true) ∧ Below w.heap.size w w' := by
  have hl := msgL_length h r hr
  have hS := same_msg h
  clear wn
  go_enter Try.func5, Try.ntmps5
  go_upto_region 1 with fail
  obtain ⟨W, hWe, hbw, hBox⟩ := box_msg w (msgL h r)
  rw [← hWe]
  clear hWe
  have HH := hid hBox.hd
  go_wp2_with fail
  refine (place_in _ _ _ (by decide) (by decide)).mono ?_
  rintro e w' ⟨y, rfl, hy0, hy1, hy, rfl⟩
  obtain ⟨k, rfl⟩ := Int.eq_ofNat_of_zero_le hy0
  clear hy
  have hk : k < 367 := by omega
  go_wp2_with (refine wpList_load_msg (op := ⟨some 16, .load _ _, _, _, _, _⟩) rfl _ rfl w.heap.size rfl (msgL h r) _ hBox hl ?_)
  cases hp : putB h (34 + (k : Int))
  · refine (headPut_no h r _ _ hr hp).mono ?_
    rintro e w1 ⟨rfl, hb1⟩
    go_wp2_with fail
    refine (awake06_any _).mono ?_
    rintro e w4 ⟨rfl, hb4⟩
    go_wp2_with fail
    go_ret
    exact ⟨rfl, bnext hbw (bnext hb1 hb4)⟩
  · refine (headPut_yes h r _ _ hr hok.1 hp).mono ?_
    rintro e w1 ⟨v1, rfl, own1, hb1⟩
    obtain ⟨eE, eN, eH⟩ := head_back h (34 + (k : Int)) k hok hp rfl (List.replicate k 0) (by simp)
    have HL := hid (headS_length h (34 + (k : Int)))
    have hl0 : 0 < (headS h (34 + (k : Int))).length := by rw [HL.out]; decide
    have hsm : (headS h (34 + (k : Int))).length + k ≤ 1000000 := by rw [HL.out]; omega
    have hsz : (headS h (34 + (k : Int)) ++ List.replicate k 0).length ≤ 140737488355328 := by rw [List.length_append, HL.out, List.length_replicate]; omega
    have HE := hid eE
    have HN := hid eN
    have HHd := hid eH
    generalize headS h (34 + (k : Int)) = L at *
    clear eE eN eH hp hBox
    go_wp2_with (at_builtin; refine wpList_append_zeros (o := ⟨some 33, _, _, _, _, _⟩) rfl _ _ rfl rfl W.heap.size _ L k _ rfl rfl ?_ own1 hl0 hsm hb1.size ?_; omega; intro v' w2 own2 hb2)
    replace hb2 := hb1.trans hb2
    refine (headGet_any _ (L ++ List.replicate k 0) _ own2.bytes hsz).mono ?_
    rintro e w3 ⟨rfl, hb3⟩
    rw [HE.out, HN.out, HHd.out]
    replace hb3 := bnext hb2 hb3
    clear own1 own2 hb2 hb1 hl0 hsm hsz HL HE HN HHd
    go_upto_region 6 with (refine wpList_store_msg (op := ⟨none, .store _ _ _, _, _, _, _⟩) rfl _ _ rfl w3.heap.size (msgL h zr) (msgL hd0 zr) _ rfl rfl (Box.new w3 _ _) (msgL_length _ _ zr_length) (msgL_length _ _ zr_length) (msgL_one _ _ zr_one) ?_)
    have hM := (Box.new w3 (msgL hd0 zr) 28).row (msgL h zr)
    have hb := below_setRow (bnext hb3 (bnew w3 (Obj.cells (msgL hd0 zr).toArray 28))) hb3.size (msgL h zr).toArray
    change Code.wp _ _ _ _ ((w3.alloc (Obj.cells (msgL hd0 zr).toArray 28)).setRow w3.heap.size (msgL h zr).toArray)
    generalize ((w3.alloc (Obj.cells (msgL hd0 zr).toArray 28)).setRow w3.heap.size (msgL h zr).toArray) = W4 at *
    generalize w3.heap.size = G at *
    clear hb3
    obtain ⟨c0, c1, c2, c3, c4, c5, c6, c7⟩ := HH.out _ hb
    go_upto_region 7 with (refine wpList_store_msg (op := ⟨none, .store _ _ _, _, _, _, _⟩) rfl _ _ rfl W4.heap.size (msgL h zr) (msgL hd0 zr) _ rfl rfl (Box.new W4 _ _) (msgL_length _ _ zr_length) (msgL_length _ _ zr_length) (msgL_one _ _ zr_one) ?_)
    have hne : G ≠ W4.heap.size := by have := hM.lt; omega
    have hN := (Box.new W4 (msgL hd0 zr) 28).row (msgL h zr)
    replace hM := (hM.below (bnew W4 (Obj.cells (msgL hd0 zr).toArray 28))).row_other hne (msgL h zr).toArray
    replace hb := below_setRow (bnext hb (bnew W4 (Obj.cells (msgL hd0 zr).toArray 28))) hb.size (msgL h zr).toArray
    change Code.wp _ _ _ _ ((W4.alloc (Obj.cells (msgL hd0 zr).toArray 28)).setRow W4.heap.size (msgL h zr).toArray)
    generalize ((W4.alloc (Obj.cells (msgL hd0 zr).toArray 28)).setRow W4.heap.size (msgL h zr).toArray) = W5 at *
    generalize W4.heap.size = G4 at *
    clear c0 c1 c2 c3 c4 c5 c6 c7
    go_wp2_with (first | (refine wpList_load_msg_g (op := ⟨some 61, .load _ _, _, _, _, _⟩) rfl _ rfl G rfl (msgL h zr) _ hM (msgL_length _ _ zr_length) ?_) | (refine wpList_load_msg_g (op := ⟨some 62, .load _ _, _, _, _, _⟩) rfl _ rfl G4 rfl (msgL h zr) _ hN (msgL_length _ _ zr_length) ?_))
    refine (awake06_any _).mono ?_
    rintro e w4 ⟨rfl, hb4⟩
    go_wp2_with fail
    go_ret
    exact ⟨rfl, bnext hbw (bnext hb hb4)⟩
end Go.Proofs.Ytomfpmoglamflaa
