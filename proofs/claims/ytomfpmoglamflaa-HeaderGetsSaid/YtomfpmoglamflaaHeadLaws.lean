/- The walk of the law HeaderGets. -/
import Derived.Test.YtomfpmoglamflaaHeadAwake
import Derived.Test.YtomfpmoglamflaaHeadRef2
import Derived.Test.YtomfpmoglamflaaApp
namespace Go.Proofs.Ytomfpmoglamflaa
open Go.RowKit Go.Proofs
set_option linter.unusedVariables false
set_option linter.unusedSimpArgs false

set_option maxRecDepth 100000 in
set_option maxHeartbeats 4000000 in
theorem headerGets_walk {w : World} (v0 : Value) (l0 : List UInt8) (b0 : Bytes w v0 l0) (r0 : l0.length ≤ 140737488351232) :
    Calls Try.prog 4 #[v0] w fun e w' => e = .returned (.bool true) ∧ Below w.heap.size w w' := by
  have HB := hid fun (w' : World) (h : Below w.heap.size w w') => b0.below h
  have hS := same_msg (getH l0)
  clear b0
  go_enter Try.func4, Try.ntmps4
  go_wp2_with fail
  refine (bytes00_any _ l0 _ (HB.out _ (Below.refl _ _)) (by omega)).mono ?_
  rintro e w1 ⟨v1, rfl, own1, hb1⟩
  go_wp2_with fail
  refine (headGet_any _ l0 _ own1.bytes (by omega)).mono ?_
  rintro e w2 ⟨rfl, hb2⟩
  go_wp2_with (refine wpList_store_msg (op := ⟨none, .store _ _ _, _, _, _, _⟩) rfl _ _ rfl w2.heap.size (msgL (getH l0) zr) (msgL hd0 zr) _ rfl rfl (Box.new w2 _ _) (msgL_length _ _ zr_length) (msgL_length _ _ zr_length) (msgL_one _ _ zr_one) ?_)
  have hM := (Box.new w2 (msgL hd0 zr) 28).row (msgL (getH l0) zr)
  have hb := below_setRow (bnext (bnext hb1 hb2) (bnew w2 (Obj.cells (msgL hd0 zr).toArray 28))) (bnext hb1 hb2).size (msgL (getH l0) zr).toArray
  change Calls _ _ _ ((w2.alloc (Obj.cells (msgL hd0 zr).toArray 28)).setRow w2.heap.size (msgL (getH l0) zr).toArray) _
  generalize ((w2.alloc (Obj.cells (msgL hd0 zr).toArray 28)).setRow w2.heap.size (msgL (getH l0) zr).toArray) = W at *
  generalize w2.heap.size = G at *
  refine (refHeadGet_any _ l0 _ (HB.out _ hb) (by omega)).mono ?_
  rintro e w3 ⟨rfl, hb3⟩
  replace hM := hM.below hb3
  replace hb := bnext hb hb3
  go_upto_region 3 with (refine wpList_store_msg (op := ⟨none, .store _ _ _, _, _, _, _⟩) rfl _ _ rfl w3.heap.size (msgL (getH l0) zr) (msgL hd0 zr) _ rfl rfl (Box.new w3 _ _) (msgL_length _ _ zr_length) (msgL_length _ _ zr_length) (msgL_one _ _ zr_one) ?_)
  have hne : G ≠ w3.heap.size := by have := hM.lt; omega
  have hN := (Box.new w3 (msgL hd0 zr) 28).row (msgL (getH l0) zr)
  replace hM := (hM.below (bnew w3 (Obj.cells (msgL hd0 zr).toArray 28))).row_other hne (msgL (getH l0) zr).toArray
  replace hb := below_setRow (bnext hb (bnew w3 (Obj.cells (msgL hd0 zr).toArray 28))) hb.size (msgL (getH l0) zr).toArray
  change Code.wp _ _ _ _ ((w3.alloc (Obj.cells (msgL hd0 zr).toArray 28)).setRow w3.heap.size (msgL (getH l0) zr).toArray)
  generalize ((w3.alloc (Obj.cells (msgL hd0 zr).toArray 28)).setRow w3.heap.size (msgL (getH l0) zr).toArray) = W3 at *
  apply wp_region_lit
  refine wpList_load_msg (op := ⟨some 22, .load _ _, _, _, _, _⟩) rfl _ rfl G rfl (msgL (getH l0) zr) _ hM (msgL_length _ _ zr_length) ?_
  refine wpList_load_msg (op := ⟨some 23, .load _ _, _, _, _, _⟩) rfl _ rfl w3.heap.size rfl (msgL (getH l0) zr) _ hN (msgL_length _ _ zr_length) ?_
  go_wp2_with fail
  refine (awake06_any _).mono ?_
  rintro e w4 ⟨rfl, hb4⟩
  go_wp2_with fail
  go_ret
  exact ⟨rfl, bnext hb hb4⟩
end Go.Proofs.Ytomfpmoglamflaa
