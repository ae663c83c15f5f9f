/- The walk of the law HeaderIgnores (gen_ignores.py). -/
import Derived.Test.YtomfpmoglamflaaHeadIgn
namespace Go.Proofs.Ytomfpmoglamflaa
open Go.RowKit Go.Proofs
set_option linter.unusedVariables false
set_option linter.unusedSimpArgs false

set_option maxRecDepth 100000 in
set_option maxHeartbeats 3000000 in
theorem headerIgnores_walk (h : Hd) (r : List Value) (hr : r.length = 15) (hok : HdOk h) (a0 : Int) (wa : (Lit.int .u8 a0).wf = true) (b0 : Int) (wb : (Lit.int .u8 b0).wf = true) (c0 : Int) (wc : (Lit.int .u8 c0).wf = true) (v0 : Int) (wv : (Lit.int .u8 v0).wf = true) (w : World) :
    Calls Try.prog 8 #[.agg (msgL h r).toArray, .int .u8 a0, .int .u8 b0, .int .u8 c0, .int .u8 v0] w fun e w' => e = .returned (.bool true) ∧ Below w.heap.size w w' := by
  obtain ⟨a, rfl⟩ := u8_of_wf wa
  obtain ⟨b, rfl⟩ := u8_of_wf wb
  obtain ⟨c, rfl⟩ := u8_of_wf wc
  obtain ⟨v, rfl⟩ := u8_of_wf wv
  clear wa wb wc wv
  have hl := msgL_length h r hr
  have hS := same_msg h
  go_enter Try.func8, Try.ntmps8
  go_upto_region 1 with fail
  obtain ⟨W, hWe, hbw, hBox⟩ := box_msg w (msgL h r)
  rw [← hWe]
  clear hWe
  go_wp2_with (refine wpList_load_msg (op := ⟨some 26, .load _ _, _, _, _, _⟩) rfl _ rfl w.heap.size rfl (msgL h r) _ hBox hl ?_)
  cases hp : putB h 34
  · refine (headPut_no h r _ _ hr hp).mono ?_
    rintro e w1 ⟨rfl, hb1⟩
    go_wp2_with fail
    refine (awake06_any _).mono ?_
    rintro e w4 ⟨rfl, hb4⟩
    go_wp2_with fail
    go_ret
    exact ⟨rfl, bnext hbw (bnext hb1 hb4)⟩
  refine (headPut_yes h r _ _ hr hok.1 hp).mono ?_
  rintro e w1 ⟨v1, rfl, own, hb⟩
  clear hBox hl
  obtain ⟨g, cap, rfl, hcap, hgW, hmax, hg⟩ := own.form (by rw [headS_length]; decide)
  rw [headS_length] at hcap own ⊢
  -- what is said of the bytes
  have hv := v.toNat_lt
  obtain ⟨x2, x256, x15, x240⟩ := low4 v.toNat hv
  obtain ⟨x, hx⟩ : ∃ x : UInt8, x.toNat = (v.toNat &&& 240) ||| 2 := ⟨UInt8.ofNat ((v.toNat &&& 240) ||| 2), by rw [UInt8.toNat_ofNat']; omega⟩
  obtain ⟨z, hz⟩ : ∃ z : UInt8, (z.toNat : Int) = 4 + (v.toNat : Int) % 4 := ⟨UInt8.ofNat (4 + v.toNat % 4), by rw [UInt8.toNat_ofNat']; omega⟩
  have hX : bits .or .u8 (bits .and .u8 (v.toNat : Int) 240) 2 = (x.toNat : Int) := by
    have e1 := u8_and_nat v.toNat 240 hv (by decide)
    have e2 := u8_or_nat (v.toNat &&& 240) 2 x240 (by decide)
    rw [hx, ← e2, ← e1]
    rfl
  have hV : bits .and .u8 (v.toNat : Int) 15 = (v.toNat : Int) % 16 := by
    have e1 := u8_and_nat v.toNat 15 hv (by decide)
    rw [x15] at e1
    have e3 : ((v.toNat % 16 : Nat) : Int) = (v.toNat : Int) % 16 := by omega
    rw [← e3, ← e1]
    rfl
  have hM4 : (v.toNat : Int).tmod 4 = (v.toNat : Int) % 4 := Int.tmod_eq_emod_of_nonneg (by omega)
  have hzb : 4 ≤ z.toNat ∧ z.toNat ≤ 7 := by omega
  obtain ⟨eE, -, eH⟩ := head_back h 34 0 hok hp rfl [] rfl
  rw [List.append_nil] at eE eH
  obtain ⟨i1, i2⟩ := ign_get h hok hp x a b c
  have hx16 : (x.toNat : Int) % 16 = 2 := by omega
  rw [if_pos hx16] at i1
  replace i2 := i2 hx16
  obtain ⟨j1, -⟩ := ign_get h hok hp v a b c
  have hset : (ign (headS h 34) x a b c).set 1 v = ign (headS h 34) v a b c := by
    unfold ign
    rw [List.set_comm _ _ (show (32 : Nat) ≠ 1 by decide), List.set_comm _ _ (show (19 : Nat) ≠ 1 by decide), List.set_comm _ _ (show (16 : Nat) ≠ 1 by decide), List.set_comm _ _ (show (5 : Nat) ≠ 1 by decide), List.set_set]
  have hL34 := headS_length h 34
  have hn : getE (((ign (headS h 34) v a b c).set 1 2).set 0 z) = 4 := no_type _ z (by simp [ign_length, hL34]) hzb
  have hL1 : (ign (headS h 34) x a b c).length = 34 := by rw [ign_length, hL34]
  have hL2 : (ign (headS h 34) v a b c).length = 34 := by rw [ign_length, hL34]
  have hI : ign (headS h 34) x a b c = (((((headS h 34).set 1 x).set 5 a).set 16 b).set 19 c).set 32 a := rfl
  have hz1 : (4 + (v.toNat : Int) % 4) % 256 = (z.toNat : Int) := by omega
  have hz2 : IntKind.u8.wrap (4 + (v.toNat : Int) % 4) = (z.toNat : Int) := by rw [IntKind.wrap_u8]; omega
  have hz3 : 4 + (v.toNat : Int) % 4 = (z.toNat : Int) := hz.symm
  clear hz hp hx hzb x2 x256 x15 x240 hx16
  generalize headS h 34 = L at *
  generalize hG1 : ign L x a b c = L1 at *
  generalize ign L v a b c = L2 at *
  clear hG1
  have HI := hid hI
  have HsetV := hid hset
  have HE := hid eE
  have HHd := hid eH
  have HE1 := hid i1
  have HH1 := hid i2
  have HE2 := hid j1
  have HE3 := hid hn
  have HL := hid hL34
  have HL1 := hid hL1
  have HL2 := hid hL2
  clear hI hset eE eH i1 i2 j1 hn hL34 hL1 hL2
  have hcapI : (34 : Int) ≤ (cap : Int) := by omega
  unfold maxLen at hmax
  -- Get of what is put
  go_wp2_with fail
  refine (headGet_any _ L _ own.bytes (by rw [HL.out]; decide)).mono ?_
  rintro e w3 ⟨rfl, hbn⟩
  rw [HE.out, HHd.out]
  go_upto_region 5 with (refine wpList_store_msg (op := ⟨none, .store _ _ _, _, _, _, _⟩) rfl _ _ rfl w3.heap.size (msgL h zr) (msgL hd0 zr) _ rfl rfl (Box.new w3 _ _) (msgL_length _ _ zr_length) (msgL_length _ _ zr_length) (msgL_one _ _ zr_one) ?_)
  have hbo := below_setRow (bnext hbn (bnew w3 (Obj.cells (msgL hd0 zr).toArray 28))) hbn.size (msgL h zr).toArray
  replace own := own.below hbo
  replace hb := bnext hb hbo
  have hMw3 := (Box.new w3 (msgL hd0 zr) 28).row (msgL h zr)
  have hltw3 : g < w3.heap.size := Nat.lt_of_lt_of_le hg hbn.size
  replace hg := Nat.lt_of_lt_of_le hg hbo.size
  change Code.wp _ _ _ _ ((w3.alloc (Obj.cells (msgL hd0 zr).toArray 28)).setRow w3.heap.size (msgL h zr).toArray)
  generalize ((w3.alloc (Obj.cells (msgL hd0 zr).toArray 28)).setRow w3.heap.size (msgL h zr).toArray) = W4 at *
  generalize w3.heap.size = Gw3 at *
  clear hbn hbo
  -- the bytes that say nothing
  have hc1 := own.cell 1 (by simp [HL.out])
  have hf1 := own.free 1
  go_upto_region 6 with fail
  replace own := own.set 1 x
  replace hb := hb.setCell (p := ⟨g, 1, none⟩) hgW (bv x)
  replace hMw3 := hMw3.other (by omega : Gw3 ≠ g) 1 (bv x)
  clear hc1 hf1
  change Code.wp _ _ _ _ (World.setCell W4 ⟨g, 1, none⟩ (bv x))
  generalize (World.setCell W4 ⟨g, 1, none⟩ (bv x)) = W5 at *
  replace hg := own_lt own
  have hc5 := own.cell 5 (by simp [HL.out])
  have hf5 := own.free 5
  have hc16 := own.cell 16 (by simp [HL.out])
  have hf16 := own.free 16
  have hc19 := own.cell 19 (by simp [HL.out])
  have hf19 := own.free 19
  have hc32 := own.cell 32 (by simp [HL.out])
  have hf32 := own.free 32
  go_upto_region 7 with fail
  replace own := own.set 5 a
  replace hb := hb.setCell (p := ⟨g, 5, none⟩) hgW (bv a)
  replace hMw3 := hMw3.other (by omega : Gw3 ≠ g) 5 (bv a)
  replace own := own.set 16 b
  replace hb := hb.setCell (p := ⟨g, 16, none⟩) hgW (bv b)
  replace hMw3 := hMw3.other (by omega : Gw3 ≠ g) 16 (bv b)
  replace own := own.set 19 c
  replace hb := hb.setCell (p := ⟨g, 19, none⟩) hgW (bv c)
  replace hMw3 := hMw3.other (by omega : Gw3 ≠ g) 19 (bv c)
  replace own := own.set 32 a
  replace hb := hb.setCell (p := ⟨g, 32, none⟩) hgW (bv a)
  replace hMw3 := hMw3.other (by omega : Gw3 ≠ g) 32 (bv a)
  clear hc5 hf5 hc16 hf16 hc19 hf19 hc32 hf32
  change Code.wp _ _ _ _ (World.setCell (World.setCell (World.setCell (World.setCell W5 ⟨g, 5, none⟩ (bv a)) ⟨g, 16, none⟩ (bv b)) ⟨g, 19, none⟩ (bv c)) ⟨g, 32, none⟩ (bv a))
  generalize (World.setCell (World.setCell (World.setCell (World.setCell W5 ⟨g, 5, none⟩ (bv a)) ⟨g, 16, none⟩ (bv b)) ⟨g, 19, none⟩ (bv c)) ⟨g, 32, none⟩ (bv a)) = W6 at *
  rw [← HI.out] at own
  replace hg := own_lt own
  go_wp2_with fail
  refine (headGet_any _ L1 _ own.bytes (by rw [HL1.out]; decide)).mono ?_
  rintro e w7 ⟨rfl, hbn⟩
  rw [HE1.out, HH1.out]
  go_upto_region 8 with (refine wpList_store_msg (op := ⟨none, .store _ _ _, _, _, _, _⟩) rfl _ _ rfl w7.heap.size (msgL h zr) (msgL hd0 zr) _ rfl rfl (Box.new w7 _ _) (msgL_length _ _ zr_length) (msgL_length _ _ zr_length) (msgL_one _ _ zr_one) ?_)
  have hbo := below_setRow (bnext hbn (bnew w7 (Obj.cells (msgL hd0 zr).toArray 28))) hbn.size (msgL h zr).toArray
  replace own := own.below hbo
  replace hb := bnext hb hbo
  replace hMw3 := hMw3.below hbo
  have hMw7 := (Box.new w7 (msgL hd0 zr) 28).row (msgL h zr)
  have hltw7 : g < w7.heap.size := Nat.lt_of_lt_of_le hg hbn.size
  replace hg := Nat.lt_of_lt_of_le hg hbo.size
  change Code.wp _ _ _ _ ((w7.alloc (Obj.cells (msgL hd0 zr).toArray 28)).setRow w7.heap.size (msgL h zr).toArray)
  generalize ((w7.alloc (Obj.cells (msgL hd0 zr).toArray 28)).setRow w7.heap.size (msgL h zr).toArray) = W8 at *
  generalize w7.heap.size = Gw7 at *
  clear hbn hbo
  -- the two messages are alike
  go_upto_region 10 with (first | (refine wpList_load_msg_g (op := ⟨some 69, .load _ _, _, _, _, _⟩) rfl _ rfl Gw7 rfl (msgL h zr) _ hMw7 (msgL_length _ _ zr_length) ?_) | (refine wpList_load_msg_g (op := ⟨some 70, .load _ _, _, _, _, _⟩) rfl _ rfl Gw3 rfl (msgL h zr) _ hMw3 (msgL_length _ _ zr_length) ?_))
  clear hMw3 hMw7 hltw3 hltw7 hS
  -- another second byte
  have hc1 := own.cell 1 (by simp [HL1.out])
  have hf1 := own.free 1
  go_upto_region 11 with fail
  replace own := own.set 1 v
  replace hb := hb.setCell (p := ⟨g, 1, none⟩) hgW (bv v)
  clear hc1 hf1
  change Code.wp _ _ _ _ (World.setCell W8 ⟨g, 1, none⟩ (bv v))
  generalize (World.setCell W8 ⟨g, 1, none⟩ (bv v)) = W9 at *
  rw [HsetV.out] at own
  replace hg := own_lt own
  by_cases hq : (v.toNat : Int) % 16 = 2
  · have HE2' := hid (HE2.out.trans (if_pos hq))
    go_wp2_with fail
    refine (headGet_any _ L2 _ own.bytes (by rw [HL2.out]; decide)).mono ?_
    rintro e w9 ⟨rfl, hbn⟩
    rw [HE2'.out]
    go_upto_region 12 with (refine wpList_store_msg (op := ⟨none, .store _ _ _, _, _, _, _⟩) rfl _ _ rfl w9.heap.size (msgL (getH L2) zr) (msgL hd0 zr) _ rfl rfl (Box.new w9 _ _) (msgL_length _ _ zr_length) (msgL_length _ _ zr_length) (msgL_one _ _ zr_one) ?_)
    have hbo := below_setRow (bnext hbn (bnew w9 (Obj.cells (msgL hd0 zr).toArray 28))) hbn.size (msgL (getH L2) zr).toArray
    replace own := own.below hbo
    replace hb := bnext hb hbo
    replace hg := Nat.lt_of_lt_of_le hg hbo.size
    change Code.wp _ _ _ _ ((w9.alloc (Obj.cells (msgL hd0 zr).toArray 28)).setRow w9.heap.size (msgL (getH L2) zr).toArray)
    generalize ((w9.alloc (Obj.cells (msgL hd0 zr).toArray 28)).setRow w9.heap.size (msgL (getH L2) zr).toArray) = W10 at *
    generalize w9.heap.size = Gw9 at *
    clear hbn hbo
    have hc1 := own.cell 1 (by simp [HL2.out])
    have hf1 := own.free 1
    go_upto_region 13 with fail
    replace own := own.set 1 2
    replace hb := hb.setCell (p := ⟨g, 1, none⟩) hgW (bv 2)
    clear hc1 hf1
    change Code.wp _ _ _ _ (World.setCell W10 ⟨g, 1, none⟩ (bv 2))
    generalize (World.setCell W10 ⟨g, 1, none⟩ (bv 2)) = W12 at *
    replace hg := own_lt own
    have hc0 := own.cell 0 (by simp [HL2.out])
    have hf0 := own.free 0
    go_upto_region 14 with fail
    replace own := own.set 0 z
    replace hb := hb.setCell (p := ⟨g, 0, none⟩) hgW (bv z)
    clear hc0 hf0
    change Code.wp _ _ _ _ (World.setCell W12 ⟨g, 0, none⟩ (bv z))
    generalize (World.setCell W12 ⟨g, 0, none⟩ (bv z)) = W13 at *
    replace hg := own_lt own
    generalize hL3 : (L2.set 1 2).set 0 z = L3 at *
    have HL3 := hid (show L3.length = 34 by rw [← hL3]; simp [HL2.out])
    clear hL3
    go_wp2_with fail
    refine (headGet_any _ L3 _ own.bytes (by rw [HL3.out]; decide)).mono ?_
    rintro e w13 ⟨rfl, hbn⟩
    rw [HE3.out]
    go_upto_region 15 with (refine wpList_store_msg (op := ⟨none, .store _ _ _, _, _, _, _⟩) rfl _ _ rfl w13.heap.size (msgL (getH L3) zr) (msgL hd0 zr) _ rfl rfl (Box.new w13 _ _) (msgL_length _ _ zr_length) (msgL_length _ _ zr_length) (msgL_one _ _ zr_one) ?_)
    have hbo := below_setRow (bnext hbn (bnew w13 (Obj.cells (msgL hd0 zr).toArray 28))) hbn.size (msgL (getH L3) zr).toArray
    replace own := own.below hbo
    replace hb := bnext hb hbo
    replace hg := Nat.lt_of_lt_of_le hg hbo.size
    change Code.wp _ _ _ _ ((w13.alloc (Obj.cells (msgL hd0 zr).toArray 28)).setRow w13.heap.size (msgL (getH L3) zr).toArray)
    generalize ((w13.alloc (Obj.cells (msgL hd0 zr).toArray 28)).setRow w13.heap.size (msgL (getH L3) zr).toArray) = W14 at *
    generalize w13.heap.size = Gw13 at *
    clear hbn hbo
    go_wp2_with fail
    refine (awake06_any _).mono ?_
    rintro e w15 ⟨rfl, hb15⟩
    go_wp2_with fail
    go_ret
    exact ⟨rfl, bnext hbw (bnext hb hb15)⟩
  · have HE2' := hid (HE2.out.trans (if_neg hq))
    have hq2 : ((v.toNat : Int) % 16 == 2) = false := beq_false_of_ne hq
    go_wp2_with fail
    refine (headGet_any _ L2 _ own.bytes (by rw [HL2.out]; decide)).mono ?_
    rintro e w9 ⟨rfl, hbn⟩
    rw [HE2'.out]
    go_upto_region 12 with (refine wpList_store_msg (op := ⟨none, .store _ _ _, _, _, _, _⟩) rfl _ _ rfl w9.heap.size (msgL (getH L2) zr) (msgL hd0 zr) _ rfl rfl (Box.new w9 _ _) (msgL_length _ _ zr_length) (msgL_length _ _ zr_length) (msgL_one _ _ zr_one) ?_)
    have hbo := below_setRow (bnext hbn (bnew w9 (Obj.cells (msgL hd0 zr).toArray 28))) hbn.size (msgL (getH L2) zr).toArray
    replace own := own.below hbo
    replace hb := bnext hb hbo
    replace hg := Nat.lt_of_lt_of_le hg hbo.size
    change Code.wp _ _ _ _ ((w9.alloc (Obj.cells (msgL hd0 zr).toArray 28)).setRow w9.heap.size (msgL (getH L2) zr).toArray)
    generalize ((w9.alloc (Obj.cells (msgL hd0 zr).toArray 28)).setRow w9.heap.size (msgL (getH L2) zr).toArray) = W10 at *
    generalize w9.heap.size = Gw9 at *
    clear hbn hbo
    have hc1 := own.cell 1 (by simp [HL2.out])
    have hf1 := own.free 1
    go_upto_region 13 with fail
    replace own := own.set 1 2
    replace hb := hb.setCell (p := ⟨g, 1, none⟩) hgW (bv 2)
    clear hc1 hf1
    change Code.wp _ _ _ _ (World.setCell W10 ⟨g, 1, none⟩ (bv 2))
    generalize (World.setCell W10 ⟨g, 1, none⟩ (bv 2)) = W12 at *
    replace hg := own_lt own
    have hc0 := own.cell 0 (by simp [HL2.out])
    have hf0 := own.free 0
    go_upto_region 14 with fail
    replace own := own.set 0 z
    replace hb := hb.setCell (p := ⟨g, 0, none⟩) hgW (bv z)
    clear hc0 hf0
    change Code.wp _ _ _ _ (World.setCell W12 ⟨g, 0, none⟩ (bv z))
    generalize (World.setCell W12 ⟨g, 0, none⟩ (bv z)) = W13 at *
    replace hg := own_lt own
    generalize hL3 : (L2.set 1 2).set 0 z = L3 at *
    have HL3 := hid (show L3.length = 34 by rw [← hL3]; simp [HL2.out])
    clear hL3
    go_wp2_with fail
    refine (headGet_any _ L3 _ own.bytes (by rw [HL3.out]; decide)).mono ?_
    rintro e w13 ⟨rfl, hbn⟩
    rw [HE3.out]
    go_upto_region 15 with (refine wpList_store_msg (op := ⟨none, .store _ _ _, _, _, _, _⟩) rfl _ _ rfl w13.heap.size (msgL (getH L3) zr) (msgL hd0 zr) _ rfl rfl (Box.new w13 _ _) (msgL_length _ _ zr_length) (msgL_length _ _ zr_length) (msgL_one _ _ zr_one) ?_)
    have hbo := below_setRow (bnext hbn (bnew w13 (Obj.cells (msgL hd0 zr).toArray 28))) hbn.size (msgL (getH L3) zr).toArray
    replace own := own.below hbo
    replace hb := bnext hb hbo
    replace hg := Nat.lt_of_lt_of_le hg hbo.size
    change Code.wp _ _ _ _ ((w13.alloc (Obj.cells (msgL hd0 zr).toArray 28)).setRow w13.heap.size (msgL (getH L3) zr).toArray)
    generalize ((w13.alloc (Obj.cells (msgL hd0 zr).toArray 28)).setRow w13.heap.size (msgL (getH L3) zr).toArray) = W14 at *
    generalize w13.heap.size = Gw13 at *
    clear hbn hbo
    go_wp2_with fail
    refine (awake06_any _).mono ?_
    rintro e w15 ⟨rfl, hb15⟩
    go_wp2_with fail
    go_ret
    exact ⟨rfl, bnext hbw (bnext hb hb15)⟩
end Go.Proofs.Ytomfpmoglamflaa
