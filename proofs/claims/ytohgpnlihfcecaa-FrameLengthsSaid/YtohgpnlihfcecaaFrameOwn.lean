/- The program's own Get and Here of chapter 9 (gen_frameown.py). -/
import Derived.Test.YtohgpnlihfcecaaFrameHere
import Derived.Test.YtohgpnlihfcecaaBodyGet3
import Derived.Test.YtohgpnlihfcecaaHeadGet
import Derived.Test.YtohgpnlihfcecaaTlvOwn7
import Derived.Test.YtohgpnlihfcecaaB1
namespace Go.Proofs.Ytohgpnlihfcecaa
open Go.RowKit Go.Proofs
set_option maxRecDepth 50000
set_option linter.unusedVariables false
set_option linter.unusedSimpArgs false

set_option maxRecDepth 100000 in
set_option maxHeartbeats 4000000 in
theorem frameGet_1 (b : List UInt8) (w : World) (hl : b.length ≤ 140737488351232) (h1 : getE b ≠ 0) :
    Calls Try.prog 14 #[sv b] w fun e w' => ∃ v', e = .returned (.tuple #[.agg (msgF hd0 bd0).toArray, v', .int .i64 (getE b)]) ∧ OwnT w' w.heap.size v' [] ∧ Below w.heap.size w w' := by
  have hbW := bnew w (Obj.cells (msgL hd0 zr).toArray 28)
  have hA := Box.new w (msgL hd0 zr) 28
  go_enter Try.func14, Try.ntmps14
  go_wp2_with fail
  change Code.wp Try.prog _ _ _ (w.alloc (Obj.cells (msgL hd0 zr).toArray 28))
  generalize w.alloc (Obj.cells (msgL hd0 zr).toArray 28) = W at *
  generalize hG : w.heap.size = G at *
  have hGW : G < W.heap.size := hA.lt
  have hb := Below.refl W.heap.size W
  refine wp_scope_hop ?_
  intro Q' hret hgo
  go_upto_region 3 with (refine wpList_convert_str (o := ⟨some 12, _, _, _, _, _⟩) rfl _ rfl b rfl (by omega) ?_; intro v2 w2 hv2 b2)
  replace hA := hA.below b2
  replace hb := bnext hb b2
  have HV := hid fun (wx : World) (h : Below w2.heap.size w2 wx) => hv2.below h
  go_wp2_with fail
  refine (headGet_any v2 b w2 hv2 (by omega)).mono ?_
  rintro e w3 ⟨rfl, b3⟩
  replace hA := hA.below b3
  replace hb := bnext hb b3
  have bv := b3
  have hbS := hb.size
  have hvS := bv.size
  rw [(get_none h1).1, (get_none h1).2]
  have hI : (getE b == 0) = false := beq_false_of_ne h1
  clear h1
  have N := Box.new w3 (msgL hd0 zr) 28
  have nb := bnew w3 (Obj.cells (msgL hd0 zr).toArray 28)
  go_upto_region 4 with (guard_target =~ wpList _ _ _ (⟨none, _, _, _, _, _⟩ :: _) _ _; refine wpList_store_msg (op := ⟨none, .store _ _ _, _, _, _, _⟩) (by rfl) _ _ (by rfl) w3.heap.size (msgF hd0 bd0) (msgL hd0 zr) _ (by rfl) (by rfl) N (msgF_length _ _) (msgL_length _ _ zr_length) (msgL_one _ _ (bdL_one _)) ?_)
  have B6 := N.row (msgF hd0 bd0)
  replace nb := below_setRow nb (Nat.le_refl _) (msgF hd0 bd0).toArray
  change Code.wp _ _ _ _ ((w3.alloc (Obj.cells (msgL hd0 zr).toArray 28)).setRow w3.heap.size (msgF hd0 bd0).toArray)
  generalize ((w3.alloc (Obj.cells (msgL hd0 zr).toArray 28)).setRow w3.heap.size (msgF hd0 bd0).toArray) = W4 at *
  generalize hgB6 : w3.heap.size = gB6 at *
  have nc : Below w3.heap.size w3 W4 := by rw [hgB6]; exact nb
  replace hb := bnext hb nc
  replace hA := hA.below nc
  replace bv := bnext bv nc
  clear N nb nc B6
  go_wp2_with fail
  go_step3
  refine hgo 0 _ _ _ rfl ?_
  go_wp2_with (guard_target =~ wpList _ _ _ (⟨none, _, _, _, _, _⟩ :: _) _ _; refine wpList_store_msg (op := ⟨none, .store _ _ _, _, _, _, _⟩) (by rfl) _ _ (by rfl) G (msgF hd0 bd0) (msgL hd0 zr) _ (by rfl) (by rfl) hA (msgF_length _ _) (msgL_length _ _ zr_length) (msgL_one _ _ (bdL_one _)) ?_)
  rw [Exit.noGoto_ret]
  exact bodyPost_ret (v := .tuple #[.agg (msgF hd0 bd0).toArray, .slice none 0 0, .int .i64 (getE b)]) (results_msg_3 (p := 2) (u := 3) (u' := 4) rfl _ _ G _ (msgF hd0 bd0) rfl (hA.row _) (msgF_length _ _)) rfl ⟨.slice none 0 0, rfl, OwnT.nil _ _, by rw [hG]; exact below_setRow (hbW.trans (hb.mono (Nat.le_of_lt hGW))) (Nat.le_refl _) _⟩

set_option maxRecDepth 100000 in
set_option maxHeartbeats 4000000 in
theorem frameGet_2 (b : List UInt8) (w : World) (hl : b.length ≤ 140737488351232) (h1 : getE b = 0) (h2 : bodyE (getH b).ty b 34 ≠ 0) :
    Calls Try.prog 14 #[sv b] w fun e w' => ∃ v', e = .returned (.tuple #[.agg (msgF hd0 bd0).toArray, v', .int .i64 (bodyE (getH b).ty b 34)]) ∧ OwnT w' w.heap.size v' [] ∧ Below w.heap.size w w' := by
  obtain ⟨h34, hk⟩ := whole_known h1
  have hbW := bnew w (Obj.cells (msgL hd0 zr).toArray 28)
  have hA := Box.new w (msgL hd0 zr) 28
  go_enter Try.func14, Try.ntmps14
  go_wp2_with fail
  change Code.wp Try.prog _ _ _ (w.alloc (Obj.cells (msgL hd0 zr).toArray 28))
  generalize w.alloc (Obj.cells (msgL hd0 zr).toArray 28) = W at *
  generalize hG : w.heap.size = G at *
  have hGW : G < W.heap.size := hA.lt
  have hb := Below.refl W.heap.size W
  refine wp_scope_hop ?_
  intro Q' hret hgo
  go_upto_region 3 with (refine wpList_convert_str (o := ⟨some 12, _, _, _, _, _⟩) rfl _ rfl b rfl (by omega) ?_; intro v2 w2 hv2 b2)
  replace hA := hA.below b2
  replace hb := bnext hb b2
  have HV := hid fun (wx : World) (h : Below w2.heap.size w2 wx) => hv2.below h
  go_wp2_with fail
  refine (headGet_any v2 b w2 hv2 (by omega)).mono ?_
  rintro e w3 ⟨rfl, b3⟩
  replace hA := hA.below b3
  replace hb := bnext hb b3
  have bv := b3
  have hbS := hb.size
  have hvS := bv.size
  rw [h1, (get_some h1).1]
  have N := Box.new w3 (msgL hd0 zr) 28
  have nb := bnew w3 (Obj.cells (msgL hd0 zr).toArray 28)
  go_upto_region 4 with (guard_target =~ wpList _ _ _ (⟨none, _, _, _, _, _⟩ :: _) _ _; refine wpList_store_msg (op := ⟨none, .store _ _ _, _, _, _, _⟩) (by rfl) _ _ (by rfl) w3.heap.size (msgF (getH b) bd0) (msgL hd0 zr) _ (by rfl) (by rfl) N (msgF_length _ _) (msgL_length _ _ zr_length) (msgL_one _ _ (bdL_one _)) ?_)
  have B6 := N.row (msgF (getH b) bd0)
  replace nb := below_setRow nb (Nat.le_refl _) (msgF (getH b) bd0).toArray
  change Code.wp _ _ _ _ ((w3.alloc (Obj.cells (msgL hd0 zr).toArray 28)).setRow w3.heap.size (msgF (getH b) bd0).toArray)
  generalize ((w3.alloc (Obj.cells (msgL hd0 zr).toArray 28)).setRow w3.heap.size (msgF (getH b) bd0).toArray) = W4 at *
  generalize hgB6 : w3.heap.size = gB6 at *
  have nc : Below w3.heap.size w3 W4 := by rw [hgB6]; exact nb
  replace hb := bnext hb nc
  replace hA := hA.below nc
  replace bv := bnext bv nc
  clear N nb nc
  generalize hh : getH b = h at *
  generalize lenOf b = LN at *
  go_wp2_with (guard_target =~ wpList _ _ _ (⟨some 22, _, _, _, _, _⟩ :: _) _ _; refine wpList_load_msg (op := ⟨some 22, .load _ _, _, _, _, _⟩) (by rfl) _ (by rfl) gB6 (by rfl) (msgF h bd0) _ B6 (msgF_length _ _) ?_)
  have hcall := bodyGet_all v2 b h bd0 34 W4 (HV.out _ bv) (by omega) (by decide) hk
  unfold bodyR at hcall
  rw [if_neg h2] at hcall
  refine hcall.mono ?_
  rintro e w5 ⟨rfl, b5⟩
  clear hcall
  replace hA := hA.below b5
  replace hb := bnext hb b5
  replace bv := bnext bv b5
  replace B6 := B6.below b5
  generalize hEE : bodyE h.ty b 34 = E at *
  have hI : (E == 0) = false := beq_false_of_ne h2
  clear h2
  have hgG : G ≠ gB6 := by omega
  go_upto_region 6 with (guard_target =~ wpList _ _ _ (⟨none, _, _, _, _, _⟩ :: _) _ _; refine wpList_store_msg (op := ⟨none, .store _ _ _, _, _, _, _⟩) (by rfl) _ _ (by rfl) gB6 (msgF hd0 bd0) (msgF h bd0) _ (by rfl) (by rfl) B6 (msgF_length _ _) (msgF_length _ _) (msgL_one _ _ (bdL_one _)) ?_)
  have B9 := B6.row (msgF hd0 bd0)
  replace hA := hA.row_other hgG (msgF hd0 bd0).toArray
  replace hb := below_setRow hb hbS (msgF hd0 bd0).toArray
  replace bv := below_setRow bv hvS (msgF hd0 bd0).toArray
  change Code.wp _ _ _ _ (w5.setRow gB6 (msgF hd0 bd0).toArray)
  generalize (w5.setRow gB6 (msgF hd0 bd0).toArray) = W6 at *
  clear B9 B6
  go_wp2_with fail
  go_step3
  refine hgo 0 _ _ _ rfl ?_
  go_wp2_with (guard_target =~ wpList _ _ _ (⟨none, _, _, _, _, _⟩ :: _) _ _; refine wpList_store_msg (op := ⟨none, .store _ _ _, _, _, _, _⟩) (by rfl) _ _ (by rfl) G (msgF hd0 bd0) (msgL hd0 zr) _ (by rfl) (by rfl) hA (msgF_length _ _) (msgL_length _ _ zr_length) (msgL_one _ _ (bdL_one _)) ?_)
  rw [Exit.noGoto_ret]
  exact bodyPost_ret (v := .tuple #[.agg (msgF hd0 bd0).toArray, .slice none 0 0, .int .i64 E]) (results_msg_3 (p := 2) (u := 3) (u' := 4) rfl _ _ G _ (msgF hd0 bd0) rfl (hA.row _) (msgF_length _ _)) rfl ⟨.slice none 0 0, by rw [hh, hEE], OwnT.nil _ _, by rw [hG]; exact below_setRow (hbW.trans (hb.mono (Nat.le_of_lt hGW))) (Nat.le_refl _) _⟩

set_option maxRecDepth 100000 in
set_option maxHeartbeats 4000000 in
theorem frameGet_3 (b : List UInt8) (w : World) (hl : b.length ≤ 140737488351232) (h1 : getE b = 0) (h2 : bodyE (getH b).ty b 34 = 0) (h3 : (frameL b).2 ≠ 0) :
    Calls Try.prog 14 #[sv b] w fun e w' => ∃ v', e = .returned (.tuple #[.agg (msgF hd0 bd0).toArray, v', .int .i64 ((frameL b).2)]) ∧ OwnT w' w.heap.size v' [] ∧ Below w.heap.size w w' := by
  unfold frameL at *
  obtain ⟨h34, hk⟩ := whole_known h1
  have hbW := bnew w (Obj.cells (msgL hd0 zr).toArray 28)
  have hA := Box.new w (msgL hd0 zr) 28
  go_enter Try.func14, Try.ntmps14
  go_wp2_with fail
  change Code.wp Try.prog _ _ _ (w.alloc (Obj.cells (msgL hd0 zr).toArray 28))
  generalize w.alloc (Obj.cells (msgL hd0 zr).toArray 28) = W at *
  generalize hG : w.heap.size = G at *
  have hGW : G < W.heap.size := hA.lt
  have hb := Below.refl W.heap.size W
  refine wp_scope_hop ?_
  intro Q' hret hgo
  go_upto_region 3 with (refine wpList_convert_str (o := ⟨some 12, _, _, _, _, _⟩) rfl _ rfl b rfl (by omega) ?_; intro v2 w2 hv2 b2)
  replace hA := hA.below b2
  replace hb := bnext hb b2
  have HV := hid fun (wx : World) (h : Below w2.heap.size w2 wx) => hv2.below h
  go_wp2_with fail
  refine (headGet_any v2 b w2 hv2 (by omega)).mono ?_
  rintro e w3 ⟨rfl, b3⟩
  replace hA := hA.below b3
  replace hb := bnext hb b3
  have bv := b3
  have hbS := hb.size
  have hvS := bv.size
  rw [h1, (get_some h1).1]
  have N := Box.new w3 (msgL hd0 zr) 28
  have nb := bnew w3 (Obj.cells (msgL hd0 zr).toArray 28)
  go_upto_region 4 with (guard_target =~ wpList _ _ _ (⟨none, _, _, _, _, _⟩ :: _) _ _; refine wpList_store_msg (op := ⟨none, .store _ _ _, _, _, _, _⟩) (by rfl) _ _ (by rfl) w3.heap.size (msgF (getH b) bd0) (msgL hd0 zr) _ (by rfl) (by rfl) N (msgF_length _ _) (msgL_length _ _ zr_length) (msgL_one _ _ (bdL_one _)) ?_)
  have B6 := N.row (msgF (getH b) bd0)
  replace nb := below_setRow nb (Nat.le_refl _) (msgF (getH b) bd0).toArray
  change Code.wp _ _ _ _ ((w3.alloc (Obj.cells (msgL hd0 zr).toArray 28)).setRow w3.heap.size (msgF (getH b) bd0).toArray)
  generalize ((w3.alloc (Obj.cells (msgL hd0 zr).toArray 28)).setRow w3.heap.size (msgF (getH b) bd0).toArray) = W4 at *
  generalize hgB6 : w3.heap.size = gB6 at *
  have nc : Below w3.heap.size w3 W4 := by rw [hgB6]; exact nb
  replace hb := bnext hb nc
  replace hA := hA.below nc
  replace bv := bnext bv nc
  clear N nb nc
  generalize hh : getH b = h at *
  generalize lenOf b = LN at *
  go_wp2_with (guard_target =~ wpList _ _ _ (⟨some 22, _, _, _, _, _⟩ :: _) _ _; refine wpList_load_msg (op := ⟨some 22, .load _ _, _, _, _, _⟩) (by rfl) _ (by rfl) gB6 (by rfl) (msgF h bd0) _ B6 (msgF_length _ _) ?_)
  have hcall := bodyGet_all v2 b h bd0 34 W4 (HV.out _ bv) (by omega) (by decide) hk
  unfold bodyR at hcall
  rw [if_pos h2] at hcall
  refine hcall.mono ?_
  rintro e w5 ⟨rfl, b5⟩
  clear hcall
  replace hA := hA.below b5
  replace hb := bnext hb b5
  replace bv := bnext bv b5
  replace B6 := B6.below b5
  generalize hDD : bodyD bd0 h.ty b 34 = D at *
  have hgG : G ≠ gB6 := by omega
  go_upto_region 6 with (guard_target =~ wpList _ _ _ (⟨none, _, _, _, _, _⟩ :: _) _ _; refine wpList_store_msg (op := ⟨none, .store _ _ _, _, _, _, _⟩) (by rfl) _ _ (by rfl) gB6 (msgF h D) (msgF h bd0) _ (by rfl) (by rfl) B6 (msgF_length _ _) (msgF_length _ _) (msgL_one _ _ (bdL_one _)) ?_)
  have B9 := B6.row (msgF h D)
  replace hA := hA.row_other hgG (msgF h D).toArray
  replace hb := below_setRow hb hbS (msgF h D).toArray
  replace bv := below_setRow bv hvS (msgF h D).toArray
  change Code.wp _ _ _ _ (w5.setRow gB6 (msgF h D).toArray)
  generalize (w5.setRow gB6 (msgF h D).toArray) = W6 at *
  clear B6
  have hb6 := hb.size
  go_wp2_with fail
  have hlen := lenI_in h.ty
  obtain ⟨hlen0, hlen1⟩ := hlen
  refine (getT_any v2 b ((34 : Int) + lenI h.ty) W6 (HV.out _ bv) (by omega) (by omega)).mono ?_
  rintro e w7 ⟨v7, rfl, o7, b7⟩
  replace hA := hA.below b7
  replace hb := bnext hb b7
  replace B9 := B9.below b7
  generalize hRR : getT b ((34 : Int) + lenI h.ty) = R at *
  obtain ⟨RL, RE⟩ := R
  have h3 : RE ≠ 0 := h3
  have hI : (RE == 0) = false := beq_false_of_ne h3
  clear h3 h2
  go_wp2_with fail
  go_step3
  refine hgo 0 _ _ _ rfl ?_
  go_wp2_with (guard_target =~ wpList _ _ _ (⟨none, _, _, _, _, _⟩ :: _) _ _; refine wpList_store_msg (op := ⟨none, .store _ _ _, _, _, _, _⟩) (by rfl) _ _ (by rfl) G (msgF hd0 bd0) (msgL hd0 zr) _ (by rfl) (by rfl) hA (msgF_length _ _) (msgL_length _ _ zr_length) (msgL_one _ _ (bdL_one _)) ?_)
  rw [Exit.noGoto_ret]
  exact bodyPost_ret (v := .tuple #[.agg (msgF hd0 bd0).toArray, .slice none 0 0, .int .i64 RE]) (results_msg_3 (p := 2) (u := 3) (u' := 4) rfl _ _ G _ (msgF hd0 bd0) rfl (hA.row _) (msgF_length _ _)) rfl ⟨.slice none 0 0, by rw [hh, hRR], OwnT.nil _ _, by rw [hG]; exact below_setRow (hbW.trans (hb.mono (Nat.le_of_lt hGW))) (Nat.le_refl _) _⟩

set_option maxRecDepth 100000 in
set_option maxHeartbeats 4000000 in
theorem frameGet_4 (b : List UInt8) (w : World) (hl : b.length ≤ 140737488351232) (h1 : getE b = 0) (h2 : bodyE (getH b).ty b 34 = 0) (h3 : (frameL b).2 = 0) :
    Calls Try.prog 14 #[sv b] w fun e w' => ∃ v', e = .returned (.tuple #[.agg (msgF (getH b) (bodyD bd0 (getH b).ty b 34)).toArray, v', .int .i64 (0)]) ∧ OwnT w' w.heap.size v' (frameL b).1 ∧ Below w.heap.size w w' := by
  unfold frameL at *
  obtain ⟨h34, hk⟩ := whole_known h1
  have hbW := bnew w (Obj.cells (msgL hd0 zr).toArray 28)
  have hA := Box.new w (msgL hd0 zr) 28
  go_enter Try.func14, Try.ntmps14
  go_wp2_with fail
  change Code.wp Try.prog _ _ _ (w.alloc (Obj.cells (msgL hd0 zr).toArray 28))
  generalize w.alloc (Obj.cells (msgL hd0 zr).toArray 28) = W at *
  generalize hG : w.heap.size = G at *
  have hGW : G < W.heap.size := hA.lt
  have hb := Below.refl W.heap.size W
  refine wp_scope_hop ?_
  intro Q' hret hgo
  go_upto_region 3 with (refine wpList_convert_str (o := ⟨some 12, _, _, _, _, _⟩) rfl _ rfl b rfl (by omega) ?_; intro v2 w2 hv2 b2)
  replace hA := hA.below b2
  replace hb := bnext hb b2
  have HV := hid fun (wx : World) (h : Below w2.heap.size w2 wx) => hv2.below h
  go_wp2_with fail
  refine (headGet_any v2 b w2 hv2 (by omega)).mono ?_
  rintro e w3 ⟨rfl, b3⟩
  replace hA := hA.below b3
  replace hb := bnext hb b3
  have bv := b3
  have hbS := hb.size
  have hvS := bv.size
  rw [h1, (get_some h1).1]
  have N := Box.new w3 (msgL hd0 zr) 28
  have nb := bnew w3 (Obj.cells (msgL hd0 zr).toArray 28)
  go_upto_region 4 with (guard_target =~ wpList _ _ _ (⟨none, _, _, _, _, _⟩ :: _) _ _; refine wpList_store_msg (op := ⟨none, .store _ _ _, _, _, _, _⟩) (by rfl) _ _ (by rfl) w3.heap.size (msgF (getH b) bd0) (msgL hd0 zr) _ (by rfl) (by rfl) N (msgF_length _ _) (msgL_length _ _ zr_length) (msgL_one _ _ (bdL_one _)) ?_)
  have B6 := N.row (msgF (getH b) bd0)
  replace nb := below_setRow nb (Nat.le_refl _) (msgF (getH b) bd0).toArray
  change Code.wp _ _ _ _ ((w3.alloc (Obj.cells (msgL hd0 zr).toArray 28)).setRow w3.heap.size (msgF (getH b) bd0).toArray)
  generalize ((w3.alloc (Obj.cells (msgL hd0 zr).toArray 28)).setRow w3.heap.size (msgF (getH b) bd0).toArray) = W4 at *
  generalize hgB6 : w3.heap.size = gB6 at *
  have nc : Below w3.heap.size w3 W4 := by rw [hgB6]; exact nb
  replace hb := bnext hb nc
  replace hA := hA.below nc
  replace bv := bnext bv nc
  clear N nb nc
  generalize hh : getH b = h at *
  generalize lenOf b = LN at *
  go_wp2_with (guard_target =~ wpList _ _ _ (⟨some 22, _, _, _, _, _⟩ :: _) _ _; refine wpList_load_msg (op := ⟨some 22, .load _ _, _, _, _, _⟩) (by rfl) _ (by rfl) gB6 (by rfl) (msgF h bd0) _ B6 (msgF_length _ _) ?_)
  have hcall := bodyGet_all v2 b h bd0 34 W4 (HV.out _ bv) (by omega) (by decide) hk
  unfold bodyR at hcall
  rw [if_pos h2] at hcall
  refine hcall.mono ?_
  rintro e w5 ⟨rfl, b5⟩
  clear hcall
  replace hA := hA.below b5
  replace hb := bnext hb b5
  replace bv := bnext bv b5
  replace B6 := B6.below b5
  generalize hDD : bodyD bd0 h.ty b 34 = D at *
  have hgG : G ≠ gB6 := by omega
  go_upto_region 6 with (guard_target =~ wpList _ _ _ (⟨none, _, _, _, _, _⟩ :: _) _ _; refine wpList_store_msg (op := ⟨none, .store _ _ _, _, _, _, _⟩) (by rfl) _ _ (by rfl) gB6 (msgF h D) (msgF h bd0) _ (by rfl) (by rfl) B6 (msgF_length _ _) (msgF_length _ _) (msgL_one _ _ (bdL_one _)) ?_)
  have B9 := B6.row (msgF h D)
  replace hA := hA.row_other hgG (msgF h D).toArray
  replace hb := below_setRow hb hbS (msgF h D).toArray
  replace bv := below_setRow bv hvS (msgF h D).toArray
  change Code.wp _ _ _ _ (w5.setRow gB6 (msgF h D).toArray)
  generalize (w5.setRow gB6 (msgF h D).toArray) = W6 at *
  clear B6
  have hb6 := hb.size
  go_wp2_with fail
  have hlen := lenI_in h.ty
  obtain ⟨hlen0, hlen1⟩ := hlen
  refine (getT_any v2 b ((34 : Int) + lenI h.ty) W6 (HV.out _ bv) (by omega) (by omega)).mono ?_
  rintro e w7 ⟨v7, rfl, o7, b7⟩
  replace hA := hA.below b7
  replace hb := bnext hb b7
  replace B9 := B9.below b7
  generalize hRR : getT b ((34 : Int) + lenI h.ty) = R at *
  obtain ⟨RL, RE⟩ := R
  obtain rfl : RE = 0 := h3
  clear h2
  have hGb : G < W6.heap.size := Nat.lt_of_lt_of_le hGW hb6
  go_wp2_with (first | (guard_target =~ wpList _ _ _ (⟨some 39, _, _, _, _, _⟩ :: _) _ _; refine wpList_load_msg (op := ⟨some 39, .load _ _, _, _, _, _⟩) (by rfl) _ (by rfl) gB6 (by rfl) (msgF h D) _ B9 (msgF_length _ _) ?_) | (guard_target =~ wpList _ _ _ (⟨none, _, _, _, _, _⟩ :: _) _ _; refine wpList_store_msg (op := ⟨none, .store _ _ _, _, _, _, _⟩) (by rfl) _ _ (by rfl) G (msgF h D) (msgL hd0 zr) _ (by rfl) (by rfl) hA (msgF_length _ _) (msgL_length _ _ zr_length) (msgL_one _ _ (bdL_one _)) ?_))
  refine hret _ _ ?_
  exact bodyPost_ret (v := .tuple #[.agg (msgF h D).toArray, v7, .int .i64 0]) (results_msg_3 (p := 2) (u := 3) (u' := 4) rfl _ _ G _ (msgF h D) rfl (hA.row _) (msgF_length _ _)) rfl ⟨v7, by rw [hh, hDD], by rw [hh, hRR, hG]; exact (o7.keepRow hGb _).mono (Nat.le_of_lt hGb), by rw [hG]; exact below_setRow (hbW.trans (hb.mono (Nat.le_of_lt hGW))) (Nat.le_refl _) _⟩

theorem frameGet_any (b : List UInt8) (w : World) (hl : b.length ≤ 140737488351232) :
    Calls Try.prog 14 #[sv b] w fun e w' => ∃ v', e = .returned (.tuple #[.agg (msgF (frameH b) (frameD b)).toArray, v', .int .i64 (frameE b)]) ∧ OwnT w' w.heap.size v' (frameT b) ∧ Below w.heap.size w w' := by
  by_cases h1 : getE b = 0
  · by_cases h2 : bodyE (getH b).ty b 34 = 0
    · have hE := frameE_tlvs h1 h2
      by_cases h3 : (frameL b).2 = 0
      · rw [h3] at hE
        obtain ⟨e1, e2, e3⟩ := frame_yes hE
        rw [e1, e2, e3, hE]
        exact frameGet_4 b w hl h1 h2 h3
      · obtain ⟨e1, e2, e3⟩ := frame_no (b := b) (by rw [hE]; exact h3)
        rw [e1, e2, e3, hE]
        exact frameGet_3 b w hl h1 h2 h3
    · have hE := frameE_body h1 h2
      obtain ⟨e1, e2, e3⟩ := frame_no (b := b) (by rw [hE]; exact h2)
      rw [e1, e2, e3, hE]
      exact frameGet_2 b w hl h1 h2
  · have hE := frameE_short h1
    obtain ⟨e1, e2, e3⟩ := frame_no (b := b) (by rw [hE]; exact h1)
    rw [e1, e2, e3, hE]
    exact frameGet_1 b w hl h1

set_option maxRecDepth 100000 in
set_option maxHeartbeats 4000000 in
theorem frameHere_1 (b : List UInt8) (dm : Int) (w : World) (hl : b.length ≤ 140737488351232) (h : frameE b ≠ 0) :
    Calls Try.prog 16 #[sv b, .int .i64 dm] w fun e w' => ∃ v', e = .returned (.tuple #[.agg (msgF hd0 bd0).toArray, v', .int .i64 (frameE b)]) ∧ OwnT w' w.heap.size v' [] ∧ Below w.heap.size w w' := by
  have hbW := bnew w (Obj.cells (msgL hd0 zr).toArray 28)
  have hA := Box.new w (msgL hd0 zr) 28
  go_enter Try.func16, Try.ntmps16
  go_wp2_with fail
  change Code.wp Try.prog _ _ _ (w.alloc (Obj.cells (msgL hd0 zr).toArray 28))
  generalize w.alloc (Obj.cells (msgL hd0 zr).toArray 28) = W at *
  generalize hG : w.heap.size = G at *
  have hGW : G < W.heap.size := hA.lt
  have hb := Below.refl W.heap.size W
  refine wp_scope_hop ?_
  intro Q' hret hgo
  have hcall := frameGet_any b W hl
  generalize hHH : frameH b = H at *
  generalize hDD : frameD b = D at *
  generalize hTT : frameT b = T at *
  generalize hEE : frameE b = E at *
  go_wp2_with fail
  refine hcall.mono ?_
  rintro e w3 ⟨v3, rfl, o3, b3⟩
  clear hcall
  replace hA := hA.below b3
  replace hb := bnext hb b3
  have bv := b3
  have hbS := hb.size
  have hvS := bv.size
  have N := Box.new w3 (msgL hd0 zr) 28
  have nb := bnew w3 (Obj.cells (msgL hd0 zr).toArray 28)
  go_upto_region 2 with (guard_target =~ wpList _ _ _ (⟨none, _, _, _, _, _⟩ :: _) _ _; refine wpList_store_msg (op := ⟨none, .store _ _ _, _, _, _, _⟩) (by rfl) _ _ (by rfl) w3.heap.size (msgF H D) (msgL hd0 zr) _ (by rfl) (by rfl) N (msgF_length _ _) (msgL_length _ _ zr_length) (msgL_one _ _ (bdL_one _)) ?_)
  have B7 := N.row (msgF H D)
  replace nb := below_setRow nb (Nat.le_refl _) (msgF H D).toArray
  change Code.wp _ _ _ _ ((w3.alloc (Obj.cells (msgL hd0 zr).toArray 28)).setRow w3.heap.size (msgF H D).toArray)
  generalize ((w3.alloc (Obj.cells (msgL hd0 zr).toArray 28)).setRow w3.heap.size (msgF H D).toArray) = W4 at *
  generalize hgB7 : w3.heap.size = gB7 at *
  have nc : Below w3.heap.size w3 W4 := by rw [hgB7]; exact nb
  replace hb := bnext hb nc
  replace hA := hA.below nc
  replace bv := bnext bv nc
  replace o3 := o3.below nc
  clear N nb nc
  clear B7
  have hI : (E == 0) = false := beq_false_of_ne h
  go_wp2_with fail
  go_step3
  refine hgo 0 _ _ _ rfl ?_
  go_wp2_with (guard_target =~ wpList _ _ _ (⟨none, _, _, _, _, _⟩ :: _) _ _; refine wpList_store_msg (op := ⟨none, .store _ _ _, _, _, _, _⟩) (by rfl) _ _ (by rfl) G (msgF hd0 bd0) (msgL hd0 zr) _ (by rfl) (by rfl) hA (msgF_length _ _) (msgL_length _ _ zr_length) (msgL_one _ _ (bdL_one _)) ?_)
  rw [Exit.noGoto_ret]
  exact bodyPost_ret (v := .tuple #[.agg (msgF hd0 bd0).toArray, .slice none 0 0, .int .i64 E]) (results_msg_3 (p := 4) (u := 5) (u' := 6) rfl _ _ G _ (msgF hd0 bd0) rfl (hA.row _) (msgF_length _ _)) rfl ⟨.slice none 0 0, by rw [hEE], OwnT.nil _ _, by rw [hG]; exact below_setRow (hbW.trans (hb.mono (Nat.le_of_lt hGW))) (Nat.le_refl _) _⟩

set_option maxRecDepth 100000 in
set_option maxHeartbeats 4000000 in
theorem frameHere_2 (b : List UInt8) (dm : Int) (w : World) (hl : b.length ≤ 140737488351232) (h : frameE b = 0) (h2 : (frameH b).dm = dm) :
    Calls Try.prog 16 #[sv b, .int .i64 dm] w fun e w' => ∃ v', e = .returned (.tuple #[.agg (msgF (frameH b) (frameD b)).toArray, v', .int .i64 (0)]) ∧ OwnT w' w.heap.size v' (frameT b) ∧ Below w.heap.size w w' := by
  have hbW := bnew w (Obj.cells (msgL hd0 zr).toArray 28)
  have hA := Box.new w (msgL hd0 zr) 28
  go_enter Try.func16, Try.ntmps16
  go_wp2_with fail
  change Code.wp Try.prog _ _ _ (w.alloc (Obj.cells (msgL hd0 zr).toArray 28))
  generalize w.alloc (Obj.cells (msgL hd0 zr).toArray 28) = W at *
  generalize hG : w.heap.size = G at *
  have hGW : G < W.heap.size := hA.lt
  have hb := Below.refl W.heap.size W
  refine wp_scope_hop ?_
  intro Q' hret hgo
  have hcall := frameGet_any b W hl
  generalize hHH : frameH b = H at *
  generalize hDD : frameD b = D at *
  generalize hTT : frameT b = T at *
  generalize hEE : frameE b = E at *
  go_wp2_with fail
  refine hcall.mono ?_
  rintro e w3 ⟨v3, rfl, o3, b3⟩
  clear hcall
  replace hA := hA.below b3
  replace hb := bnext hb b3
  have bv := b3
  have hbS := hb.size
  have hvS := bv.size
  have N := Box.new w3 (msgL hd0 zr) 28
  have nb := bnew w3 (Obj.cells (msgL hd0 zr).toArray 28)
  go_upto_region 2 with (guard_target =~ wpList _ _ _ (⟨none, _, _, _, _, _⟩ :: _) _ _; refine wpList_store_msg (op := ⟨none, .store _ _ _, _, _, _, _⟩) (by rfl) _ _ (by rfl) w3.heap.size (msgF H D) (msgL hd0 zr) _ (by rfl) (by rfl) N (msgF_length _ _) (msgL_length _ _ zr_length) (msgL_one _ _ (bdL_one _)) ?_)
  have B7 := N.row (msgF H D)
  replace nb := below_setRow nb (Nat.le_refl _) (msgF H D).toArray
  change Code.wp _ _ _ _ ((w3.alloc (Obj.cells (msgL hd0 zr).toArray 28)).setRow w3.heap.size (msgF H D).toArray)
  generalize ((w3.alloc (Obj.cells (msgL hd0 zr).toArray 28)).setRow w3.heap.size (msgF H D).toArray) = W4 at *
  generalize hgB7 : w3.heap.size = gB7 at *
  have nc : Below w3.heap.size w3 W4 := by rw [hgB7]; exact nb
  replace hb := bnext hb nc
  replace hA := hA.below nc
  replace bv := bnext bv nc
  replace o3 := o3.below nc
  clear N nb nc
  have c1 := B7.cell 1 _ rfl
  subst h
  subst h2
  have hI : (H.dm == H.dm) = true := beq_self_eq_true _
  have hGb : G < W.heap.size := hGW
  go_wp2_with (first | (guard_target =~ wpList _ _ _ (⟨some 22, _, _, _, _, _⟩ :: _) _ _; refine wpList_load_msg (op := ⟨some 22, .load _ _, _, _, _, _⟩) (by rfl) _ (by rfl) gB7 (by rfl) (msgF H D) _ B7 (msgF_length _ _) ?_) | (guard_target =~ wpList _ _ _ (⟨none, _, _, _, _, _⟩ :: _) _ _; refine wpList_store_msg (op := ⟨none, .store _ _ _, _, _, _, _⟩) (by rfl) _ _ (by rfl) G (msgF H D) (msgL hd0 zr) _ (by rfl) (by rfl) hA (msgF_length _ _) (msgL_length _ _ zr_length) (msgL_one _ _ (bdL_one _)) ?_))
  refine hret _ _ ?_
  exact bodyPost_ret (v := .tuple #[.agg (msgF H D).toArray, v3, .int .i64 0]) (results_msg_3 (p := 4) (u := 5) (u' := 6) rfl _ _ G _ (msgF H D) rfl (hA.row _) (msgF_length _ _)) rfl ⟨v3, by rw [hHH, hDD], by rw [hTT, hG]; exact (o3.keepRow hGb _).mono (Nat.le_of_lt hGb), by rw [hG]; exact below_setRow (hbW.trans (hb.mono (Nat.le_of_lt hGW))) (Nat.le_refl _) _⟩

set_option maxRecDepth 100000 in
set_option maxHeartbeats 4000000 in
theorem frameHere_3 (b : List UInt8) (dm : Int) (w : World) (hl : b.length ≤ 140737488351232) (h : frameE b = 0) (h2 : (frameH b).dm ≠ dm) :
    Calls Try.prog 16 #[sv b, .int .i64 dm] w fun e w' => ∃ v', e = .returned (.tuple #[.agg (msgF hd0 bd0).toArray, v', .int .i64 (6)]) ∧ OwnT w' w.heap.size v' [] ∧ Below w.heap.size w w' := by
  have hbW := bnew w (Obj.cells (msgL hd0 zr).toArray 28)
  have hA := Box.new w (msgL hd0 zr) 28
  go_enter Try.func16, Try.ntmps16
  go_wp2_with fail
  change Code.wp Try.prog _ _ _ (w.alloc (Obj.cells (msgL hd0 zr).toArray 28))
  generalize w.alloc (Obj.cells (msgL hd0 zr).toArray 28) = W at *
  generalize hG : w.heap.size = G at *
  have hGW : G < W.heap.size := hA.lt
  have hb := Below.refl W.heap.size W
  refine wp_scope_hop ?_
  intro Q' hret hgo
  have hcall := frameGet_any b W hl
  generalize hHH : frameH b = H at *
  generalize hDD : frameD b = D at *
  generalize hTT : frameT b = T at *
  generalize hEE : frameE b = E at *
  go_wp2_with fail
  refine hcall.mono ?_
  rintro e w3 ⟨v3, rfl, o3, b3⟩
  clear hcall
  replace hA := hA.below b3
  replace hb := bnext hb b3
  have bv := b3
  have hbS := hb.size
  have hvS := bv.size
  have N := Box.new w3 (msgL hd0 zr) 28
  have nb := bnew w3 (Obj.cells (msgL hd0 zr).toArray 28)
  go_upto_region 2 with (guard_target =~ wpList _ _ _ (⟨none, _, _, _, _, _⟩ :: _) _ _; refine wpList_store_msg (op := ⟨none, .store _ _ _, _, _, _, _⟩) (by rfl) _ _ (by rfl) w3.heap.size (msgF H D) (msgL hd0 zr) _ (by rfl) (by rfl) N (msgF_length _ _) (msgL_length _ _ zr_length) (msgL_one _ _ (bdL_one _)) ?_)
  have B7 := N.row (msgF H D)
  replace nb := below_setRow nb (Nat.le_refl _) (msgF H D).toArray
  change Code.wp _ _ _ _ ((w3.alloc (Obj.cells (msgL hd0 zr).toArray 28)).setRow w3.heap.size (msgF H D).toArray)
  generalize ((w3.alloc (Obj.cells (msgL hd0 zr).toArray 28)).setRow w3.heap.size (msgF H D).toArray) = W4 at *
  generalize hgB7 : w3.heap.size = gB7 at *
  have nc : Below w3.heap.size w3 W4 := by rw [hgB7]; exact nb
  replace hb := bnext hb nc
  replace hA := hA.below nc
  replace bv := bnext bv nc
  replace o3 := o3.below nc
  clear N nb nc
  have c1 := B7.cell 1 _ rfl
  subst h
  have hI : (H.dm == dm) = false := beq_false_of_ne h2
  go_wp2_with fail
  go_step3
  refine hgo 0 _ _ _ rfl ?_
  go_wp2_with (guard_target =~ wpList _ _ _ (⟨none, _, _, _, _, _⟩ :: _) _ _; refine wpList_store_msg (op := ⟨none, .store _ _ _, _, _, _, _⟩) (by rfl) _ _ (by rfl) G (msgF hd0 bd0) (msgL hd0 zr) _ (by rfl) (by rfl) hA (msgF_length _ _) (msgL_length _ _ zr_length) (msgL_one _ _ (bdL_one _)) ?_)
  rw [Exit.noGoto_ret]
  exact bodyPost_ret (v := .tuple #[.agg (msgF hd0 bd0).toArray, .slice none 0 0, .int .i64 6]) (results_msg_3 (p := 4) (u := 5) (u' := 6) rfl _ _ G _ (msgF hd0 bd0) rfl (hA.row _) (msgF_length _ _)) rfl ⟨.slice none 0 0, rfl, OwnT.nil _ _, by rw [hG]; exact below_setRow (hbW.trans (hb.mono (Nat.le_of_lt hGW))) (Nat.le_refl _) _⟩

theorem frameHere_any (b : List UInt8) (dm : Int) (w : World) (hl : b.length ≤ 140737488351232) :
    Calls Try.prog 16 #[sv b, .int .i64 dm] w fun e w' => ∃ v', e = .returned (.tuple #[.agg (msgF (hereH b dm) (hereD b dm)).toArray, v', .int .i64 (hereE b dm)]) ∧ OwnT w' w.heap.size v' (hereT b dm) ∧ Below w.heap.size w w' := by
  by_cases h : frameE b = 0 ∧ (frameH b).dm ≠ dm
  · obtain ⟨e1, e2, e3, e4⟩ := here_other h
    rw [e1, e2, e3, e4]
    exact frameHere_3 b dm w hl h.1 h.2
  · obtain ⟨e1, e2, e3, e4⟩ := here_same h
    rw [e1, e2, e3, e4]
    by_cases h1 : frameE b = 0
    · have h2 : (frameH b).dm = dm := by
        by_cases h2 : (frameH b).dm = dm
        · exact h2
        · exact absurd ⟨h1, h2⟩ h
      have hx := frameHere_2 b dm w hl h1 h2
      rw [h1]
      exact hx
    · obtain ⟨f1, f2, f3⟩ := frame_no h1
      rw [f1, f2, f3]
      exact frameHere_1 b dm w hl h1
end Go.Proofs.Ytohgpnlihfcecaa
