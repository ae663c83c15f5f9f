/- The document's own Get and Here of chapter 9 (gen_frameref.py). -/
import Derived.Test.YtohgpnlihfcecaaBodyRefGet
import Derived.Test.YtohgpnlihfcecaaHeadRef2
import Derived.Test.YtohgpnlihfcecaaB6
import Derived.Test.YtohgpnlihfcecaaB1
namespace Go.Proofs.Ytohgpnlihfcecaa
open Go.RowKit Go.Proofs
set_option maxRecDepth 50000
set_option linter.unusedVariables false
set_option linter.unusedSimpArgs false

/-- What TLVs stand behind a message's body. -/
def frameL (b : List UInt8) : List T2 × Int := getT b ((34 : Int) + lenI (getH b).ty)

/-- The first error. -/
def frameE (b : List UInt8) : Int := if getE b = 0 then (if bodyE (getH b).ty b 34 = 0 then (frameL b).2 else bodyE (getH b).ty b 34) else getE b

/-- The message that bytes are. -/
def frameH (b : List UInt8) : Hd := if frameE b = 0 then getH b else hd0
def frameD (b : List UInt8) : Bd := if frameE b = 0 then bodyD bd0 (getH b).ty b 34 else bd0

/-- .. the TLVs behind it. -/
def frameT (b : List UInt8) : List T2 := if frameE b = 0 then (frameL b).1 else []

theorem frame_no {b : List UInt8} (h : frameE b ≠ 0) : frameH b = hd0 ∧ frameD b = bd0 ∧ frameT b = [] := ⟨if_neg h, if_neg h, if_neg h⟩
theorem frame_yes {b : List UInt8} (h : frameE b = 0) : frameH b = getH b ∧ frameD b = bodyD bd0 (getH b).ty b 34 ∧ frameT b = (frameL b).1 := ⟨if_pos h, if_pos h, if_pos h⟩

theorem whole_known {b : List UInt8} (h : getE b = 0) : 34 ≤ b.length ∧ knownB (getH b).ty = true := by
  have hh := (get_some h).2
  unfold getE at h
  split at h
  · cases h
  · split at h
    · cases h
    · rename_i h1 h2
      refine ⟨by omega, ?_⟩
      rw [hh]
      have h3 : badB b = false := by simpa using h2
      unfold badB at h3
      simp only [Bool.or_eq_false_iff, Bool.not_eq_false'] at h3
      first | exact h3.1.1 | exact h3.1 | exact h3.1.1.1

theorem frameE_short {b : List UInt8} (h : getE b ≠ 0) : frameE b = getE b := if_neg h
theorem frameE_body {b : List UInt8} (h : getE b = 0) (h2 : bodyE (getH b).ty b 34 ≠ 0) : frameE b = bodyE (getH b).ty b 34 := by unfold frameE; rw [if_pos h, if_neg h2]
theorem frameE_tlvs {b : List UInt8} (h : getE b = 0) (h2 : bodyE (getH b).ty b 34 = 0) : frameE b = (frameL b).2 := by unfold frameE; rw [if_pos h, if_pos h2]

theorem OwnT.mono {w : World} {base base' : Nat} {v : Value} {l : List T2} (h : OwnT w base v l) (hb : base' ≤ base) : OwnT w base' v l := by
  obtain ⟨h1, h2⟩ := h
  refine ⟨h1, ?_⟩
  rcases h2 with h2 | ⟨g, cap, cur, hv, hg, r⟩
  · exact .inl h2
  · exact .inr ⟨g, cap, cur, hv, Nat.le_trans hb hg, r⟩

theorem OwnT.keepRow {w : World} {base G : Nat} {v : Value} {l : List T2} (h : OwnT w base v l) (hG : G < base) (cs : Array Value) : OwnT (w.setRow G cs) base v l := by
  obtain ⟨h1, h2⟩ := h
  refine ⟨h1, ?_⟩
  rcases h2 with h2 | ⟨g, cap, cur, hv, hg, hh, r⟩
  · exact .inl h2
  · exact .inr ⟨g, cap, cur, hv, hg, by rw [setRow_other w G g cs (by omega)]; exact hh, r⟩

set_option maxRecDepth 100000 in
set_option maxHeartbeats 4000000 in
theorem refFrameGet_1 (b : List UInt8) (w : World) (hl : b.length ≤ 140737488351232) (h1 : getE b ≠ 0) :
    Calls Try.prog 15 #[sv b] w fun e w' => ∃ v', e = .returned (.tuple #[.agg (msgF hd0 bd0).toArray, v', .int .i64 (getE b)]) ∧ OwnT w' w.heap.size v' [] ∧ Below w.heap.size w w' := by
  have hbW := bnew w (Obj.cells (msgL hd0 zr).toArray 28)
  have hA := Box.new w (msgL hd0 zr) 28
  have hI : (getE b == 0) = false := beq_false_of_ne h1
  go_enter Try.func15, Try.ntmps15
  go_upto_region 1 with fail
  change Code.wp Try.prog _ _ _ (w.alloc (Obj.cells (msgL hd0 zr).toArray 28))
  generalize w.alloc (Obj.cells (msgL hd0 zr).toArray 28) = W at *
  generalize hG : w.heap.size = G at *
  have hGW : G < W.heap.size := hA.lt
  have hb := Below.refl W.heap.size W
  go_upto_region 2 with (refine wpList_convert_str (o := ⟨some 13, _, _, _, _, _⟩) rfl _ rfl b rfl (by omega) ?_; intro v2 w2 hv2 b2)
  replace hA := hA.below b2
  replace hb := bnext hb b2
  have HV := hid fun (wx : World) (h : Below w2.heap.size w2 wx) => hv2.below h
  go_wp2_with fail
  refine (refHeadGet_any v2 b w2 hv2 (by omega)).mono ?_
  rintro e w3 ⟨rfl, b3⟩
  replace hA := hA.below b3
  replace hb := bnext hb b3
  have bv := b3
  rw [(get_none h1).1, (get_none h1).2]
  clear h1
  have N := Box.new w3 (msgL hd0 zr) 28
  have nb := bnew w3 (Obj.cells (msgL hd0 zr).toArray 28)
  go_upto_region 3 with (guard_target =~ wpList _ _ _ (⟨none, _, _, _, _, _⟩ :: _) _ _; refine wpList_store_msg (op := ⟨none, .store _ _ _, _, _, _, _⟩) (by rfl) _ _ (by rfl) w3.heap.size (msgF hd0 bd0) (msgL hd0 zr) _ (by rfl) (by rfl) N (msgF_length _ _) (msgL_length _ _ zr_length) (msgL_one _ _ (bdL_one _)) ?_)
  have B6 := N.row (msgF hd0 bd0)
  replace nb := below_setRow nb (Nat.le_refl _) (msgF hd0 bd0).toArray
  change Code.wp _ _ _ _ ((w3.alloc (Obj.cells (msgL hd0 zr).toArray 28)).setRow w3.heap.size (msgF hd0 bd0).toArray)
  generalize ((w3.alloc (Obj.cells (msgL hd0 zr).toArray 28)).setRow w3.heap.size (msgF hd0 bd0).toArray) = W4 at *
  generalize hgB6 : w3.heap.size = gB6 at *
  have nc : Below w3.heap.size w3 W4 := by rw [hgB6]; exact nb
  replace hb := bnext hb nc
  replace hA := hA.below nc
  clear B6
  clear N nb nc
  go_wp2_with (guard_target =~ wpList _ _ _ (⟨none, _, _, _, _, _⟩ :: _) _ _; refine wpList_store_msg (op := ⟨none, .store _ _ _, _, _, _, _⟩) (by rfl) _ _ (by rfl) G (msgF hd0 bd0) (msgL hd0 zr) _ (by rfl) (by rfl) hA (msgF_length _ _) (msgL_length _ _ zr_length) (msgL_one _ _ (bdL_one _)) ?_)
  exact bodyPost_ret (v := .tuple #[.agg (msgF hd0 bd0).toArray, .slice none 0 0, .int .i64 (getE b)]) (results_msg_3 (p := 2) (u := 3) (u' := 4) rfl _ _ G _ (msgF hd0 bd0) rfl (hA.row _) (msgF_length _ _)) rfl ⟨.slice none 0 0, rfl, OwnT.nil _ _, by rw [hG]; exact below_setRow (hbW.trans (hb.mono (Nat.le_of_lt hGW))) (Nat.le_refl _) _⟩

set_option maxRecDepth 100000 in
set_option maxHeartbeats 4000000 in
theorem refFrameGet_2 (b : List UInt8) (w : World) (hl : b.length ≤ 140737488351232) (h1 : getE b = 0) (h2 : bodyE (getH b).ty b 34 ≠ 0) :
    Calls Try.prog 15 #[sv b] w fun e w' => ∃ v', e = .returned (.tuple #[.agg (msgF hd0 bd0).toArray, v', .int .i64 (bodyE (getH b).ty b 34)]) ∧ OwnT w' w.heap.size v' [] ∧ Below w.heap.size w w' := by
  have hbW := bnew w (Obj.cells (msgL hd0 zr).toArray 28)
  have hA := Box.new w (msgL hd0 zr) 28
  have hI : (bodyE (getH b).ty b 34 == 0) = false := beq_false_of_ne h2
  obtain ⟨h34, hk⟩ := whole_known h1
  go_enter Try.func15, Try.ntmps15
  go_upto_region 1 with fail
  change Code.wp Try.prog _ _ _ (w.alloc (Obj.cells (msgL hd0 zr).toArray 28))
  generalize w.alloc (Obj.cells (msgL hd0 zr).toArray 28) = W at *
  generalize hG : w.heap.size = G at *
  have hGW : G < W.heap.size := hA.lt
  have hb := Below.refl W.heap.size W
  go_upto_region 2 with (refine wpList_convert_str (o := ⟨some 13, _, _, _, _, _⟩) rfl _ rfl b rfl (by omega) ?_; intro v2 w2 hv2 b2)
  replace hA := hA.below b2
  replace hb := bnext hb b2
  have HV := hid fun (wx : World) (h : Below w2.heap.size w2 wx) => hv2.below h
  go_wp2_with fail
  refine (refHeadGet_any v2 b w2 hv2 (by omega)).mono ?_
  rintro e w3 ⟨rfl, b3⟩
  replace hA := hA.below b3
  replace hb := bnext hb b3
  have bv := b3
  rw [h1, (get_some h1).1]
  have N := Box.new w3 (msgL hd0 zr) 28
  have nb := bnew w3 (Obj.cells (msgL hd0 zr).toArray 28)
  go_upto_region 3 with (guard_target =~ wpList _ _ _ (⟨none, _, _, _, _, _⟩ :: _) _ _; refine wpList_store_msg (op := ⟨none, .store _ _ _, _, _, _, _⟩) (by rfl) _ _ (by rfl) w3.heap.size (msgF (getH b) bd0) (msgL hd0 zr) _ (by rfl) (by rfl) N (msgF_length _ _) (msgL_length _ _ zr_length) (msgL_one _ _ (bdL_one _)) ?_)
  have B6 := N.row (msgF (getH b) bd0)
  replace nb := below_setRow nb (Nat.le_refl _) (msgF (getH b) bd0).toArray
  change Code.wp _ _ _ _ ((w3.alloc (Obj.cells (msgL hd0 zr).toArray 28)).setRow w3.heap.size (msgF (getH b) bd0).toArray)
  generalize ((w3.alloc (Obj.cells (msgL hd0 zr).toArray 28)).setRow w3.heap.size (msgF (getH b) bd0).toArray) = W4 at *
  generalize hgB6 : w3.heap.size = gB6 at *
  have nc : Below w3.heap.size w3 W4 := by rw [hgB6]; exact nb
  replace hb := bnext hb nc
  replace hA := hA.below nc
  replace bv := bnext bv nc
  clear N nb nc
  generalize hh : getH b = h at *
  generalize lenOf b = LN at *
  go_wp2_with (guard_target =~ wpList _ _ _ (⟨some 25, _, _, _, _, _⟩ :: _) _ _; refine wpList_load_msg (op := ⟨some 25, .load _ _, _, _, _, _⟩) (by rfl) _ (by rfl) gB6 (by rfl) (msgF h bd0) _ B6 (msgF_length _ _) ?_)
  have hcall := refBodyGet_all v2 b h bd0 W4 (HV.out _ bv) hl h34 hk
  unfold bodyR at hcall
  rw [if_neg h2] at hcall
  refine hcall.mono ?_
  rintro e w5 ⟨rfl, b5⟩
  clear hcall
  replace hA := hA.below b5
  replace hb := bnext hb b5
  replace bv := bnext bv b5
  generalize hEE : bodyE h.ty b 34 = E at *
  clear h2
  have N := Box.new w5 (msgL hd0 zr) 28
  have nb := bnew w5 (Obj.cells (msgL hd0 zr).toArray 28)
  go_upto_region 6 with (guard_target =~ wpList _ _ _ (⟨none, _, _, _, _, _⟩ :: _) _ _; refine wpList_store_msg (op := ⟨none, .store _ _ _, _, _, _, _⟩) (by rfl) _ _ (by rfl) w5.heap.size (msgF hd0 bd0) (msgL hd0 zr) _ (by rfl) (by rfl) N (msgF_length _ _) (msgL_length _ _ zr_length) (msgL_one _ _ (bdL_one _)) ?_)
  have B9 := N.row (msgF hd0 bd0)
  replace nb := below_setRow nb (Nat.le_refl _) (msgF hd0 bd0).toArray
  change Code.wp _ _ _ _ ((w5.alloc (Obj.cells (msgL hd0 zr).toArray 28)).setRow w5.heap.size (msgF hd0 bd0).toArray)
  generalize ((w5.alloc (Obj.cells (msgL hd0 zr).toArray 28)).setRow w5.heap.size (msgF hd0 bd0).toArray) = W6 at *
  generalize hgB9 : w5.heap.size = gB9 at *
  have nc : Below w5.heap.size w5 W6 := by rw [hgB9]; exact nb
  replace hb := bnext hb nc
  replace hA := hA.below nc
  clear N nb nc
  go_wp2_with (guard_target =~ wpList _ _ _ (⟨none, _, _, _, _, _⟩ :: _) _ _; refine wpList_store_msg (op := ⟨none, .store _ _ _, _, _, _, _⟩) (by rfl) _ _ (by rfl) G (msgF hd0 bd0) (msgL hd0 zr) _ (by rfl) (by rfl) hA (msgF_length _ _) (msgL_length _ _ zr_length) (msgL_one _ _ (bdL_one _)) ?_)
  exact bodyPost_ret (v := .tuple #[.agg (msgF hd0 bd0).toArray, .slice none 0 0, .int .i64 E]) (results_msg_3 (p := 2) (u := 3) (u' := 4) rfl _ _ G _ (msgF hd0 bd0) rfl (hA.row _) (msgF_length _ _)) rfl ⟨.slice none 0 0, by rw [hh, hEE], OwnT.nil _ _, by rw [hG]; exact below_setRow (hbW.trans (hb.mono (Nat.le_of_lt hGW))) (Nat.le_refl _) _⟩

set_option maxRecDepth 100000 in
set_option maxHeartbeats 4000000 in
theorem refFrameGet_3 (b : List UInt8) (w : World) (hl : b.length ≤ 140737488351232) (h1 : getE b = 0) (h2 : bodyE (getH b).ty b 34 = 0) (h3 : (frameL b).2 ≠ 0) :
    Calls Try.prog 15 #[sv b] w fun e w' => ∃ v', e = .returned (.tuple #[.agg (msgF hd0 bd0).toArray, v', .int .i64 ((frameL b).2)]) ∧ OwnT w' w.heap.size v' [] ∧ Below w.heap.size w w' := by
  have hbW := bnew w (Obj.cells (msgL hd0 zr).toArray 28)
  have hA := Box.new w (msgL hd0 zr) 28
  unfold frameL at *
  obtain ⟨h34, hk⟩ := whole_known h1
  go_enter Try.func15, Try.ntmps15
  go_upto_region 1 with fail
  change Code.wp Try.prog _ _ _ (w.alloc (Obj.cells (msgL hd0 zr).toArray 28))
  generalize w.alloc (Obj.cells (msgL hd0 zr).toArray 28) = W at *
  generalize hG : w.heap.size = G at *
  have hGW : G < W.heap.size := hA.lt
  have hb := Below.refl W.heap.size W
  go_upto_region 2 with (refine wpList_convert_str (o := ⟨some 13, _, _, _, _, _⟩) rfl _ rfl b rfl (by omega) ?_; intro v2 w2 hv2 b2)
  replace hA := hA.below b2
  replace hb := bnext hb b2
  have HV := hid fun (wx : World) (h : Below w2.heap.size w2 wx) => hv2.below h
  go_wp2_with fail
  refine (refHeadGet_any v2 b w2 hv2 (by omega)).mono ?_
  rintro e w3 ⟨rfl, b3⟩
  replace hA := hA.below b3
  replace hb := bnext hb b3
  have bv := b3
  rw [h1, (get_some h1).1]
  have N := Box.new w3 (msgL hd0 zr) 28
  have nb := bnew w3 (Obj.cells (msgL hd0 zr).toArray 28)
  go_upto_region 3 with (guard_target =~ wpList _ _ _ (⟨none, _, _, _, _, _⟩ :: _) _ _; refine wpList_store_msg (op := ⟨none, .store _ _ _, _, _, _, _⟩) (by rfl) _ _ (by rfl) w3.heap.size (msgF (getH b) bd0) (msgL hd0 zr) _ (by rfl) (by rfl) N (msgF_length _ _) (msgL_length _ _ zr_length) (msgL_one _ _ (bdL_one _)) ?_)
  have B6 := N.row (msgF (getH b) bd0)
  replace nb := below_setRow nb (Nat.le_refl _) (msgF (getH b) bd0).toArray
  change Code.wp _ _ _ _ ((w3.alloc (Obj.cells (msgL hd0 zr).toArray 28)).setRow w3.heap.size (msgF (getH b) bd0).toArray)
  generalize ((w3.alloc (Obj.cells (msgL hd0 zr).toArray 28)).setRow w3.heap.size (msgF (getH b) bd0).toArray) = W4 at *
  generalize hgB6 : w3.heap.size = gB6 at *
  have nc : Below w3.heap.size w3 W4 := by rw [hgB6]; exact nb
  replace hb := bnext hb nc
  replace hA := hA.below nc
  replace bv := bnext bv nc
  clear N nb nc
  generalize hh : getH b = h at *
  generalize lenOf b = LN at *
  go_wp2_with (guard_target =~ wpList _ _ _ (⟨some 25, _, _, _, _, _⟩ :: _) _ _; refine wpList_load_msg (op := ⟨some 25, .load _ _, _, _, _, _⟩) (by rfl) _ (by rfl) gB6 (by rfl) (msgF h bd0) _ B6 (msgF_length _ _) ?_)
  have hcall := refBodyGet_all v2 b h bd0 W4 (HV.out _ bv) hl h34 hk
  unfold bodyR at hcall
  rw [if_pos h2] at hcall
  refine hcall.mono ?_
  rintro e w5 ⟨rfl, b5⟩
  clear hcall
  replace hA := hA.below b5
  replace hb := bnext hb b5
  replace bv := bnext bv b5
  generalize hDD : bodyD bd0 h.ty b 34 = D at *
  have N := Box.new w5 (msgL hd0 zr) 28
  have nb := bnew w5 (Obj.cells (msgL hd0 zr).toArray 28)
  go_upto_region 6 with (guard_target =~ wpList _ _ _ (⟨none, _, _, _, _, _⟩ :: _) _ _; refine wpList_store_msg (op := ⟨none, .store _ _ _, _, _, _, _⟩) (by rfl) _ _ (by rfl) w5.heap.size (msgF h D) (msgL hd0 zr) _ (by rfl) (by rfl) N (msgF_length _ _) (msgL_length _ _ zr_length) (msgL_one _ _ (bdL_one _)) ?_)
  have B9 := N.row (msgF h D)
  replace nb := below_setRow nb (Nat.le_refl _) (msgF h D).toArray
  change Code.wp _ _ _ _ ((w5.alloc (Obj.cells (msgL hd0 zr).toArray 28)).setRow w5.heap.size (msgF h D).toArray)
  generalize ((w5.alloc (Obj.cells (msgL hd0 zr).toArray 28)).setRow w5.heap.size (msgF h D).toArray) = W6 at *
  generalize hgB9 : w5.heap.size = gB9 at *
  have nc : Below w5.heap.size w5 W6 := by rw [hgB9]; exact nb
  replace hb := bnext hb nc
  replace hA := hA.below nc
  replace bv := bnext bv nc
  clear N nb nc
  have hb6 := hb.size
  go_wp2_with fail
  have hlen := lenI_in h.ty
  obtain ⟨hlen0, hlen1⟩ := hlen
  refine (refGetT_any v2 b ((34 : Int) + lenI h.ty) W6 (HV.out _ bv) (by omega) (by omega)).mono ?_
  rintro e w7 ⟨v7, rfl, o7, b7⟩
  replace hA := hA.below b7
  replace hb := bnext hb b7
  replace B9 := B9.below b7
  generalize hRR : getT b ((34 : Int) + lenI h.ty) = R at *
  obtain ⟨RL, RE⟩ := R
  have h3 : RE ≠ 0 := h3
  have hI : (RE == 0) = false := beq_false_of_ne h3
  clear h3 h2
  go_wp2_with (guard_target =~ wpList _ _ _ (⟨none, _, _, _, _, _⟩ :: _) _ _; refine wpList_store_msg (op := ⟨none, .store _ _ _, _, _, _, _⟩) (by rfl) _ _ (by rfl) G (msgF hd0 bd0) (msgL hd0 zr) _ (by rfl) (by rfl) hA (msgF_length _ _) (msgL_length _ _ zr_length) (msgL_one _ _ (bdL_one _)) ?_)
  exact bodyPost_ret (v := .tuple #[.agg (msgF hd0 bd0).toArray, .slice none 0 0, .int .i64 RE]) (results_msg_3 (p := 2) (u := 3) (u' := 4) rfl _ _ G _ (msgF hd0 bd0) rfl (hA.row _) (msgF_length _ _)) rfl ⟨.slice none 0 0, by rw [hh, hRR], OwnT.nil _ _, by rw [hG]; exact below_setRow (hbW.trans (hb.mono (Nat.le_of_lt hGW))) (Nat.le_refl _) _⟩

set_option maxRecDepth 100000 in
set_option maxHeartbeats 4000000 in
theorem refFrameGet_4 (b : List UInt8) (w : World) (hl : b.length ≤ 140737488351232) (h1 : getE b = 0) (h2 : bodyE (getH b).ty b 34 = 0) (h3 : (frameL b).2 = 0) :
    Calls Try.prog 15 #[sv b] w fun e w' => ∃ v', e = .returned (.tuple #[.agg (msgF (getH b) (bodyD bd0 (getH b).ty b 34)).toArray, v', .int .i64 (0)]) ∧ OwnT w' w.heap.size v' (frameL b).1 ∧ Below w.heap.size w w' := by
  have hbW := bnew w (Obj.cells (msgL hd0 zr).toArray 28)
  have hA := Box.new w (msgL hd0 zr) 28
  unfold frameL at *
  obtain ⟨h34, hk⟩ := whole_known h1
  go_enter Try.func15, Try.ntmps15
  go_upto_region 1 with fail
  change Code.wp Try.prog _ _ _ (w.alloc (Obj.cells (msgL hd0 zr).toArray 28))
  generalize w.alloc (Obj.cells (msgL hd0 zr).toArray 28) = W at *
  generalize hG : w.heap.size = G at *
  have hGW : G < W.heap.size := hA.lt
  have hb := Below.refl W.heap.size W
  go_upto_region 2 with (refine wpList_convert_str (o := ⟨some 13, _, _, _, _, _⟩) rfl _ rfl b rfl (by omega) ?_; intro v2 w2 hv2 b2)
  replace hA := hA.below b2
  replace hb := bnext hb b2
  have HV := hid fun (wx : World) (h : Below w2.heap.size w2 wx) => hv2.below h
  go_wp2_with fail
  refine (refHeadGet_any v2 b w2 hv2 (by omega)).mono ?_
  rintro e w3 ⟨rfl, b3⟩
  replace hA := hA.below b3
  replace hb := bnext hb b3
  have bv := b3
  rw [h1, (get_some h1).1]
  have N := Box.new w3 (msgL hd0 zr) 28
  have nb := bnew w3 (Obj.cells (msgL hd0 zr).toArray 28)
  go_upto_region 3 with (guard_target =~ wpList _ _ _ (⟨none, _, _, _, _, _⟩ :: _) _ _; refine wpList_store_msg (op := ⟨none, .store _ _ _, _, _, _, _⟩) (by rfl) _ _ (by rfl) w3.heap.size (msgF (getH b) bd0) (msgL hd0 zr) _ (by rfl) (by rfl) N (msgF_length _ _) (msgL_length _ _ zr_length) (msgL_one _ _ (bdL_one _)) ?_)
  have B6 := N.row (msgF (getH b) bd0)
  replace nb := below_setRow nb (Nat.le_refl _) (msgF (getH b) bd0).toArray
  change Code.wp _ _ _ _ ((w3.alloc (Obj.cells (msgL hd0 zr).toArray 28)).setRow w3.heap.size (msgF (getH b) bd0).toArray)
  generalize ((w3.alloc (Obj.cells (msgL hd0 zr).toArray 28)).setRow w3.heap.size (msgF (getH b) bd0).toArray) = W4 at *
  generalize hgB6 : w3.heap.size = gB6 at *
  have nc : Below w3.heap.size w3 W4 := by rw [hgB6]; exact nb
  replace hb := bnext hb nc
  replace hA := hA.below nc
  replace bv := bnext bv nc
  clear N nb nc
  generalize hh : getH b = h at *
  generalize lenOf b = LN at *
  go_wp2_with (guard_target =~ wpList _ _ _ (⟨some 25, _, _, _, _, _⟩ :: _) _ _; refine wpList_load_msg (op := ⟨some 25, .load _ _, _, _, _, _⟩) (by rfl) _ (by rfl) gB6 (by rfl) (msgF h bd0) _ B6 (msgF_length _ _) ?_)
  have hcall := refBodyGet_all v2 b h bd0 W4 (HV.out _ bv) hl h34 hk
  unfold bodyR at hcall
  rw [if_pos h2] at hcall
  refine hcall.mono ?_
  rintro e w5 ⟨rfl, b5⟩
  clear hcall
  replace hA := hA.below b5
  replace hb := bnext hb b5
  replace bv := bnext bv b5
  generalize hDD : bodyD bd0 h.ty b 34 = D at *
  have N := Box.new w5 (msgL hd0 zr) 28
  have nb := bnew w5 (Obj.cells (msgL hd0 zr).toArray 28)
  go_upto_region 6 with (guard_target =~ wpList _ _ _ (⟨none, _, _, _, _, _⟩ :: _) _ _; refine wpList_store_msg (op := ⟨none, .store _ _ _, _, _, _, _⟩) (by rfl) _ _ (by rfl) w5.heap.size (msgF h D) (msgL hd0 zr) _ (by rfl) (by rfl) N (msgF_length _ _) (msgL_length _ _ zr_length) (msgL_one _ _ (bdL_one _)) ?_)
  have B9 := N.row (msgF h D)
  replace nb := below_setRow nb (Nat.le_refl _) (msgF h D).toArray
  change Code.wp _ _ _ _ ((w5.alloc (Obj.cells (msgL hd0 zr).toArray 28)).setRow w5.heap.size (msgF h D).toArray)
  generalize ((w5.alloc (Obj.cells (msgL hd0 zr).toArray 28)).setRow w5.heap.size (msgF h D).toArray) = W6 at *
  generalize hgB9 : w5.heap.size = gB9 at *
  have nc : Below w5.heap.size w5 W6 := by rw [hgB9]; exact nb
  replace hb := bnext hb nc
  replace hA := hA.below nc
  replace bv := bnext bv nc
  clear N nb nc
  have hb6 := hb.size
  go_wp2_with fail
  have hlen := lenI_in h.ty
  obtain ⟨hlen0, hlen1⟩ := hlen
  refine (refGetT_any v2 b ((34 : Int) + lenI h.ty) W6 (HV.out _ bv) (by omega) (by omega)).mono ?_
  rintro e w7 ⟨v7, rfl, o7, b7⟩
  replace hA := hA.below b7
  replace hb := bnext hb b7
  replace B9 := B9.below b7
  generalize hRR : getT b ((34 : Int) + lenI h.ty) = R at *
  obtain ⟨RL, RE⟩ := R
  obtain rfl : RE = 0 := h3
  clear h2
  have hGb : G < W6.heap.size := Nat.lt_of_lt_of_le hGW hb6
  go_wp2_with (first | (guard_target =~ wpList _ _ _ (⟨some 45, _, _, _, _, _⟩ :: _) _ _; refine wpList_load_msg (op := ⟨some 45, .load _ _, _, _, _, _⟩) (by rfl) _ (by rfl) gB9 (by rfl) (msgF h D) _ B9 (msgF_length _ _) ?_) | (guard_target =~ wpList _ _ _ (⟨none, _, _, _, _, _⟩ :: _) _ _; refine wpList_store_msg (op := ⟨none, .store _ _ _, _, _, _, _⟩) (by rfl) _ _ (by rfl) G (msgF h D) (msgL hd0 zr) _ (by rfl) (by rfl) hA (msgF_length _ _) (msgL_length _ _ zr_length) (msgL_one _ _ (bdL_one _)) ?_))
  exact bodyPost_ret (v := .tuple #[.agg (msgF h D).toArray, v7, .int .i64 0]) (results_msg_3 (p := 2) (u := 3) (u' := 4) rfl _ _ G _ (msgF h D) rfl (hA.row _) (msgF_length _ _)) rfl ⟨v7, by rw [hh, hDD], by rw [hh, hRR, hG]; exact (o7.keepRow hGb _).mono (Nat.le_of_lt hGb), by rw [hG]; exact below_setRow (hbW.trans (hb.mono (Nat.le_of_lt hGW))) (Nat.le_refl _) _⟩

theorem refFrameGet_any (b : List UInt8) (w : World) (hl : b.length ≤ 140737488351232) :
    Calls Try.prog 15 #[sv b] w fun e w' => ∃ v', e = .returned (.tuple #[.agg (msgF (frameH b) (frameD b)).toArray, v', .int .i64 (frameE b)]) ∧ OwnT w' w.heap.size v' (frameT b) ∧ Below w.heap.size w w' := by
  by_cases h1 : getE b = 0
  · by_cases h2 : bodyE (getH b).ty b 34 = 0
    · have hE := frameE_tlvs h1 h2
      by_cases h3 : (frameL b).2 = 0
      · rw [h3] at hE
        obtain ⟨e1, e2, e3⟩ := frame_yes hE
        rw [e1, e2, e3, hE]
        exact refFrameGet_4 b w hl h1 h2 h3
      · obtain ⟨e1, e2, e3⟩ := frame_no (b := b) (by rw [hE]; exact h3)
        rw [e1, e2, e3, hE]
        exact refFrameGet_3 b w hl h1 h2 h3
    · have hE := frameE_body h1 h2
      obtain ⟨e1, e2, e3⟩ := frame_no (b := b) (by rw [hE]; exact h2)
      rw [e1, e2, e3, hE]
      exact refFrameGet_2 b w hl h1 h2
  · have hE := frameE_short h1
    obtain ⟨e1, e2, e3⟩ := frame_no (b := b) (by rw [hE]; exact h1)
    rw [e1, e2, e3, hE]
    exact refFrameGet_1 b w hl h1
end Go.Proofs.Ytohgpnlihfcecaa
