/- The document's own Here of chapter 9 (gen_framehere.py). -/
import Derived.Test.YtohgpnlihfcecaaFrameRef
namespace Go.Proofs.Ytohgpnlihfcecaa
open Go.RowKit Go.Proofs
set_option maxRecDepth 50000
set_option linter.unusedVariables false
set_option linter.unusedSimpArgs false

/-- A frame of another domain. -/
def otherB (b : List UInt8) (dm : Int) : Bool := decide (frameE b = 0 ∧ (frameH b).dm ≠ dm)
def hereH (b : List UInt8) (dm : Int) : Hd := if otherB b dm = true then hd0 else frameH b
def hereD (b : List UInt8) (dm : Int) : Bd := if otherB b dm = true then bd0 else frameD b
def hereT (b : List UInt8) (dm : Int) : List T2 := if otherB b dm = true then [] else frameT b
def hereE (b : List UInt8) (dm : Int) : Int := if otherB b dm = true then 6 else frameE b

theorem here_other {b : List UInt8} {dm : Int} (h : frameE b = 0 ∧ (frameH b).dm ≠ dm) : hereH b dm = hd0 ∧ hereD b dm = bd0 ∧ hereT b dm = [] ∧ hereE b dm = 6 := by
  have e : otherB b dm = true := decide_eq_true h
  exact ⟨if_pos e, if_pos e, if_pos e, if_pos e⟩
theorem here_same {b : List UInt8} {dm : Int} (h : ¬ (frameE b = 0 ∧ (frameH b).dm ≠ dm)) : hereH b dm = frameH b ∧ hereD b dm = frameD b ∧ hereT b dm = frameT b ∧ hereE b dm = frameE b := by
  have e : ¬ otherB b dm = true := fun h2 => h (of_decide_eq_true h2)
  exact ⟨if_neg e, if_neg e, if_neg e, if_neg e⟩

set_option maxRecDepth 100000 in
set_option maxHeartbeats 4000000 in
theorem refHere_1 (b : List UInt8) (dm : Int) (w : World) (hl : b.length ≤ 140737488351232) (h : frameE b ≠ 0) :
    Calls Try.prog 17 #[sv b, .int .i64 dm] w fun e w' => ∃ v', e = .returned (.tuple #[.agg (msgF (frameH b) (frameD b)).toArray, v', .int .i64 (frameE b)]) ∧ OwnT w' w.heap.size v' (frameT b) ∧ Below w.heap.size w w' := by
  have hbW := bnew w (Obj.cells (msgL hd0 zr).toArray 28)
  have hA := Box.new w (msgL hd0 zr) 28
  go_enter Try.func17, Try.ntmps17
  go_upto_region 1 with fail
  change Code.wp Try.prog _ _ _ (w.alloc (Obj.cells (msgL hd0 zr).toArray 28))
  generalize w.alloc (Obj.cells (msgL hd0 zr).toArray 28) = W at *
  generalize hG : w.heap.size = G at *
  have hGW : G < W.heap.size := hA.lt
  have hb := Below.refl W.heap.size W
  have hcall := refFrameGet_any b W hl
  generalize hHH : frameH b = H at *
  generalize hDD : frameD b = D at *
  generalize hTT : frameT b = T at *
  generalize hEE : frameE b = E at *
  go_wp2_with fail
  refine hcall.mono ?_
  rintro e w3 ⟨v3, rfl, o3, b3⟩
  clear hcall
  replace hA := hA.below b3
  replace hb := bnext hb b3
  have N := Box.new w3 (msgL hd0 zr) 28
  have nb := bnew w3 (Obj.cells (msgL hd0 zr).toArray 28)
  go_upto_region 2 with (guard_target =~ wpList _ _ _ (⟨none, _, _, _, _, _⟩ :: _) _ _; refine wpList_store_msg (op := ⟨none, .store _ _ _, _, _, _, _⟩) (by rfl) _ _ (by rfl) w3.heap.size (msgF H D) (msgL hd0 zr) _ (by rfl) (by rfl) N (msgF_length _ _) (msgL_length _ _ zr_length) (msgL_one _ _ (bdL_one _)) ?_)
  have B7 := N.row (msgF H D)
  replace nb := below_setRow nb (Nat.le_refl _) (msgF H D).toArray
  change Code.wp _ _ _ _ ((w3.alloc (Obj.cells (msgL hd0 zr).toArray 28)).setRow w3.heap.size (msgF H D).toArray)
  generalize ((w3.alloc (Obj.cells (msgL hd0 zr).toArray 28)).setRow w3.heap.size (msgF H D).toArray) = W4 at *
  generalize hgB7 : w3.heap.size = gB7 at *
  have nc : Below w3.heap.size w3 W4 := by rw [hgB7]; exact nb
  replace hb := bnext hb nc
  replace hA := hA.below nc
  replace o3 := o3.below nc
  clear N nb nc
  have c1 := B7.cell 1 _ rfl
  have hI : (E == 0) = false := beq_false_of_ne h
  have hGb : G < W.heap.size := hGW
  go_wp2_with (first | (guard_target =~ wpList _ _ _ (⟨some 25, _, _, _, _, _⟩ :: _) _ _; refine wpList_load_msg (op := ⟨some 25, .load _ _, _, _, _, _⟩) (by rfl) _ (by rfl) gB7 (by rfl) (msgF H D) _ B7 (msgF_length _ _) ?_) | (guard_target =~ wpList _ _ _ (⟨none, _, _, _, _, _⟩ :: _) _ _; refine wpList_store_msg (op := ⟨none, .store _ _ _, _, _, _, _⟩) (by rfl) _ _ (by rfl) G (msgF H D) (msgL hd0 zr) _ (by rfl) (by rfl) hA (msgF_length _ _) (msgL_length _ _ zr_length) (msgL_one _ _ (bdL_one _)) ?_))
  exact bodyPost_ret (v := .tuple #[.agg (msgF H D).toArray, v3, .int .i64 E]) (results_msg_3 (p := 4) (u := 5) (u' := 6) rfl _ _ G _ (msgF H D) rfl (hA.row _) (msgF_length _ _)) rfl ⟨v3, by rw [hHH, hDD, hEE], by rw [hTT, hG]; exact (o3.keepRow hGb _).mono (Nat.le_of_lt hGb), by rw [hG]; exact below_setRow (hbW.trans (hb.mono (Nat.le_of_lt hGW))) (Nat.le_refl _) _⟩

set_option maxRecDepth 100000 in
set_option maxHeartbeats 4000000 in
theorem refHere_2 (b : List UInt8) (dm : Int) (w : World) (hl : b.length ≤ 140737488351232) (h : frameE b = 0) (h2 : (frameH b).dm = dm) :
    Calls Try.prog 17 #[sv b, .int .i64 dm] w fun e w' => ∃ v', e = .returned (.tuple #[.agg (msgF (frameH b) (frameD b)).toArray, v', .int .i64 (frameE b)]) ∧ OwnT w' w.heap.size v' (frameT b) ∧ Below w.heap.size w w' := by
  have hbW := bnew w (Obj.cells (msgL hd0 zr).toArray 28)
  have hA := Box.new w (msgL hd0 zr) 28
  go_enter Try.func17, Try.ntmps17
  go_upto_region 1 with fail
  change Code.wp Try.prog _ _ _ (w.alloc (Obj.cells (msgL hd0 zr).toArray 28))
  generalize w.alloc (Obj.cells (msgL hd0 zr).toArray 28) = W at *
  generalize hG : w.heap.size = G at *
  have hGW : G < W.heap.size := hA.lt
  have hb := Below.refl W.heap.size W
  have hcall := refFrameGet_any b W hl
  generalize hHH : frameH b = H at *
  generalize hDD : frameD b = D at *
  generalize hTT : frameT b = T at *
  generalize hEE : frameE b = E at *
  go_wp2_with fail
  refine hcall.mono ?_
  rintro e w3 ⟨v3, rfl, o3, b3⟩
  clear hcall
  replace hA := hA.below b3
  replace hb := bnext hb b3
  have N := Box.new w3 (msgL hd0 zr) 28
  have nb := bnew w3 (Obj.cells (msgL hd0 zr).toArray 28)
  go_upto_region 2 with (guard_target =~ wpList _ _ _ (⟨none, _, _, _, _, _⟩ :: _) _ _; refine wpList_store_msg (op := ⟨none, .store _ _ _, _, _, _, _⟩) (by rfl) _ _ (by rfl) w3.heap.size (msgF H D) (msgL hd0 zr) _ (by rfl) (by rfl) N (msgF_length _ _) (msgL_length _ _ zr_length) (msgL_one _ _ (bdL_one _)) ?_)
  have B7 := N.row (msgF H D)
  replace nb := below_setRow nb (Nat.le_refl _) (msgF H D).toArray
  change Code.wp _ _ _ _ ((w3.alloc (Obj.cells (msgL hd0 zr).toArray 28)).setRow w3.heap.size (msgF H D).toArray)
  generalize ((w3.alloc (Obj.cells (msgL hd0 zr).toArray 28)).setRow w3.heap.size (msgF H D).toArray) = W4 at *
  generalize hgB7 : w3.heap.size = gB7 at *
  have nc : Below w3.heap.size w3 W4 := by rw [hgB7]; exact nb
  replace hb := bnext hb nc
  replace hA := hA.below nc
  replace o3 := o3.below nc
  clear N nb nc
  have c1 := B7.cell 1 _ rfl
  subst h
  subst h2
  have hI : (H.dm == H.dm) = true := beq_self_eq_true _
  have hGb : G < W.heap.size := hGW
  go_wp2_with (first | (guard_target =~ wpList _ _ _ (⟨some 25, _, _, _, _, _⟩ :: _) _ _; refine wpList_load_msg (op := ⟨some 25, .load _ _, _, _, _, _⟩) (by rfl) _ (by rfl) gB7 (by rfl) (msgF H D) _ B7 (msgF_length _ _) ?_) | (guard_target =~ wpList _ _ _ (⟨none, _, _, _, _, _⟩ :: _) _ _; refine wpList_store_msg (op := ⟨none, .store _ _ _, _, _, _, _⟩) (by rfl) _ _ (by rfl) G (msgF H D) (msgL hd0 zr) _ (by rfl) (by rfl) hA (msgF_length _ _) (msgL_length _ _ zr_length) (msgL_one _ _ (bdL_one _)) ?_))
  exact bodyPost_ret (v := .tuple #[.agg (msgF H D).toArray, v3, .int .i64 0]) (results_msg_3 (p := 4) (u := 5) (u' := 6) rfl _ _ G _ (msgF H D) rfl (hA.row _) (msgF_length _ _)) rfl ⟨v3, by rw [hHH, hDD, hEE], by rw [hTT, hG]; exact (o3.keepRow hGb _).mono (Nat.le_of_lt hGb), by rw [hG]; exact below_setRow (hbW.trans (hb.mono (Nat.le_of_lt hGW))) (Nat.le_refl _) _⟩

set_option maxRecDepth 100000 in
set_option maxHeartbeats 4000000 in
theorem refHere_3 (b : List UInt8) (dm : Int) (w : World) (hl : b.length ≤ 140737488351232) (h : frameE b = 0) (h2 : (frameH b).dm ≠ dm) :
    Calls Try.prog 17 #[sv b, .int .i64 dm] w fun e w' => ∃ v', e = .returned (.tuple #[.agg (msgF hd0 bd0).toArray, v', .int .i64 (6)]) ∧ OwnT w' w.heap.size v' [] ∧ Below w.heap.size w w' := by
  have hbW := bnew w (Obj.cells (msgL hd0 zr).toArray 28)
  have hA := Box.new w (msgL hd0 zr) 28
  go_enter Try.func17, Try.ntmps17
  go_upto_region 1 with fail
  change Code.wp Try.prog _ _ _ (w.alloc (Obj.cells (msgL hd0 zr).toArray 28))
  generalize w.alloc (Obj.cells (msgL hd0 zr).toArray 28) = W at *
  generalize hG : w.heap.size = G at *
  have hGW : G < W.heap.size := hA.lt
  have hb := Below.refl W.heap.size W
  have hcall := refFrameGet_any b W hl
  generalize hHH : frameH b = H at *
  generalize hDD : frameD b = D at *
  generalize hTT : frameT b = T at *
  generalize hEE : frameE b = E at *
  go_wp2_with fail
  refine hcall.mono ?_
  rintro e w3 ⟨v3, rfl, o3, b3⟩
  clear hcall
  replace hA := hA.below b3
  replace hb := bnext hb b3
  have N := Box.new w3 (msgL hd0 zr) 28
  have nb := bnew w3 (Obj.cells (msgL hd0 zr).toArray 28)
  go_upto_region 2 with (guard_target =~ wpList _ _ _ (⟨none, _, _, _, _, _⟩ :: _) _ _; refine wpList_store_msg (op := ⟨none, .store _ _ _, _, _, _, _⟩) (by rfl) _ _ (by rfl) w3.heap.size (msgF H D) (msgL hd0 zr) _ (by rfl) (by rfl) N (msgF_length _ _) (msgL_length _ _ zr_length) (msgL_one _ _ (bdL_one _)) ?_)
  have B7 := N.row (msgF H D)
  replace nb := below_setRow nb (Nat.le_refl _) (msgF H D).toArray
  change Code.wp _ _ _ _ ((w3.alloc (Obj.cells (msgL hd0 zr).toArray 28)).setRow w3.heap.size (msgF H D).toArray)
  generalize ((w3.alloc (Obj.cells (msgL hd0 zr).toArray 28)).setRow w3.heap.size (msgF H D).toArray) = W4 at *
  generalize hgB7 : w3.heap.size = gB7 at *
  have nc : Below w3.heap.size w3 W4 := by rw [hgB7]; exact nb
  replace hb := bnext hb nc
  replace hA := hA.below nc
  replace o3 := o3.below nc
  clear N nb nc
  have c1 := B7.cell 1 _ rfl
  subst h
  have hI : (H.dm == dm) = false := beq_false_of_ne h2
  go_wp2_with (guard_target =~ wpList _ _ _ (⟨none, _, _, _, _, _⟩ :: _) _ _; refine wpList_store_msg (op := ⟨none, .store _ _ _, _, _, _, _⟩) (by rfl) _ _ (by rfl) G (msgF hd0 bd0) (msgL hd0 zr) _ (by rfl) (by rfl) hA (msgF_length _ _) (msgL_length _ _ zr_length) (msgL_one _ _ (bdL_one _)) ?_)
  exact bodyPost_ret (v := .tuple #[.agg (msgF hd0 bd0).toArray, .slice none 0 0, .int .i64 6]) (results_msg_3 (p := 4) (u := 5) (u' := 6) rfl _ _ G _ (msgF hd0 bd0) rfl (hA.row _) (msgF_length _ _)) rfl ⟨.slice none 0 0, rfl, OwnT.nil _ _, by rw [hG]; exact below_setRow (hbW.trans (hb.mono (Nat.le_of_lt hGW))) (Nat.le_refl _) _⟩

theorem refHere_any (b : List UInt8) (dm : Int) (w : World) (hl : b.length ≤ 140737488351232) :
    Calls Try.prog 17 #[sv b, .int .i64 dm] w fun e w' => ∃ v', e = .returned (.tuple #[.agg (msgF (hereH b dm) (hereD b dm)).toArray, v', .int .i64 (hereE b dm)]) ∧ OwnT w' w.heap.size v' (hereT b dm) ∧ Below w.heap.size w w' := by
  by_cases h : frameE b = 0 ∧ (frameH b).dm ≠ dm
  · obtain ⟨e1, e2, e3, e4⟩ := here_other h
    rw [e1, e2, e3, e4]
    exact refHere_3 b dm w hl h.1 h.2
  · obtain ⟨e1, e2, e3, e4⟩ := here_same h
    rw [e1, e2, e3, e4]
    by_cases h1 : frameE b = 0
    · exact refHere_2 b dm w hl h1 (by
        by_cases h2 : (frameH b).dm = dm
        · exact h2
        · exact absurd ⟨h1, h2⟩ h)
    · exact refHere_1 b dm w hl h1
end Go.Proofs.Ytohgpnlihfcecaa
