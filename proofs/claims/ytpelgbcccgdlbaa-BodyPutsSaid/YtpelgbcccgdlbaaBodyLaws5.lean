/- The walk of the law BodyPuts (gen_bodyputs.py SEAT). -/
import Derived.Test.YtpelgbcccgdlbaaBodyLaws
import Derived.Test.YtpelgbcccgdlbaaBodyRef
import Derived.Test.YtpelgbcccgdlbaaBodyRefPut
import Derived.Test.YtpelgbcccgdlbaaOpenM2
namespace Go.Proofs.Ytpelgbcccgdlbaa
open Go.RowKit Go.Proofs
set_option linter.unusedVariables false
set_option linter.unusedSimpArgs false

theorem cell_after {w : World} {base g cap n : Nat} {l : List UInt8} {c : UInt8} (h : Own w base (.slice (some ⟨g, 0, none⟩) n cap) (l ++ [c])) {w1 : World} (hb : Below w.heap.size w w1) :
    ∀ w', Below w1.heap.size w1 w' → w'.cell? ⟨g, l.length, none⟩ = some (bv c) := by
  intro w' hb'
  have hc := (h.below (bnext hb hb')).cell l.length (by simp)
  simpa using hc

set_option maxRecDepth 100000 in
set_option maxHeartbeats 8000000 in
theorem bodyPuts_no {w : World} (v0 : Value) (l : List UInt8) (b0 : Bytes w v0 l) (r0 : l.length ≤ 140737488351232) (h : Hd) (d : Bd) (hok : MsgOk h d) (hm : checkM h d = false) :
    Calls Try.prog 3 #[v0, .agg (msgF h d).toArray] w fun e w' => e = .returned (.bool true) ∧ Below w.heap.size w w' := by
  have h99 := fun wx : World => (Own.lit wx [99] (by decide)).bytes
  have hck := fun wx => checkM_any h d wx
  have hrk := fun wx => refCheckM_any h d wx
  simp only [hm] at hck hrk
  have HCk := hid hck
  have HRk := hid hrk
  clear hck hrk
  have HB0 := hid fun (w' : World) (h : Below w.heap.size w w') => b0.below h
  obtain ⟨p0, cap0, rfl, -, -, -⟩ := b0
  go_enter Try.func3, Try.ntmps3
  go_upto_region 1 with fail
  obtain ⟨W, hWe, hbw, hBox⟩ := box_msg w (msgF h d)
  rw [← hWe]
  clear hWe
  have HBx := hid fun (wx : World) (hx : Below W.heap.size W wx) => hBox.below hx
  have HC := hid fun (wx : World) (hx : Below W.heap.size W wx) => (hBox.hd wx hx).1
  have hn := Own.nil W W.heap.size
  have hb := HB0.out _ hbw
  clear hBox
  go_upto_region 2 with (first
    | (at_builtin; refine wpList_append_bytes (o := ⟨some 11, _, _, _, _, _⟩) rfl _ _ rfl rfl W.heap.size _ _ [] l rfl rfl hn hb ?_ (Nat.le_refl _) ?_; (simp; omega); intro c1 wa own1 bel1; rw [List.nil_append] at own1; have ownA := own1.below (bnew wa (.cells (cellsOf [99]).toArray 5)); have h99a := h99 wa; have hsz := bel1.size)
    | (at_builtin; refine wpList_append_bytes (o := ⟨some 13, _, _, _, _, _⟩) rfl _ _ rfl rfl W.heap.size _ _ l [99] rfl rfl ?_ ?_ ?_ ?_ ?_; assumption; assumption; (simp; omega); (simp; omega); intro c2 wb own2 bel2; obtain ⟨g, cap, rfl, hg1, hg2, hg3, hg4⟩ := own2.form (by simp); have hg5 : l.length + 1 ≤ cap := (by simpa using hg1); clear hg1))
  have hWb : Below W.heap.size W wb := bel1.trans ((bnew wa _).mono hsz |>.trans bel2)
  have hc : Bytes wb (.slice (some ⟨g, 0, none⟩) l.length cap) l := by
    have h := Bytes.cut (w := wb) (b := g) (off := 0) (cap := cap) (l := l ++ [99]) 0 l.length cap hg4 (fun i hi => by rw [Nat.zero_add]; exact own2.cell i hi) (by simp) (by simp; omega) hg3 (by omega)
    simpa using h
  clear h99 hn hb own1 bel1 ownA h99a hsz bel2
  have hBox2 := HBx.out _ hWb
  go_wp2_with (guard_target =~ wpList _ _ _ (⟨some 19, _, _, _, _, _⟩ :: _) _ _; refine wpList_load_msg (op := ⟨some 19, .load _ _, _, _, _, _⟩) (by rfl) _ (by rfl) w.heap.size (by rfl) (msgF h d) _ hBox2 (msgF_length _ _) ?_)
  refine (bodyPut_no _ l h d _ hc (by omega) hm).mono ?_
  rintro e w3 ⟨x3, rfl, own3, hb3⟩
  have hW3 := bnext hWb hb3
  have hBox3 := HBx.out _ hW3
  have own2b := own2.below hb3
  go_wp2_with (guard_target =~ wpList _ _ _ (⟨some 23, _, _, _, _, _⟩ :: _) _ _; refine wpList_load_msg (op := ⟨some 23, .load _ _, _, _, _, _⟩) (by rfl) _ (by rfl) w.heap.size (by rfl) (msgF h d) _ hBox3 (msgF_length _ _) ?_)
  refine (HRk.out _).mono ?_
  rintro e w4 ⟨rfl, hb4⟩
  have hW4 := bnext hW3 hb4
  have own2c := own2b.below hb4
  have HX3 := hid (own3.bytes.below hb4)
  have hBW := HB0.out _ (bnext hbw hW4)
  have hst := hBW.str
  clear hc hBox2 hBox3 own2 own2b hb3 hb4 hW3 hWb own3
  clear hm hok
  go_upto_region 7 with fail
  clear hst hBW
  refine wp_region_held_drew (S := fun w' => Below w4.drew.heap.size w4.drew w') (by kernel_rfl) (Below.refl _ _) ?_
  intro hHeld
  have hbW := bnext hW4 <| Below.drew (Below.refl w4.heap.size w4)
  have own9 := own2c.below (Below.drew (Below.refl w4.heap.size w4))
  have hX9 := HX3.out.below (Below.drew (Below.refl w4.heap.size w4))
  generalize w4.drew = wd at *
  have hcC := fun wx h => HC.out wx (bnext hbW h)
  refine rtake 0 rfl (by rfl) (by kernel_rfl) (by kernel_rfl) (by kernel_rfl) (fun _ _ _ h => h) hHeld (fun wx hwx => exec_load_msg _ rfl w.heap.size rfl (msgF h d) _ (HBx.out wx (bnext hbW hwx)) (msgF_length _ _)) ?_
  try simp only [Act.put, List.setIfInBounds_toArray, List.set_cons_zero, List.set_cons_succ]
  refine rtake 2 rfl (by rfl) (by kernel_rfl) (by kernel_rfl) (by kernel_rfl) (fun _ _ _ h => h) hHeld (fun wx hwx => by go_simp; try with_reducible rfl) ?_
  try simp only [Act.put, List.setIfInBounds_toArray, List.set_cons_zero, List.set_cons_succ]
  -- CALL 1: some 34 := Op.call { callee := Callee.value (Operand.func 11), args := #[Operand.tmp 33], argTypes := #[29] }
  refine rcall 1 rfl (by kernel_rfl) (by rfl) (fun K hK => ?_)
  go_simp
  refine (HCk.out _).mono ?_
  rintro e wx1 ⟨rfl, hbel⟩
  replace own9 := own9.below hbel
  replace hX9 := hX9.below hbel
  refine hK.out _ _ hbel ?_
  clear hK K
  refine wpAnyH_mono (S' := fun w' => Below wx1.heap.size wx1 w') (fun w' h => bnext hbel h) _ _ _ _ ?_
  have hH := Below.refl wx1.heap.size wx1
  have hW := bnext hbW hbel
  clear hbel hbW hHeld
  have hHeld := hH
  have hbW := hW
  clear hH hW
  have hsz1 := hbW.size
  replace hcC := fun wx h => HC.out wx (bnext hbW h)
  try simp only [Act.put, List.setIfInBounds_toArray, List.set_cons_zero, List.set_cons_succ]
  refine rtake 3 rfl (by rfl) (by kernel_rfl) (by kernel_rfl) (by kernel_rfl) (fun _ _ _ h => h) hHeld (fun wx hwx => by go_simp; try with_reducible rfl) ?_
  try simp only [Act.put, List.setIfInBounds_toArray, List.set_cons_zero, List.set_cons_succ]
  refine rtake 4 rfl (by rfl) (by kernel_rfl) (by kernel_rfl) (by kernel_rfl) (fun _ _ _ h => h) hHeld (fun wx hwx => by go_simp; try with_reducible rfl) ?_
  try simp only [Act.put, List.setIfInBounds_toArray, List.set_cons_zero, List.set_cons_succ]
  refine rtake 5 rfl (by rfl) (by kernel_rfl) (by kernel_rfl) (by kernel_rfl) (fun _ _ _ h => h) hHeld (fun wx hwx => by go_simp; try with_reducible rfl) ?_
  try simp only [Act.put, List.setIfInBounds_toArray, List.set_cons_zero, List.set_cons_succ]
  refine rtake 6 rfl (by rfl) (by kernel_rfl) (by kernel_rfl) (by kernel_rfl) (fun _ _ _ h => h) hHeld (fun wx hwx => by go_simp; try with_reducible rfl) ?_
  try simp only [Act.put, List.setIfInBounds_toArray, List.set_cons_zero, List.set_cons_succ]
  refine rtake 7 rfl (by rfl) (by kernel_rfl) (by kernel_rfl) (by kernel_rfl) (fun _ _ _ h => h) hHeld (fun wx hwx => by go_simp; try with_reducible rfl) ?_
  try simp only [Act.put, List.setIfInBounds_toArray, List.set_cons_zero, List.set_cons_succ]
  refine rtake 8 rfl (by rfl) (by kernel_rfl) (by kernel_rfl) (by kernel_rfl) (fun _ _ _ h => h) hHeld (fun wx hwx => by go_simp; try with_reducible rfl) ?_
  try simp only [Act.put, List.setIfInBounds_toArray, List.set_cons_zero, List.set_cons_succ]
  refine rtake 9 rfl (by rfl) (by kernel_rfl) (by kernel_rfl) (by kernel_rfl) (fun _ _ _ h => h) hHeld (fun wx hwx => by go_simp; try with_reducible rfl) ?_
  try simp only [Act.put, List.setIfInBounds_toArray, List.set_cons_zero, List.set_cons_succ]
  refine rtake 10 rfl (by rfl) (by kernel_rfl) (by kernel_rfl) (by kernel_rfl) (fun _ _ _ h => h) hHeld (fun wx hwx => by go_simp; try with_reducible rfl) ?_
  try simp only [Act.put, List.setIfInBounds_toArray, List.set_cons_zero, List.set_cons_succ]
  have hstx := hX9.strs
  refine rtake 11 rfl (by rfl) (by kernel_rfl) (by kernel_rfl) (by kernel_rfl) (fun _ _ _ h => h) hHeld (fun wx hwx => by go_simp; try with_reducible rfl) ?_
  try simp only [Act.put, List.setIfInBounds_toArray, List.set_cons_zero, List.set_cons_succ]
  refine rtake 12 rfl (by rfl) (by kernel_rfl) (by kernel_rfl) (by kernel_rfl) (fun _ _ _ h => h) hHeld (fun wx hwx => by go_simp; try with_reducible rfl) ?_
  try simp only [Act.put, List.setIfInBounds_toArray, List.set_cons_zero, List.set_cons_succ]
  refine rtake 13 rfl (by rfl) (by kernel_rfl) (by kernel_rfl) (by kernel_rfl) (fun _ _ _ h => h) hHeld (fun wx hwx => by go_simp; try with_reducible rfl) ?_
  try simp only [Act.put, List.setIfInBounds_toArray, List.set_cons_zero, List.set_cons_succ]
  refine rtake 14 rfl (by rfl) (by kernel_rfl) (by kernel_rfl) (by kernel_rfl) (fun _ _ _ h => h) hHeld (fun wx hwx => by go_simp; try with_reducible rfl) ?_
  try simp only [Act.put, List.setIfInBounds_toArray, List.set_cons_zero, List.set_cons_succ]
  refine rtake 15 rfl (by rfl) (by kernel_rfl) (by kernel_rfl) (by kernel_rfl) (fun _ _ _ h => h) hHeld (fun wx hwx => by go_simp; try with_reducible rfl) ?_
  try simp only [Act.put, List.setIfInBounds_toArray, List.set_cons_zero, List.set_cons_succ]
  refine rtake 16 rfl (by rfl) (by kernel_rfl) (by kernel_rfl) (by kernel_rfl) (fun _ _ _ h => h) hHeld (fun wx hwx => by go_simp; try with_reducible rfl) ?_
  try simp only [Act.put, List.setIfInBounds_toArray, List.set_cons_zero, List.set_cons_succ]
  refine rtake 17 rfl (by rfl) (by kernel_rfl) (by kernel_rfl) (by kernel_rfl) (fun _ _ _ h => h) hHeld (fun wx hwx => by go_simp; try with_reducible rfl) ?_
  try simp only [Act.put, List.setIfInBounds_toArray, List.set_cons_zero, List.set_cons_succ]
  refine rtake 19 rfl (by rfl) (by kernel_rfl) (by kernel_rfl) (by kernel_rfl) (fun _ _ _ h => h) hHeld (fun wx hwx => by go_simp; try with_reducible rfl) ?_
  try simp only [Act.put, List.setIfInBounds_toArray, List.set_cons_zero, List.set_cons_succ]
  refine rtake 20 rfl (by rfl) (by kernel_rfl) (by kernel_rfl) (by kernel_rfl) (fun _ _ _ h => h) hHeld (fun wx hwx => by go_simp; try with_reducible rfl) ?_
  try simp only [Act.put, List.setIfInBounds_toArray, List.set_cons_zero, List.set_cons_succ]
  -- CALL 18: some 51 := Op.call { callee := Callee.value (Operand.func 12), args := #[Operand.tmp 50], argTypes := #[3] }
  refine rcall 18 rfl (by kernel_rfl) (by rfl) (fun K hK => ?_)
  go_simp
  refine (len_any _ _).mono ?_
  rintro e wx18 ⟨rfl, hbel⟩
  replace own9 := own9.below hbel
  replace hX9 := hX9.below hbel
  refine hK.out _ _ hbel ?_
  clear hK K
  refine wpAnyH_mono (S' := fun w' => Below wx18.heap.size wx18 w') (fun w' h => bnext hbel h) _ _ _ _ ?_
  have hH := Below.refl wx18.heap.size wx18
  have hW := bnext hbW hbel
  clear hbel hbW hHeld
  have hHeld := hH
  have hbW := hW
  clear hH hW
  have hsz18 := hbW.size
  replace hcC := fun wx h => HC.out wx (bnext hbW h)
  try simp only [Act.put, List.setIfInBounds_toArray, List.set_cons_zero, List.set_cons_succ]
  -- CALL 21: some 54 := Op.call { callee := Callee.value (Operand.func 13), args := #[Operand.tmp 53], argTypes := #[3] }
  refine rcall 21 rfl (by kernel_rfl) (by rfl) (fun K hK => ?_)
  go_simp
  refine (refLen_any _ _).mono ?_
  rintro e wx21 ⟨rfl, rfl⟩
  refine hK.out _ _ hHeld ?_
  clear hK K
  try simp only [Act.put, List.setIfInBounds_toArray, List.set_cons_zero, List.set_cons_succ]
  refine rtake 22 rfl (by rfl) (by kernel_rfl) (by kernel_rfl) (by kernel_rfl) (fun _ _ _ h => h) hHeld (fun wx hwx => by go_simp; try with_reducible rfl) ?_
  try simp only [Act.put, List.setIfInBounds_toArray, List.set_cons_zero, List.set_cons_succ]
  refine rtake 23 rfl (by rfl) (by kernel_rfl) (by kernel_rfl) (by kernel_rfl) (fun _ _ _ h => h) hHeld (fun wx hwx => by go_simp; try with_reducible rfl) ?_
  try simp only [Act.put, List.setIfInBounds_toArray, List.set_cons_zero, List.set_cons_succ]
  refine rtake 24 rfl (by rfl) (by kernel_rfl) (by kernel_rfl) (by kernel_rfl) (fun _ _ _ h => h) hHeld (fun wx hwx => by go_simp; try with_reducible rfl) ?_
  try simp only [Act.put, List.setIfInBounds_toArray, List.set_cons_zero, List.set_cons_succ]
  refine rtake 25 rfl (by rfl) (by kernel_rfl) (by kernel_rfl) (by kernel_rfl) (fun _ _ _ h => h) hHeld (fun wx hwx => by go_simp; try with_reducible rfl) ?_
  try simp only [Act.put, List.setIfInBounds_toArray, List.set_cons_zero, List.set_cons_succ]
  refine rtake 26 rfl (by rfl) (by kernel_rfl) (by kernel_rfl) (by kernel_rfl) (fun _ _ _ h => h) hHeld (fun wx hwx => by go_simp; try with_reducible rfl) ?_
  try simp only [Act.put, List.setIfInBounds_toArray, List.set_cons_zero, List.set_cons_succ]
  refine rtake 27 rfl (by rfl) (by kernel_rfl) (by kernel_rfl) (by kernel_rfl) (fun _ _ _ h => h) hHeld (fun wx hwx => by go_simp; try with_reducible rfl) ?_
  try simp only [Act.put, List.setIfInBounds_toArray, List.set_cons_zero, List.set_cons_succ]
  have hw1 : IntKind.i64.wrap ((l.length : Int) + 1) = (l.length : Int) + 1 := IntWalk.i64_in _ (by omega)
  have hw2 : 0 ≤ (l.length : Int) + 1 := by omega
  have hw3 : ((l.length : Int) + 1).toNat = l.length + 1 := by omega
  have hw4 : (l.length : Int) + 1 ≤ (cap : Int) := by omega
  have hw5 : (l.length : Int) < (l.length : Int) + 1 := by omega
  refine rtake 28 rfl (by rfl) (by kernel_rfl) (by kernel_rfl) (by kernel_rfl) (fun _ _ _ h => h) hHeld (fun wx hwx => by go_simp; try with_reducible rfl) ?_
  try simp only [Act.put, List.setIfInBounds_toArray, List.set_cons_zero, List.set_cons_succ]
  refine rtake 29 rfl (by rfl) (by kernel_rfl) (by kernel_rfl) (by kernel_rfl) (fun _ _ _ h => h) hHeld (fun wx hwx => by go_simp; try with_reducible rfl) ?_
  try simp only [Act.put, List.setIfInBounds_toArray, List.set_cons_zero, List.set_cons_succ]
  refine rtake 30 rfl (by rfl) (by kernel_rfl) (by kernel_rfl) (by kernel_rfl) (fun _ _ _ h => h) hHeld (fun wx hwx => by go_simp; try with_reducible rfl) ?_
  try simp only [Act.put, List.setIfInBounds_toArray, List.set_cons_zero, List.set_cons_succ]
  refine rtake 31 rfl (by rfl) (by kernel_rfl) (by kernel_rfl) (by kernel_rfl) (fun _ _ _ h => h) hHeld (fun wx hwx => by go_simp; try with_reducible rfl) ?_
  try simp only [Act.put, List.setIfInBounds_toArray, List.set_cons_zero, List.set_cons_succ]
  refine rtake 32 rfl (by rfl) (by kernel_rfl) (by kernel_rfl) (by kernel_rfl) (fun _ _ _ h => h) hHeld (fun wx hwx => by go_simp; try with_reducible rfl) ?_
  try simp only [Act.put, List.setIfInBounds_toArray, List.set_cons_zero, List.set_cons_succ]
  have hcell := cell_after own9 (Below.refl _ _)
  refine rtake 33 rfl (by rfl) (by kernel_rfl) (by kernel_rfl) (by kernel_rfl) (fun _ _ _ h => h) hHeld (fun wx hwx => by go_simp; try with_reducible rfl) ?_
  try simp only [Act.put, List.setIfInBounds_toArray, List.set_cons_zero, List.set_cons_succ]
  refine rtake 34 rfl (by rfl) (by kernel_rfl) (by kernel_rfl) (by kernel_rfl) (fun _ _ _ h => h) hHeld (fun wx hwx => by go_simp; try with_reducible rfl) ?_
  try simp only [Act.put, List.setIfInBounds_toArray, List.set_cons_zero, List.set_cons_succ]
  refine rtake 35 rfl (by rfl) (by kernel_rfl) (by kernel_rfl) (by kernel_rfl) (fun _ _ _ h => h) hHeld (fun wx hwx => by go_simp; try with_reducible rfl) ?_
  try simp only [Act.put, List.setIfInBounds_toArray, List.set_cons_zero, List.set_cons_succ]
  refine rtake 36 rfl (by rfl) (by kernel_rfl) (by kernel_rfl) (by kernel_rfl) (fun _ _ _ h => h) hHeld (fun wx hwx => by go_simp; try with_reducible rfl) ?_
  try simp only [Act.put, List.setIfInBounds_toArray, List.set_cons_zero, List.set_cons_succ]
  -- CALL 37: some 70 := Op.call { callee := Callee.value (Operand.func 14), args := #[], argTypes := #[] }
  refine rcall 37 rfl (by kernel_rfl) (by rfl) (fun K hK => ?_)
  go_simp
  refine (awake07_any _).mono ?_
  rintro e wx37 ⟨rfl, hbel⟩
  replace own9 := own9.below hbel
  replace hX9 := hX9.below hbel
  refine hK.out _ _ hbel ?_
  clear hK K
  refine wpAnyH_mono (S' := fun w' => Below wx37.heap.size wx37 w') (fun w' h => bnext hbel h) _ _ _ _ ?_
  have hH := Below.refl wx37.heap.size wx37
  have hW := bnext hbW hbel
  clear hbel hbW hHeld
  have hHeld := hH
  have hbW := hW
  clear hH hW
  have hsz37 := hbW.size
  replace hcC := fun wx h => HC.out wx (bnext hbW h)
  try simp only [Act.put, List.setIfInBounds_toArray, List.set_cons_zero, List.set_cons_succ]
  refine rtake 38 rfl (by rfl) (by kernel_rfl) (by kernel_rfl) (by kernel_rfl) (fun _ _ _ h => h) hHeld (fun wx hwx => by go_simp; try with_reducible rfl) ?_
  try simp only [Act.put, List.setIfInBounds_toArray, List.set_cons_zero, List.set_cons_succ]
  refine rtake 39 rfl (by rfl) (by kernel_rfl) (by kernel_rfl) (by kernel_rfl) (fun _ _ _ h => h) hHeld (fun wx hwx => by go_simp; try with_reducible rfl) ?_
  try simp only [Act.put, List.setIfInBounds_toArray, List.set_cons_zero, List.set_cons_succ]
  refine wpAnyH_done (by kernel_rfl) ?_ _
  go_wp2_with fail
  go_ret
  exact ⟨rfl, bnext hbw hbW⟩

set_option maxRecDepth 100000 in
set_option maxHeartbeats 8000000 in
theorem bodyPuts_yes {w : World} (v0 : Value) (l : List UInt8) (b0 : Bytes w v0 l) (r0 : l.length ≤ 140737488351232) (h : Hd) (d : Bd) (hok : MsgOk h d) (hm : checkM h d = true) :
    Calls Try.prog 3 #[v0, .agg (msgF h d).toArray] w fun e w' => e = .returned (.bool true) ∧ Below w.heap.size w w' := by
  have h99 := fun wx : World => (Own.lit wx [99] (by decide)).bytes
  have hck := fun wx => checkM_any h d wx
  have hrk := fun wx => refCheckM_any h d wx
  simp only [hm] at hck hrk
  have HCk := hid hck
  have HRk := hid hrk
  clear hck hrk
  have HB0 := hid fun (w' : World) (h : Below w.heap.size w w') => b0.below h
  obtain ⟨p0, cap0, rfl, -, -, -⟩ := b0
  go_enter Try.func3, Try.ntmps3
  go_upto_region 1 with fail
  obtain ⟨W, hWe, hbw, hBox⟩ := box_msg w (msgF h d)
  rw [← hWe]
  clear hWe
  have HBx := hid fun (wx : World) (hx : Below W.heap.size W wx) => hBox.below hx
  have HC := hid fun (wx : World) (hx : Below W.heap.size W wx) => (hBox.hd wx hx).1
  have hn := Own.nil W W.heap.size
  have hb := HB0.out _ hbw
  clear hBox
  go_upto_region 2 with (first
    | (at_builtin; refine wpList_append_bytes (o := ⟨some 11, _, _, _, _, _⟩) rfl _ _ rfl rfl W.heap.size _ _ [] l rfl rfl hn hb ?_ (Nat.le_refl _) ?_; (simp; omega); intro c1 wa own1 bel1; rw [List.nil_append] at own1; have ownA := own1.below (bnew wa (.cells (cellsOf [99]).toArray 5)); have h99a := h99 wa; have hsz := bel1.size)
    | (at_builtin; refine wpList_append_bytes (o := ⟨some 13, _, _, _, _, _⟩) rfl _ _ rfl rfl W.heap.size _ _ l [99] rfl rfl ?_ ?_ ?_ ?_ ?_; assumption; assumption; (simp; omega); (simp; omega); intro c2 wb own2 bel2; obtain ⟨g, cap, rfl, hg1, hg2, hg3, hg4⟩ := own2.form (by simp); have hg5 : l.length + 1 ≤ cap := (by simpa using hg1); clear hg1))
  have hWb : Below W.heap.size W wb := bel1.trans ((bnew wa _).mono hsz |>.trans bel2)
  have hc : Bytes wb (.slice (some ⟨g, 0, none⟩) l.length cap) l := by
    have h := Bytes.cut (w := wb) (b := g) (off := 0) (cap := cap) (l := l ++ [99]) 0 l.length cap hg4 (fun i hi => by rw [Nat.zero_add]; exact own2.cell i hi) (by simp) (by simp; omega) hg3 (by omega)
    simpa using h
  clear h99 hn hb own1 bel1 ownA h99a hsz bel2
  have hBox2 := HBx.out _ hWb
  go_wp2_with (guard_target =~ wpList _ _ _ (⟨some 19, _, _, _, _, _⟩ :: _) _ _; refine wpList_load_msg (op := ⟨some 19, .load _ _, _, _, _, _⟩) (by rfl) _ (by rfl) w.heap.size (by rfl) (msgF h d) _ hBox2 (msgF_length _ _) ?_)
  refine (bodyPut_yes _ l h d _ hc (by omega) hok.2.2.1.1 hok.2.1.1 hm).mono ?_
  rintro e w3 ⟨x3, rfl, own3, hb3⟩
  have hW3 := bnext hWb hb3
  have hBox3 := HBx.out _ hW3
  have own2b := own2.below hb3
  go_wp2_with (guard_target =~ wpList _ _ _ (⟨some 23, _, _, _, _, _⟩ :: _) _ _; refine wpList_load_msg (op := ⟨some 23, .load _ _, _, _, _, _⟩) (by rfl) _ (by rfl) w.heap.size (by rfl) (msgF h d) _ hBox3 (msgF_length _ _) ?_)
  refine (HRk.out _).mono ?_
  rintro e w4 ⟨rfl, hb4⟩
  have hW4 := bnext hW3 hb4
  have own2c := own2b.below hb4
  have HX3 := hid (own3.bytes.below hb4)
  have hBW := HB0.out _ (bnext hbw hW4)
  have hst := hBW.str
  clear hc hBox2 hBox3 own2 own2b hb3 hb4 hW3 hWb own3
  have hBox4 := HBx.out _ hW4
  have hlen := bodyS_length h.ty d
  have hlen2 := lenI_in h.ty
  have hs1 : ¬ 9223372036854775807 < l.length + (bodyS h.ty d).length := by omega
  have Hs1 := hid hs1
  clear hlen hlen2 hs1
  go_wp2_with (guard_target =~ wpList _ _ _ (⟨some 29, _, _, _, _, _⟩ :: _) _ _; refine wpList_load_msg (op := ⟨some 29, .load _ _, _, _, _, _⟩) (by rfl) _ (by rfl) w.heap.size (by rfl) (msgF h d) _ hBox4 (msgF_length _ _) ?_)
  refine (refBodyPut_any h d _ (checkM_head hm).2 hok.2.2.1.1 hok.2.2.1.2 hok.2.1.1 hok.2.1.2).mono ?_
  rintro e w5 ⟨x5, rfl, own5, hb5⟩
  have hW5 := bnext hW4 hb5
  have own2d := own2c.below hb5
  have hst5 := own5.bytes.str
  have HX5 := hid (HX3.out.below hb5)
  have hs1 := Hs1.out
  clear own5 hst hBox4 hW4 own2c hb5 HX3 hBW hm hok
  generalize bodyS h.ty d = L at *
  go_upto_region 7 with fail
  clear hst5 hs1
  try rw [ByteArray.mk_append_mk]
  refine wp_region_held_drew (S := fun w' => Below w5.drew.heap.size w5.drew w') (by kernel_rfl) (Below.refl _ _) ?_
  intro hHeld
  have hbW := bnext hW5 <| Below.drew (Below.refl w5.heap.size w5)
  have own9 := own2d.below (Below.drew (Below.refl w5.heap.size w5))
  have hX9 := HX5.out.below (Below.drew (Below.refl w5.heap.size w5))
  generalize w5.drew = wd at *
  have hcC := fun wx h => HC.out wx (bnext hbW h)
  refine rtake 0 rfl (by rfl) (by kernel_rfl) (by kernel_rfl) (by kernel_rfl) (fun _ _ _ h => h) hHeld (fun wx hwx => exec_load_msg _ rfl w.heap.size rfl (msgF h d) _ (HBx.out wx (bnext hbW hwx)) (msgF_length _ _)) ?_
  try simp only [Act.put, List.setIfInBounds_toArray, List.set_cons_zero, List.set_cons_succ]
  refine rtake 2 rfl (by rfl) (by kernel_rfl) (by kernel_rfl) (by kernel_rfl) (fun _ _ _ h => h) hHeld (fun wx hwx => by go_simp; try with_reducible rfl) ?_
  try simp only [Act.put, List.setIfInBounds_toArray, List.set_cons_zero, List.set_cons_succ]
  -- CALL 1: some 34 := Op.call { callee := Callee.value (Operand.func 11), args := #[Operand.tmp 33], argTypes := #[29] }
  refine rcall 1 rfl (by kernel_rfl) (by rfl) (fun K hK => ?_)
  go_simp
  refine (HCk.out _).mono ?_
  rintro e wx1 ⟨rfl, hbel⟩
  replace own9 := own9.below hbel
  replace hX9 := hX9.below hbel
  refine hK.out _ _ hbel ?_
  clear hK K
  refine wpAnyH_mono (S' := fun w' => Below wx1.heap.size wx1 w') (fun w' h => bnext hbel h) _ _ _ _ ?_
  have hH := Below.refl wx1.heap.size wx1
  have hW := bnext hbW hbel
  clear hbel hbW hHeld
  have hHeld := hH
  have hbW := hW
  clear hH hW
  have hsz1 := hbW.size
  replace hcC := fun wx h => HC.out wx (bnext hbW h)
  try simp only [Act.put, List.setIfInBounds_toArray, List.set_cons_zero, List.set_cons_succ]
  refine rtake 3 rfl (by rfl) (by kernel_rfl) (by kernel_rfl) (by kernel_rfl) (fun _ _ _ h => h) hHeld (fun wx hwx => by go_simp; try with_reducible rfl) ?_
  try simp only [Act.put, List.setIfInBounds_toArray, List.set_cons_zero, List.set_cons_succ]
  refine rtake 4 rfl (by rfl) (by kernel_rfl) (by kernel_rfl) (by kernel_rfl) (fun _ _ _ h => h) hHeld (fun wx hwx => by go_simp; try with_reducible rfl) ?_
  try simp only [Act.put, List.setIfInBounds_toArray, List.set_cons_zero, List.set_cons_succ]
  refine rtake 5 rfl (by rfl) (by kernel_rfl) (by kernel_rfl) (by kernel_rfl) (fun _ _ _ h => h) hHeld (fun wx hwx => by go_simp; try with_reducible rfl) ?_
  try simp only [Act.put, List.setIfInBounds_toArray, List.set_cons_zero, List.set_cons_succ]
  refine rtake 6 rfl (by rfl) (by kernel_rfl) (by kernel_rfl) (by kernel_rfl) (fun _ _ _ h => h) hHeld (fun wx hwx => by go_simp; try with_reducible rfl) ?_
  try simp only [Act.put, List.setIfInBounds_toArray, List.set_cons_zero, List.set_cons_succ]
  refine rtake 7 rfl (by rfl) (by kernel_rfl) (by kernel_rfl) (by kernel_rfl) (fun _ _ _ h => h) hHeld (fun wx hwx => by go_simp; try with_reducible rfl) ?_
  try simp only [Act.put, List.setIfInBounds_toArray, List.set_cons_zero, List.set_cons_succ]
  refine rtake 8 rfl (by rfl) (by kernel_rfl) (by kernel_rfl) (by kernel_rfl) (fun _ _ _ h => h) hHeld (fun wx hwx => by go_simp; try with_reducible rfl) ?_
  try simp only [Act.put, List.setIfInBounds_toArray, List.set_cons_zero, List.set_cons_succ]
  refine rtake 9 rfl (by rfl) (by kernel_rfl) (by kernel_rfl) (by kernel_rfl) (fun _ _ _ h => h) hHeld (fun wx hwx => by go_simp; try with_reducible rfl) ?_
  try simp only [Act.put, List.setIfInBounds_toArray, List.set_cons_zero, List.set_cons_succ]
  refine rtake 10 rfl (by rfl) (by kernel_rfl) (by kernel_rfl) (by kernel_rfl) (fun _ _ _ h => h) hHeld (fun wx hwx => by go_simp; try with_reducible rfl) ?_
  try simp only [Act.put, List.setIfInBounds_toArray, List.set_cons_zero, List.set_cons_succ]
  have hstx := hX9.strs
  refine rtake 11 rfl (by rfl) (by kernel_rfl) (by kernel_rfl) (by kernel_rfl) (fun _ _ _ h => h) hHeld (fun wx hwx => by go_simp; try with_reducible rfl) ?_
  try simp only [Act.put, List.setIfInBounds_toArray, List.set_cons_zero, List.set_cons_succ]
  refine rtake 12 rfl (by rfl) (by kernel_rfl) (by kernel_rfl) (by kernel_rfl) (fun _ _ _ h => h) hHeld (fun wx hwx => by go_simp; try with_reducible rfl) ?_
  try simp only [Act.put, List.setIfInBounds_toArray, List.set_cons_zero, List.set_cons_succ]
  refine rtake 13 rfl (by rfl) (by kernel_rfl) (by kernel_rfl) (by kernel_rfl) (fun _ _ _ h => h) hHeld (fun wx hwx => by go_simp; try with_reducible rfl) ?_
  try simp only [Act.put, List.setIfInBounds_toArray, List.set_cons_zero, List.set_cons_succ]
  refine rtake 14 rfl (by rfl) (by kernel_rfl) (by kernel_rfl) (by kernel_rfl) (fun _ _ _ h => h) hHeld (fun wx hwx => by go_simp; try with_reducible rfl) ?_
  try simp only [Act.put, List.setIfInBounds_toArray, List.set_cons_zero, List.set_cons_succ]
  refine rtake 15 rfl (by rfl) (by kernel_rfl) (by kernel_rfl) (by kernel_rfl) (fun _ _ _ h => h) hHeld (fun wx hwx => by go_simp; try with_reducible rfl) ?_
  try simp only [Act.put, List.setIfInBounds_toArray, List.set_cons_zero, List.set_cons_succ]
  refine rtake 16 rfl (by rfl) (by kernel_rfl) (by kernel_rfl) (by kernel_rfl) (fun _ _ _ h => h) hHeld (fun wx hwx => by go_simp; try with_reducible rfl) ?_
  try simp only [Act.put, List.setIfInBounds_toArray, List.set_cons_zero, List.set_cons_succ]
  refine rtake 17 rfl (by rfl) (by kernel_rfl) (by kernel_rfl) (by kernel_rfl) (fun _ _ _ h => h) hHeld (fun wx hwx => by go_simp; try with_reducible rfl) ?_
  try simp only [Act.put, List.setIfInBounds_toArray, List.set_cons_zero, List.set_cons_succ]
  refine rtake 19 rfl (by rfl) (by kernel_rfl) (by kernel_rfl) (by kernel_rfl) (fun _ _ _ h => h) hHeld (fun wx hwx => by go_simp; try with_reducible rfl) ?_
  try simp only [Act.put, List.setIfInBounds_toArray, List.set_cons_zero, List.set_cons_succ]
  refine rtake 20 rfl (by rfl) (by kernel_rfl) (by kernel_rfl) (by kernel_rfl) (fun _ _ _ h => h) hHeld (fun wx hwx => by go_simp; try with_reducible rfl) ?_
  try simp only [Act.put, List.setIfInBounds_toArray, List.set_cons_zero, List.set_cons_succ]
  -- CALL 18: some 51 := Op.call { callee := Callee.value (Operand.func 12), args := #[Operand.tmp 50], argTypes := #[3] }
  refine rcall 18 rfl (by kernel_rfl) (by rfl) (fun K hK => ?_)
  go_simp
  refine (len_any _ _).mono ?_
  rintro e wx18 ⟨rfl, hbel⟩
  replace own9 := own9.below hbel
  replace hX9 := hX9.below hbel
  refine hK.out _ _ hbel ?_
  clear hK K
  refine wpAnyH_mono (S' := fun w' => Below wx18.heap.size wx18 w') (fun w' h => bnext hbel h) _ _ _ _ ?_
  have hH := Below.refl wx18.heap.size wx18
  have hW := bnext hbW hbel
  clear hbel hbW hHeld
  have hHeld := hH
  have hbW := hW
  clear hH hW
  have hsz18 := hbW.size
  replace hcC := fun wx h => HC.out wx (bnext hbW h)
  try simp only [Act.put, List.setIfInBounds_toArray, List.set_cons_zero, List.set_cons_succ]
  -- CALL 21: some 54 := Op.call { callee := Callee.value (Operand.func 13), args := #[Operand.tmp 53], argTypes := #[3] }
  refine rcall 21 rfl (by kernel_rfl) (by rfl) (fun K hK => ?_)
  go_simp
  refine (refLen_any _ _).mono ?_
  rintro e wx21 ⟨rfl, rfl⟩
  refine hK.out _ _ hHeld ?_
  clear hK K
  try simp only [Act.put, List.setIfInBounds_toArray, List.set_cons_zero, List.set_cons_succ]
  refine rtake 22 rfl (by rfl) (by kernel_rfl) (by kernel_rfl) (by kernel_rfl) (fun _ _ _ h => h) hHeld (fun wx hwx => by go_simp; try with_reducible rfl) ?_
  try simp only [Act.put, List.setIfInBounds_toArray, List.set_cons_zero, List.set_cons_succ]
  refine rtake 23 rfl (by rfl) (by kernel_rfl) (by kernel_rfl) (by kernel_rfl) (fun _ _ _ h => h) hHeld (fun wx hwx => by go_simp; try with_reducible rfl) ?_
  try simp only [Act.put, List.setIfInBounds_toArray, List.set_cons_zero, List.set_cons_succ]
  refine rtake 24 rfl (by rfl) (by kernel_rfl) (by kernel_rfl) (by kernel_rfl) (fun _ _ _ h => h) hHeld (fun wx hwx => by go_simp; try with_reducible rfl) ?_
  try simp only [Act.put, List.setIfInBounds_toArray, List.set_cons_zero, List.set_cons_succ]
  refine rtake 25 rfl (by rfl) (by kernel_rfl) (by kernel_rfl) (by kernel_rfl) (fun _ _ _ h => h) hHeld (fun wx hwx => by go_simp; try with_reducible rfl) ?_
  try simp only [Act.put, List.setIfInBounds_toArray, List.set_cons_zero, List.set_cons_succ]
  refine rtake 26 rfl (by rfl) (by kernel_rfl) (by kernel_rfl) (by kernel_rfl) (fun _ _ _ h => h) hHeld (fun wx hwx => by go_simp; try with_reducible rfl) ?_
  try simp only [Act.put, List.setIfInBounds_toArray, List.set_cons_zero, List.set_cons_succ]
  refine rtake 27 rfl (by rfl) (by kernel_rfl) (by kernel_rfl) (by kernel_rfl) (fun _ _ _ h => h) hHeld (fun wx hwx => by go_simp; try with_reducible rfl) ?_
  try simp only [Act.put, List.setIfInBounds_toArray, List.set_cons_zero, List.set_cons_succ]
  have hw1 : IntKind.i64.wrap ((l.length : Int) + 1) = (l.length : Int) + 1 := IntWalk.i64_in _ (by omega)
  have hw2 : 0 ≤ (l.length : Int) + 1 := by omega
  have hw3 : ((l.length : Int) + 1).toNat = l.length + 1 := by omega
  have hw4 : (l.length : Int) + 1 ≤ (cap : Int) := by omega
  have hw5 : (l.length : Int) < (l.length : Int) + 1 := by omega
  refine rtake 28 rfl (by rfl) (by kernel_rfl) (by kernel_rfl) (by kernel_rfl) (fun _ _ _ h => h) hHeld (fun wx hwx => by go_simp; try with_reducible rfl) ?_
  try simp only [Act.put, List.setIfInBounds_toArray, List.set_cons_zero, List.set_cons_succ]
  refine rtake 29 rfl (by rfl) (by kernel_rfl) (by kernel_rfl) (by kernel_rfl) (fun _ _ _ h => h) hHeld (fun wx hwx => by go_simp; try with_reducible rfl) ?_
  try simp only [Act.put, List.setIfInBounds_toArray, List.set_cons_zero, List.set_cons_succ]
  refine rtake 30 rfl (by rfl) (by kernel_rfl) (by kernel_rfl) (by kernel_rfl) (fun _ _ _ h => h) hHeld (fun wx hwx => by go_simp; try with_reducible rfl) ?_
  try simp only [Act.put, List.setIfInBounds_toArray, List.set_cons_zero, List.set_cons_succ]
  refine rtake 31 rfl (by rfl) (by kernel_rfl) (by kernel_rfl) (by kernel_rfl) (fun _ _ _ h => h) hHeld (fun wx hwx => by go_simp; try with_reducible rfl) ?_
  try simp only [Act.put, List.setIfInBounds_toArray, List.set_cons_zero, List.set_cons_succ]
  refine rtake 32 rfl (by rfl) (by kernel_rfl) (by kernel_rfl) (by kernel_rfl) (fun _ _ _ h => h) hHeld (fun wx hwx => by go_simp; try with_reducible rfl) ?_
  try simp only [Act.put, List.setIfInBounds_toArray, List.set_cons_zero, List.set_cons_succ]
  have hcell := cell_after own9 (Below.refl _ _)
  refine rtake 33 rfl (by rfl) (by kernel_rfl) (by kernel_rfl) (by kernel_rfl) (fun _ _ _ h => h) hHeld (fun wx hwx => by go_simp; try with_reducible rfl) ?_
  try simp only [Act.put, List.setIfInBounds_toArray, List.set_cons_zero, List.set_cons_succ]
  refine rtake 34 rfl (by rfl) (by kernel_rfl) (by kernel_rfl) (by kernel_rfl) (fun _ _ _ h => h) hHeld (fun wx hwx => by go_simp; try with_reducible rfl) ?_
  try simp only [Act.put, List.setIfInBounds_toArray, List.set_cons_zero, List.set_cons_succ]
  refine rtake 35 rfl (by rfl) (by kernel_rfl) (by kernel_rfl) (by kernel_rfl) (fun _ _ _ h => h) hHeld (fun wx hwx => by go_simp; try with_reducible rfl) ?_
  try simp only [Act.put, List.setIfInBounds_toArray, List.set_cons_zero, List.set_cons_succ]
  refine rtake 36 rfl (by rfl) (by kernel_rfl) (by kernel_rfl) (by kernel_rfl) (fun _ _ _ h => h) hHeld (fun wx hwx => by go_simp; try with_reducible rfl) ?_
  try simp only [Act.put, List.setIfInBounds_toArray, List.set_cons_zero, List.set_cons_succ]
  -- CALL 37: some 70 := Op.call { callee := Callee.value (Operand.func 14), args := #[], argTypes := #[] }
  refine rcall 37 rfl (by kernel_rfl) (by rfl) (fun K hK => ?_)
  go_simp
  refine (awake07_any _).mono ?_
  rintro e wx37 ⟨rfl, hbel⟩
  replace own9 := own9.below hbel
  replace hX9 := hX9.below hbel
  refine hK.out _ _ hbel ?_
  clear hK K
  refine wpAnyH_mono (S' := fun w' => Below wx37.heap.size wx37 w') (fun w' h => bnext hbel h) _ _ _ _ ?_
  have hH := Below.refl wx37.heap.size wx37
  have hW := bnext hbW hbel
  clear hbel hbW hHeld
  have hHeld := hH
  have hbW := hW
  clear hH hW
  have hsz37 := hbW.size
  replace hcC := fun wx h => HC.out wx (bnext hbW h)
  try simp only [Act.put, List.setIfInBounds_toArray, List.set_cons_zero, List.set_cons_succ]
  refine rtake 38 rfl (by rfl) (by kernel_rfl) (by kernel_rfl) (by kernel_rfl) (fun _ _ _ h => h) hHeld (fun wx hwx => by go_simp; try with_reducible rfl) ?_
  try simp only [Act.put, List.setIfInBounds_toArray, List.set_cons_zero, List.set_cons_succ]
  refine rtake 39 rfl (by rfl) (by kernel_rfl) (by kernel_rfl) (by kernel_rfl) (fun _ _ _ h => h) hHeld (fun wx hwx => by go_simp; try with_reducible rfl) ?_
  try simp only [Act.put, List.setIfInBounds_toArray, List.set_cons_zero, List.set_cons_succ]
  refine wpAnyH_done (by kernel_rfl) ?_ _
  go_wp2_with fail
  go_ret
  exact ⟨rfl, bnext hbw hbW⟩

theorem bodyPuts_walk {w : World} (v0 : Value) (l : List UInt8) (b0 : Bytes w v0 l) (r0 : l.length ≤ 140737488351232) (h : Hd) (d : Bd) (hok : MsgOk h d) :
    Calls Try.prog 3 #[v0, .agg (msgF h d).toArray] w fun e w' => e = .returned (.bool true) ∧ Below w.heap.size w w' := by
  cases hm : checkM h d
  · exact bodyPuts_no v0 l b0 r0 h d hok hm
  · exact bodyPuts_yes v0 l b0 r0 h d hok hm
end Go.Proofs.Ytpelgbcccgdlbaa