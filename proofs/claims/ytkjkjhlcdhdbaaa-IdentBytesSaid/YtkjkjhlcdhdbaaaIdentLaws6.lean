/- The walk of the law IdentBytes (its region: gen_ident.py). -/
import Derived.Test.YtkjkjhlcdhdbaaaIdentRefb
namespace Go.Proofs.Ytkjkjhlcdhdbaaa
open Go.RowKit Go.Proofs
set_option linter.unusedVariables false
set_option linter.unusedSimpArgs false

theorem cell_after {w : World} {base g cap n : Nat} {l : List UInt8} {c : UInt8} (h : Own w base (.slice (some ⟨g, 0, none⟩) n cap) (l ++ [c])) {w1 : World} (hb : Below w.heap.size w w1) :
    ∀ w', Below w1.heap.size w1 w' → w'.cell? ⟨g, l.length, none⟩ = some (bv c) := by
  intro w' hb'
  have hc := (h.below (bnext hb hb')).cell l.length (by simp)
  simpa using hc

set_option maxRecDepth 100000 in
set_option maxHeartbeats 4000000 in
theorem identBytes_walk {w : World} (v0 : Value) (l : List UInt8) (b0 : Bytes w v0 l) (r0 : l.length ≤ 140737488351232) (c : Int) (wc : (Lit.int .u64 c).wf = true) (p : Int) (wp : (Lit.int .i64 p).wf = true) (a2 : Int) (w2 : (Lit.int .i64 a2).wf = true) :
    Calls Try.prog 3 #[v0, portV c p, .int .i64 a2] w fun e w' => e = .returned (.bool true) ∧ Below w.heap.size w w' := by
  have h99 := fun wx : World => (Own.lit wx [99] (by decide)).bytes
  obtain ⟨hc0, hc1⟩ := u64_of_wf wc
  have Hc := hid (u64_of_wf wc)
  obtain ⟨ha20, ha21⟩ := i64_of_wf w2
  clear wc wp w2
  have hs1 : ¬ 9223372036854775807 < l.length + (portS c p).length := by rw [portS_length]; omega
  obtain ⟨hX, hY⟩ := box2 w (Value.int IntKind.u64 c) (Value.int IntKind.i64 p) 25
  have HX1 := hid hX
  have HY1 := hid hY
  have hb := b0.below (bnew w (Obj.cells #[Value.int IntKind.u64 c, Value.int IntKind.i64 p] 25))
  have hbw := bnew w (Obj.cells #[Value.int IntKind.u64 c, Value.int IntKind.i64 p] 25)
  obtain ⟨W, hW⟩ : ∃ W, W = w.alloc (Obj.cells #[Value.int IntKind.u64 c, Value.int IntKind.i64 p] 25) := ⟨_, rfl⟩
  rw [← hW] at HX1 HY1 hb hbw
  have hn := Own.nil W W.heap.size
  obtain ⟨p0, cap0, rfl, hq1, hq2, hq3⟩ := b0
  have HS1 := hid hs1
  clear hX hY hc0 hc1 hq1 hq2 hq3 hs1
  go_enter Try.func3, Try.ntmps3
  go_wp2_with (first
    | (at_builtin; rw [← hW]; refine wpList_append_bytes (o := ⟨some 17, _, _, _, _, _⟩) rfl _ _ rfl rfl W.heap.size _ _ [] l rfl rfl hn hb ?_ (Nat.le_refl _) ?_; (simp; omega); intro c1 wa own1 bel1; rw [List.nil_append] at own1; have ownA := own1.below (bnew wa (.cells (cellsOf [99]).toArray 5)); have h99a := h99 wa; have hsz := bel1.size)
    | (at_builtin; refine wpList_append_bytes (o := ⟨some 19, _, _, _, _, _⟩) rfl _ _ rfl rfl W.heap.size _ _ l [99] rfl rfl ?_ ?_ ?_ ?_ ?_; assumption; assumption; (simp; omega); (simp; omega); intro c2 wb ownW bel2; obtain ⟨g, cap, rfl, hg1, hg2, hg3, hg4⟩ := ownW.form (by simp); have hg5 : l.length + 1 ≤ cap := (by simpa using hg1); clear hg1))
  have hWb : Below W.heap.size W wb := bel1.trans ((bnew wa (Obj.cells #[Value.int IntKind.u8 99] 5)).mono hsz |>.trans bel2)
  have hbb : Bytes wb (.slice p0 l.length cap0) l := hb.below hWb
  have hc : Bytes wb (.slice (some ⟨g, 0, none⟩) l.length cap) l := by
    have h := Bytes.cut (w := wb) (b := g) (off := 0) (cap := cap) (l := l ++ [99]) 0 l.length cap hg4 (fun i hi => by rw [Nat.zero_add]; exact ownW.cell i hi) (by simp) (by simp; omega) hg3 (by omega)
    simpa using h
  have HOW := hid ownW
  have HWb := hid hWb
  have HBB := hid hbb
  have HC := hid hc
  clear h99 hn hb own1 bel1 ownA h99a hsz bel2 ownW hWb hbb hc hW hg2 hg4
  refine (identGet_any _ l a2 _ HC.out (by omega) ha21).mono ?_
  rintro e w4 ⟨rfl, hb4⟩
  have HN4 := hid (bnext hb4 (bnew w4 (Obj.cells #[.int .u64 (gotC l a2), .int .i64 (gotP l a2)] 25)))
  obtain ⟨hX4, hY4⟩ := box2 w4 (.int .u64 (gotC l a2)) (.int .i64 (gotP l a2)) 25
  have HX4 := hid hX4
  have HY4 := hid hY4
  have HBB4 := hid (HBB.out.below HN4.out)
  clear hX4 hY4 hb4
  go_wp2_with fail
  refine (refIdentGet_any _ l a2 _ HBB4.out (by omega) ha21).mono ?_
  rintro e w5 ⟨rfl, hb5⟩
  have HN5 := hid (bnext hb5 (bnew w5 (Obj.cells #[.int .u64 (gotC l a2), .int .i64 (gotP l a2)] 25)))
  obtain ⟨hX5, hY5⟩ := box2 w5 (.int .u64 (gotC l a2)) (.int .i64 (gotP l a2)) 25
  have HX5 := hid hX5
  have HY5 := hid hY5
  have HBB5 := hid (HBB4.out.below HN5.out)
  clear hX5 hY5 hb5
  generalize gotC l a2 = q0 at *
  generalize gotP l a2 = q1 at *
  generalize gotB l a2 = q2 at *
  go_wp2_with fail
  refine (bytes00_any _ l _ HBB5.out (by omega)).mono ?_
  rintro e w6 ⟨v6, rfl, own6, hb6⟩
  have HN6 := hid hb6
  have HBB6 := hid (HBB5.out.below hb6)
  have HV6 := hid own6.bytes
  clear own6 hb6
  go_wp2_with fail
  refine (fromMac_any _ l _ HV6.out (by omega)).mono ?_
  rintro e w7 ⟨rfl, rfl⟩
  go_wp2_with fail
  refine (refFromMac_any _ l _ HBB6.out (by omega)).mono ?_
  rintro e w8 ⟨rfl, hb8⟩
  generalize macV l = m0 at *
  generalize macB l = m1 at *
  have hn8 := bnext HN6.out hb8
  have hn58 := bnext HN5.out hn8
  have hn48 := bnext HN4.out hn58
  have HX := hid fun wx h => HX1.out wx (bnext HWb.out (bnext hn48 h))
  have HY := hid fun wx h => HY1.out wx (bnext HWb.out (bnext hn48 h))
  have HZ := hid fun wx h => HX4.out wx (bnext hn58 h)
  have HU := hid fun wx h => HY4.out wx (bnext hn58 h)
  have HV := hid fun wx h => HX5.out wx (bnext hn8 h)
  have HT := hid fun wx h => HY5.out wx (bnext hn8 h)
  have HC8 := hid (HC.out.below hn48)
  have HBB8 := hid (HBB6.out.below hb8)
  have HOW8 := hid (HOW.out.below hn48)
  have HN48 := hid hn48
  clear hn8 hn58 hn48 hb8
  go_wp2_with fail
  -- REGION bytes
  refine wp_region_held_drew (S := fun w' => Below w8.drew.heap.size w8.drew w') (by kernel_rfl) (Below.refl _ _) ?_
  intro hHeld
  have hbW := Below.drew (Below.refl w8.heap.size w8)
  generalize w8.drew = wd at *
  have hcX := fun wx h => HX.out wx (bnext hbW h)
  have hcY := fun wx h => HY.out wx (bnext hbW h)
  have hcZ := fun wx h => HZ.out wx (bnext hbW h)
  have hcU := fun wx h => HU.out wx (bnext hbW h)
  have hcV := fun wx h => HV.out wx (bnext hbW h)
  have hcT := fun wx h => HT.out wx (bnext hbW h)
  refine rtake 0 rfl (by rfl) (by kernel_rfl) (by kernel_rfl) (by kernel_rfl) (fun _ _ _ h => h) hHeld (fun wx hwx => by go_simp; try with_reducible rfl) ?_
  try simp only [Act.put, List.setIfInBounds_toArray, List.set_cons_zero, List.set_cons_succ]
  refine rtake 1 rfl (by rfl) (by kernel_rfl) (by kernel_rfl) (by kernel_rfl) (fun _ _ _ h => h) hHeld (fun wx hwx => by go_simp; try with_reducible rfl) ?_
  try simp only [Act.put, List.setIfInBounds_toArray, List.set_cons_zero, List.set_cons_succ]
  refine rtake 4 rfl (by rfl) (by kernel_rfl) (by kernel_rfl) (by kernel_rfl) (fun _ _ _ h => h) hHeld (fun wx hwx => by go_simp; try with_reducible rfl) ?_
  try simp only [Act.put, List.setIfInBounds_toArray, List.set_cons_zero, List.set_cons_succ]
  have hst0 := (HBB8.out.below hbW).strs
  refine rtake 5 rfl (by rfl) (by kernel_rfl) (by kernel_rfl) (by kernel_rfl) (fun _ _ _ h => h) hHeld (fun wx hwx => by go_simp; try with_reducible rfl) ?_
  try simp only [Act.put, List.setIfInBounds_toArray, List.set_cons_zero, List.set_cons_succ]
  refine rtake 6 rfl (by rfl) (by kernel_rfl) (by kernel_rfl) (by kernel_rfl) (fun _ _ _ h => h) hHeld (fun wx hwx => by go_simp; try with_reducible rfl) ?_
  try simp only [Act.put, List.setIfInBounds_toArray, List.set_cons_zero, List.set_cons_succ]
  -- CALL 2: some 48 := Op.call { callee := Callee.value (Operand.func 14), args := #[Operand.tmp 46, Operand.tmp 47], argTypes := #[22, 25] }
  refine rcall 2 rfl (by kernel_rfl) (by rfl) (fun K hK => ?_)
  go_simp
  refine (identPut_any _ l c p _ (HC8.out.below hbW) (by omega) Hc.out.1).mono ?_
  rintro e wx2 ⟨x2, rfl, own2, hbel⟩
  have hst2 := own2.bytes.strs
  refine hK.out _ _ hbel ?_
  clear hK K
  refine wpAnyH_mono (S' := fun w' => Below wx2.heap.size wx2 w') (fun w' h => bnext hbel h) _ _ _ _ ?_
  have hH := Below.refl wx2.heap.size wx2
  have hW := bnext hbW hbel
  clear hbel hbW hHeld
  have hHeld := hH
  have hbW := hW
  clear hH hW
  have hsz2 := hbW.size
  replace hcX := fun wx h => HX.out wx (bnext hbW h)
  replace hcY := fun wx h => HY.out wx (bnext hbW h)
  replace hcZ := fun wx h => HZ.out wx (bnext hbW h)
  replace hcU := fun wx h => HU.out wx (bnext hbW h)
  replace hcV := fun wx h => HV.out wx (bnext hbW h)
  replace hcT := fun wx h => HT.out wx (bnext hbW h)
  try simp only [Act.put, List.setIfInBounds_toArray, List.set_cons_zero, List.set_cons_succ]
  refine rtake 3 rfl (by rfl) (by kernel_rfl) (by kernel_rfl) (by kernel_rfl) (fun _ _ _ h => h) hHeld (fun wx hwx => by go_simp; try with_reducible rfl) ?_
  try simp only [Act.put, List.setIfInBounds_toArray, List.set_cons_zero, List.set_cons_succ]
  -- CALL 7: some 53 := Op.call { callee := Callee.value (Operand.func 15), args := #[Operand.tmp 52], argTypes := #[25] }
  refine rcall 7 rfl (by kernel_rfl) (by rfl) (fun K hK => ?_)
  go_simp
  refine (refIdentPut_any _ _ _ Hc.out.1 Hc.out.2).mono ?_
  rintro e wx7 ⟨x7, rfl, own7, hbel⟩
  have hst7 := own7.bytes.strs
  refine hK.out _ _ hbel ?_
  clear hK K
  refine wpAnyH_mono (S' := fun w' => Below wx7.heap.size wx7 w') (fun w' h => bnext hbel h) _ _ _ _ ?_
  have hH := Below.refl wx7.heap.size wx7
  have hW := bnext hbW hbel
  clear hbel hbW hHeld
  have hHeld := hH
  have hbW := hW
  clear hH hW
  have hsz7 := hbW.size
  replace hcX := fun wx h => HX.out wx (bnext hbW h)
  replace hcY := fun wx h => HY.out wx (bnext hbW h)
  replace hcZ := fun wx h => HZ.out wx (bnext hbW h)
  replace hcU := fun wx h => HU.out wx (bnext hbW h)
  replace hcV := fun wx h => HV.out wx (bnext hbW h)
  replace hcT := fun wx h => HT.out wx (bnext hbW h)
  try simp only [Act.put, List.setIfInBounds_toArray, List.set_cons_zero, List.set_cons_succ]
  refine rtake 8 rfl (by rfl) (by kernel_rfl) (by kernel_rfl) (by kernel_rfl) (fun _ _ _ h => h) hHeld (fun wx hwx => by go_simp; try with_reducible rfl) ?_
  try simp only [Act.put, List.setIfInBounds_toArray, List.set_cons_zero, List.set_cons_succ]
  have hs1 := HS1.out
  refine rtake 9 rfl (by rfl) (by kernel_rfl) (by kernel_rfl) (by kernel_rfl) (fun _ _ _ h => h) hHeld (fun wx hwx => by go_simp; try with_reducible rfl) ?_
  try simp only [Act.put, List.setIfInBounds_toArray, List.set_cons_zero, List.set_cons_succ]
  rw [ByteArray.mk_append_mk]
  refine rtake 10 rfl (by rfl) (by kernel_rfl) (by kernel_rfl) (by kernel_rfl) (fun _ _ _ h => h) hHeld (fun wx hwx => by go_simp; try with_reducible rfl) ?_
  try simp only [Act.put, List.setIfInBounds_toArray, List.set_cons_zero, List.set_cons_succ]
  refine rtake 11 rfl (by rfl) (by kernel_rfl) (by kernel_rfl) (by kernel_rfl) (fun _ _ _ h => h) hHeld (fun wx hwx => by go_simp; try with_reducible rfl) ?_
  try simp only [Act.put, List.setIfInBounds_toArray, List.set_cons_zero, List.set_cons_succ]
  refine rtake 12 rfl (by rfl) (by kernel_rfl) (by kernel_rfl) (by kernel_rfl) (fun _ _ _ h => h) hHeld (fun wx hwx => by go_simp; try with_reducible rfl) ?_
  try simp only [Act.put, List.setIfInBounds_toArray, List.set_cons_zero, List.set_cons_succ]
  refine rtake 14 rfl (by rfl) (by kernel_rfl) (by kernel_rfl) (by kernel_rfl) (fun _ _ _ h => h) hHeld (fun wx hwx => by go_simp; try with_reducible rfl) ?_
  try simp only [Act.put, List.setIfInBounds_toArray, List.set_cons_zero, List.set_cons_succ]
  -- CALL 13: some 59 := Op.call { callee := Callee.value (Operand.func 16), args := #[Operand.tmp 58], argTypes := #[25] }
  refine rcall 13 rfl (by kernel_rfl) (by rfl) (fun K hK => ?_)
  go_simp
  refine (identMay_any _ _ _).mono ?_
  rintro e wx13 ⟨rfl, hbel⟩
  refine hK.out _ _ hbel ?_
  clear hK K
  refine wpAnyH_mono (S' := fun w' => Below wx13.heap.size wx13 w') (fun w' h => bnext hbel h) _ _ _ _ ?_
  have hH := Below.refl wx13.heap.size wx13
  have hW := bnext hbW hbel
  clear hbel hbW hHeld
  have hHeld := hH
  have hbW := hW
  clear hH hW
  have hsz13 := hbW.size
  replace hcX := fun wx h => HX.out wx (bnext hbW h)
  replace hcY := fun wx h => HY.out wx (bnext hbW h)
  replace hcZ := fun wx h => HZ.out wx (bnext hbW h)
  replace hcU := fun wx h => HU.out wx (bnext hbW h)
  replace hcV := fun wx h => HV.out wx (bnext hbW h)
  replace hcT := fun wx h => HT.out wx (bnext hbW h)
  try simp only [Act.put, List.setIfInBounds_toArray, List.set_cons_zero, List.set_cons_succ]
  -- CALL 15: some 61 := Op.call { callee := Callee.value (Operand.func 17), args := #[Operand.tmp 60], argTypes := #[25] }
  refine rcall 15 rfl (by kernel_rfl) (by rfl) (fun K hK => ?_)
  go_simp
  refine (refIdentMay_any _ _ _).mono ?_
  rintro e wx15 ⟨rfl, hbel⟩
  refine hK.out _ _ hbel ?_
  clear hK K
  refine wpAnyH_mono (S' := fun w' => Below wx15.heap.size wx15 w') (fun w' h => bnext hbel h) _ _ _ _ ?_
  have hH := Below.refl wx15.heap.size wx15
  have hW := bnext hbW hbel
  clear hbel hbW hHeld
  have hHeld := hH
  have hbW := hW
  clear hH hW
  have hsz15 := hbW.size
  replace hcX := fun wx h => HX.out wx (bnext hbW h)
  replace hcY := fun wx h => HY.out wx (bnext hbW h)
  replace hcZ := fun wx h => HZ.out wx (bnext hbW h)
  replace hcU := fun wx h => HU.out wx (bnext hbW h)
  replace hcV := fun wx h => HV.out wx (bnext hbW h)
  replace hcT := fun wx h => HT.out wx (bnext hbW h)
  try simp only [Act.put, List.setIfInBounds_toArray, List.set_cons_zero, List.set_cons_succ]
  refine rtake 16 rfl (by rfl) (by kernel_rfl) (by kernel_rfl) (by kernel_rfl) (fun _ _ _ h => h) hHeld (fun wx hwx => by go_simp; try with_reducible rfl) ?_
  try simp only [Act.put, List.setIfInBounds_toArray, List.set_cons_zero, List.set_cons_succ]
  refine rtake 17 rfl (by rfl) (by kernel_rfl) (by kernel_rfl) (by kernel_rfl) (fun _ _ _ h => h) hHeld (fun wx hwx => by go_simp; try with_reducible rfl) ?_
  try simp only [Act.put, List.setIfInBounds_toArray, List.set_cons_zero, List.set_cons_succ]
  refine rtake 18 rfl (by rfl) (by kernel_rfl) (by kernel_rfl) (by kernel_rfl) (fun _ _ _ h => h) hHeld (fun wx hwx => by go_simp; try with_reducible rfl) ?_
  try simp only [Act.put, List.setIfInBounds_toArray, List.set_cons_zero, List.set_cons_succ]
  refine rtake 19 rfl (by rfl) (by kernel_rfl) (by kernel_rfl) (by kernel_rfl) (fun _ _ _ h => h) hHeld (fun wx hwx => by go_simp; try with_reducible rfl) ?_
  try simp only [Act.put, List.setIfInBounds_toArray, List.set_cons_zero, List.set_cons_succ]
  refine rtake 20 rfl (by rfl) (by kernel_rfl) (by kernel_rfl) (by kernel_rfl) (fun _ _ _ h => h) hHeld (fun wx hwx => by go_simp; try with_reducible rfl) ?_
  try simp only [Act.put, List.setIfInBounds_toArray, List.set_cons_zero, List.set_cons_succ]
  refine rtake 21 rfl (by rfl) (by kernel_rfl) (by kernel_rfl) (by kernel_rfl) (fun _ _ _ h => h) hHeld (fun wx hwx => by go_simp; try with_reducible rfl) ?_
  try simp only [Act.put, List.setIfInBounds_toArray, List.set_cons_zero, List.set_cons_succ]
  refine rtake 22 rfl (by rfl) (by kernel_rfl) (by kernel_rfl) (by kernel_rfl) (fun _ _ _ h => h) hHeld (fun wx hwx => by go_simp; try with_reducible rfl) ?_
  try simp only [Act.put, List.setIfInBounds_toArray, List.set_cons_zero, List.set_cons_succ]
  refine rtake 23 rfl (by rfl) (by kernel_rfl) (by kernel_rfl) (by kernel_rfl) (fun _ _ _ h => h) hHeld (fun wx hwx => by go_simp; try with_reducible rfl) ?_
  try simp only [Act.put, List.setIfInBounds_toArray, List.set_cons_zero, List.set_cons_succ]
  refine rtake 24 rfl (by rfl) (by kernel_rfl) (by kernel_rfl) (by kernel_rfl) (fun _ _ _ h => h) hHeld (fun wx hwx => by go_simp; try with_reducible rfl) ?_
  try simp only [Act.put, List.setIfInBounds_toArray, List.set_cons_zero, List.set_cons_succ]
  refine rtake 25 rfl (by rfl) (by kernel_rfl) (by kernel_rfl) (by kernel_rfl) (fun _ _ _ h => h) hHeld (fun wx hwx => by go_simp; try with_reducible rfl) ?_
  try simp only [Act.put, List.setIfInBounds_toArray, List.set_cons_zero, List.set_cons_succ]
  refine rtake 26 rfl (by rfl) (by kernel_rfl) (by kernel_rfl) (by kernel_rfl) (fun _ _ _ h => h) hHeld (fun wx hwx => by go_simp; try with_reducible rfl) ?_
  try simp only [Act.put, List.setIfInBounds_toArray, List.set_cons_zero, List.set_cons_succ]
  refine rtake 27 rfl (by rfl) (by kernel_rfl) (by kernel_rfl) (by kernel_rfl) (fun _ _ _ h => h) hHeld (fun wx hwx => by go_simp; try with_reducible rfl) ?_
  try simp only [Act.put, List.setIfInBounds_toArray, List.set_cons_zero, List.set_cons_succ]
  refine rtake 28 rfl (by rfl) (by kernel_rfl) (by kernel_rfl) (by kernel_rfl) (fun _ _ _ h => h) hHeld (fun wx hwx => by go_simp; try with_reducible rfl) ?_
  try simp only [Act.put, List.setIfInBounds_toArray, List.set_cons_zero, List.set_cons_succ]
  refine rtake 29 rfl (by rfl) (by kernel_rfl) (by kernel_rfl) (by kernel_rfl) (fun _ _ _ h => h) hHeld (fun wx hwx => by go_simp; try with_reducible rfl) ?_
  try simp only [Act.put, List.setIfInBounds_toArray, List.set_cons_zero, List.set_cons_succ]
  refine rtake 30 rfl (by rfl) (by kernel_rfl) (by kernel_rfl) (by kernel_rfl) (fun _ _ _ h => h) hHeld (fun wx hwx => by go_simp; try with_reducible rfl) ?_
  try simp only [Act.put, List.setIfInBounds_toArray, List.set_cons_zero, List.set_cons_succ]
  refine rtake 31 rfl (by rfl) (by kernel_rfl) (by kernel_rfl) (by kernel_rfl) (fun _ _ _ h => h) hHeld (fun wx hwx => by go_simp; try with_reducible rfl) ?_
  try simp only [Act.put, List.setIfInBounds_toArray, List.set_cons_zero, List.set_cons_succ]
  refine rtake 32 rfl (by rfl) (by kernel_rfl) (by kernel_rfl) (by kernel_rfl) (fun _ _ _ h => h) hHeld (fun wx hwx => by go_simp; try with_reducible rfl) ?_
  try simp only [Act.put, List.setIfInBounds_toArray, List.set_cons_zero, List.set_cons_succ]
  refine rtake 33 rfl (by rfl) (by kernel_rfl) (by kernel_rfl) (by kernel_rfl) (fun _ _ _ h => h) hHeld (fun wx hwx => by go_simp; try with_reducible rfl) ?_
  try simp only [Act.put, List.setIfInBounds_toArray, List.set_cons_zero, List.set_cons_succ]
  refine rtake 34 rfl (by rfl) (by kernel_rfl) (by kernel_rfl) (by kernel_rfl) (fun _ _ _ h => h) hHeld (fun wx hwx => by go_simp; try with_reducible rfl) ?_
  try simp only [Act.put, List.setIfInBounds_toArray, List.set_cons_zero, List.set_cons_succ]
  refine rtake 35 rfl (by rfl) (by kernel_rfl) (by kernel_rfl) (by kernel_rfl) (fun _ _ _ h => h) hHeld (fun wx hwx => by go_simp; try with_reducible rfl) ?_
  try simp only [Act.put, List.setIfInBounds_toArray, List.set_cons_zero, List.set_cons_succ]
  refine rtake 36 rfl (by rfl) (by kernel_rfl) (by kernel_rfl) (by kernel_rfl) (fun _ _ _ h => h) hHeld (fun wx hwx => by go_simp; try with_reducible rfl) ?_
  try simp only [Act.put, List.setIfInBounds_toArray, List.set_cons_zero, List.set_cons_succ]
  refine rtake 37 rfl (by rfl) (by kernel_rfl) (by kernel_rfl) (by kernel_rfl) (fun _ _ _ h => h) hHeld (fun wx hwx => by go_simp; try with_reducible rfl) ?_
  try simp only [Act.put, List.setIfInBounds_toArray, List.set_cons_zero, List.set_cons_succ]
  refine rtake 38 rfl (by rfl) (by kernel_rfl) (by kernel_rfl) (by kernel_rfl) (fun _ _ _ h => h) hHeld (fun wx hwx => by go_simp; try with_reducible rfl) ?_
  try simp only [Act.put, List.setIfInBounds_toArray, List.set_cons_zero, List.set_cons_succ]
  refine rtake 39 rfl (by rfl) (by kernel_rfl) (by kernel_rfl) (by kernel_rfl) (fun _ _ _ h => h) hHeld (fun wx hwx => by go_simp; try with_reducible rfl) ?_
  try simp only [Act.put, List.setIfInBounds_toArray, List.set_cons_zero, List.set_cons_succ]
  refine rtake 40 rfl (by rfl) (by kernel_rfl) (by kernel_rfl) (by kernel_rfl) (fun _ _ _ h => h) hHeld (fun wx hwx => by go_simp; try with_reducible rfl) ?_
  try simp only [Act.put, List.setIfInBounds_toArray, List.set_cons_zero, List.set_cons_succ]
  refine rtake 41 rfl (by rfl) (by kernel_rfl) (by kernel_rfl) (by kernel_rfl) (fun _ _ _ h => h) hHeld (fun wx hwx => by go_simp; try with_reducible rfl) ?_
  try simp only [Act.put, List.setIfInBounds_toArray, List.set_cons_zero, List.set_cons_succ]
  have hw1 : IntKind.i64.wrap ((l.length : Int) + 1) = (l.length : Int) + 1 := IntWalk.i64_in _ (by omega)
  have hw2 : 0 ≤ (l.length : Int) + 1 := by omega
  have hw3 : ((l.length : Int) + 1).toNat = l.length + 1 := by omega
  have hw4 : (l.length : Int) + 1 ≤ (cap : Int) := by omega
  have hw5 : (l.length : Int) < (l.length : Int) + 1 := by omega
  refine rtake 42 rfl (by rfl) (by kernel_rfl) (by kernel_rfl) (by kernel_rfl) (fun _ _ _ h => h) hHeld (fun wx hwx => by go_simp; try with_reducible rfl) ?_
  try simp only [Act.put, List.setIfInBounds_toArray, List.set_cons_zero, List.set_cons_succ]
  refine rtake 43 rfl (by rfl) (by kernel_rfl) (by kernel_rfl) (by kernel_rfl) (fun _ _ _ h => h) hHeld (fun wx hwx => by go_simp; try with_reducible rfl) ?_
  try simp only [Act.put, List.setIfInBounds_toArray, List.set_cons_zero, List.set_cons_succ]
  refine rtake 44 rfl (by rfl) (by kernel_rfl) (by kernel_rfl) (by kernel_rfl) (fun _ _ _ h => h) hHeld (fun wx hwx => by go_simp; try with_reducible rfl) ?_
  try simp only [Act.put, List.setIfInBounds_toArray, List.set_cons_zero, List.set_cons_succ]
  refine rtake 45 rfl (by rfl) (by kernel_rfl) (by kernel_rfl) (by kernel_rfl) (fun _ _ _ h => h) hHeld (fun wx hwx => by go_simp; try with_reducible rfl) ?_
  try simp only [Act.put, List.setIfInBounds_toArray, List.set_cons_zero, List.set_cons_succ]
  refine rtake 46 rfl (by rfl) (by kernel_rfl) (by kernel_rfl) (by kernel_rfl) (fun _ _ _ h => h) hHeld (fun wx hwx => by go_simp; try with_reducible rfl) ?_
  try simp only [Act.put, List.setIfInBounds_toArray, List.set_cons_zero, List.set_cons_succ]
  have hcell := cell_after HOW8.out hbW
  refine rtake 47 rfl (by rfl) (by kernel_rfl) (by kernel_rfl) (by kernel_rfl) (fun _ _ _ h => h) hHeld (fun wx hwx => by go_simp; try with_reducible rfl) ?_
  try simp only [Act.put, List.setIfInBounds_toArray, List.set_cons_zero, List.set_cons_succ]
  refine rtake 48 rfl (by rfl) (by kernel_rfl) (by kernel_rfl) (by kernel_rfl) (fun _ _ _ h => h) hHeld (fun wx hwx => by go_simp; try with_reducible rfl) ?_
  try simp only [Act.put, List.setIfInBounds_toArray, List.set_cons_zero, List.set_cons_succ]
  refine rtake 49 rfl (by rfl) (by kernel_rfl) (by kernel_rfl) (by kernel_rfl) (fun _ _ _ h => h) hHeld (fun wx hwx => by go_simp; try with_reducible rfl) ?_
  try simp only [Act.put, List.setIfInBounds_toArray, List.set_cons_zero, List.set_cons_succ]
  refine rtake 50 rfl (by rfl) (by kernel_rfl) (by kernel_rfl) (by kernel_rfl) (fun _ _ _ h => h) hHeld (fun wx hwx => by go_simp; try with_reducible rfl) ?_
  try simp only [Act.put, List.setIfInBounds_toArray, List.set_cons_zero, List.set_cons_succ]
  -- CALL 51: some 97 := Op.call { callee := Callee.value (Operand.func 18), args := #[], argTypes := #[] }
  refine rcall 51 rfl (by kernel_rfl) (by rfl) (fun K hK => ?_)
  go_simp
  refine (awake04_any _).mono ?_
  rintro e wx51 ⟨rfl, hbel⟩
  refine hK.out _ _ hbel ?_
  clear hK K
  refine wpAnyH_mono (S' := fun w' => Below wx51.heap.size wx51 w') (fun w' h => bnext hbel h) _ _ _ _ ?_
  have hH := Below.refl wx51.heap.size wx51
  have hW := bnext hbW hbel
  clear hbel hbW hHeld
  have hHeld := hH
  have hbW := hW
  clear hH hW
  have hsz51 := hbW.size
  replace hcX := fun wx h => HX.out wx (bnext hbW h)
  replace hcY := fun wx h => HY.out wx (bnext hbW h)
  replace hcZ := fun wx h => HZ.out wx (bnext hbW h)
  replace hcU := fun wx h => HU.out wx (bnext hbW h)
  replace hcV := fun wx h => HV.out wx (bnext hbW h)
  replace hcT := fun wx h => HT.out wx (bnext hbW h)
  try simp only [Act.put, List.setIfInBounds_toArray, List.set_cons_zero, List.set_cons_succ]
  refine rtake 52 rfl (by rfl) (by kernel_rfl) (by kernel_rfl) (by kernel_rfl) (fun _ _ _ h => h) hHeld (fun wx hwx => by go_simp; try with_reducible rfl) ?_
  try simp only [Act.put, List.setIfInBounds_toArray, List.set_cons_zero, List.set_cons_succ]
  refine rtake 53 rfl (by rfl) (by kernel_rfl) (by kernel_rfl) (by kernel_rfl) (fun _ _ _ h => h) hHeld (fun wx hwx => by go_simp; try with_reducible rfl) ?_
  try simp only [Act.put, List.setIfInBounds_toArray, List.set_cons_zero, List.set_cons_succ]
  refine wpAnyH_done (by kernel_rfl) ?_ _
  -- END REGION bytes
  go_wp2_with fail
  go_ret
  exact ⟨rfl, bnext hbw (bnext HWb.out (bnext HN48.out hbW))⟩
end Go.Proofs.Ytkjkjhlcdhdbaaa
