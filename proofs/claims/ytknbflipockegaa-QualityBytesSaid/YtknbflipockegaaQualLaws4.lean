/- The walk of the law QualityBytes (its region: gen_quality.py). -/
import Derived.Test.YtknbflipockegaaQualRef
import Derived.Test.YtknbflipockegaaQualLaws
import Derived.Test.YtknbflipockegaaQualOrd
namespace Go.Proofs.Ytknbflipockegaa
open Go.RowKit Go.Proofs
set_option linter.unusedVariables false
set_option linter.unusedSimpArgs false

theorem qcell_after {w : World} {base g cap n : Nat} {l : List UInt8} {c : UInt8} (h : Own w base (.slice (some ⟨g, 0, none⟩) n cap) (l ++ [c])) {w1 : World} (hb : Below w.heap.size w w1) :
    ∀ w', Below w1.heap.size w1 w' → w'.cell? ⟨g, l.length, none⟩ = some (bv c) := by
  intro w' hb'
  have hc := (h.below (bnext hb hb')).cell l.length (by simp)
  simpa using hc

/-- What is put is got. -/
theorem gotQ_back {c a v : Int} (m : mayQ c a v = true) : gotQB (qualS c a v) 0 = true ∧ gotQC (qualS c a v) 0 = c ∧ gotQA (qualS c a v) 0 = a ∧ gotQV (qualS c a v) 0 = v := by
  obtain ⟨m1, m2, m3⟩ := mayQ_iff.1 m
  rw [in1_iff] at m1 m2
  rw [in2_iff] at m3
  have h4 : standB (qualS c a v).length 0 4 = true := by rw [qualS_length]; exact standB_true (by decide) (by decide) (by decide)
  obtain ⟨e1, e2, e3, e4⟩ := gotQ_yes h4
  have hc := num_putS c 1 (by decide) (by decide)
  have ha := num_putS a 1 (by decide) (by decide)
  have hv := num_putS v 2 (by decide) (by decide)
  have l1 := putS1 c
  have l2 := putS1 a
  have l3 := putS2 v
  rw [e1, e2, e3, e4]
  unfold numAt qualS
  generalize putS c 1 = C at *
  generalize putS a 1 = A at *
  generalize putS v 2 = V at *
  match C, l1 with
  | [x], _ => match A, l2 with
    | [y], _ => match V, l3 with
      | [z, u], _ =>
        refine ⟨rfl, ?_, ?_, ?_⟩
        · show ((num [x] : Nat) : Int) = c
          rw [hc]; simp; omega
        · show ((num [y] : Nat) : Int) = a
          rw [ha]; simp; omega
        · show ((num [z, u] : Nat) : Int) = v
          rw [hv]; simp; omega

set_option maxRecDepth 100000 in
set_option maxHeartbeats 4000000 in
theorem qualityBytes_walk {w : World} (v0 : Value) (l : List UInt8) (b0 : Bytes w v0 l) (r0 : l.length ≤ 140737488351232) (c : Int) (wc : (Lit.int .i64 c).wf = true) (a : Int) (wa : (Lit.int .i64 a).wf = true) (v : Int) (wv : (Lit.int .i64 v).wf = true) (a2 : Int) (w2 : (Lit.int .i64 a2).wf = true) :
    Calls Try.prog 3 #[v0, qualV c a v, .int .i64 a2] w fun e w' => e = .returned (.bool true) ∧ Below w.heap.size w w' := by
  have h99 := fun wx : World => (Own.lit wx [99] (by decide)).bytes
  obtain ⟨ha20, ha21⟩ := i64_of_wf w2
  clear wc wa wv w2
  have hs1 : ¬ 9223372036854775807 < l.length + (qualS c a v).length := by rw [qualS_length]; omega
  obtain ⟨W, hW, hbw, HX1, HY1, HZ1⟩ := qbox1 w c a v
  have hb := b0.below hbw
  have hn := Own.nil W W.heap.size
  obtain ⟨p0, cap0, rfl, hq1, hq2, hq3⟩ := b0
  have HS1 := hid hs1
  have Hr0 := hid r0
  clear hq1 hq2 hq3 hs1
  go_enter Try.func3, Try.ntmps3
  go_wp2_with (first
    | (at_builtin; rw [← hW]; refine wpList_append_bytes (o := ⟨some 15, _, _, _, _, _⟩) rfl _ _ rfl rfl W.heap.size _ _ [] l rfl rfl hn hb ?_ (Nat.le_refl _) ?_; (simp; omega); intro c1 wa own1 bel1; rw [List.nil_append] at own1; have ownA := own1.below (bnew wa (.cells (cellsOf [99]).toArray 5)); have h99a := h99 wa; have hsz := bel1.size)
    | (at_builtin; refine wpList_append_bytes (o := ⟨some 17, _, _, _, _, _⟩) rfl _ _ rfl rfl W.heap.size _ _ l [99] rfl rfl ?_ ?_ ?_ ?_ ?_; assumption; assumption; (simp; omega); (simp; omega); intro c2 wb ownW bel2; obtain ⟨g, cap, rfl, hg1, hg2, hg3, hg4⟩ := ownW.form (by simp); have hg5 : l.length + 1 ≤ cap := (by simpa using hg1); clear hg1))
  have hWb : Below W.heap.size W wb := bel1.trans ((bnew wa (Obj.cells #[Value.int IntKind.u8 99] 5)).mono hsz |>.trans bel2)
  have hbb : Bytes wb (.slice p0 l.length cap0) l := hb.below hWb
  have hc : Bytes wb (.slice (some ⟨g, 0, none⟩) l.length cap) l := by
    have h := Bytes.cut (w := wb) (b := g) (off := 0) (cap := cap) (l := l ++ [99]) 0 l.length cap hg4 (fun i hi => by rw [Nat.zero_add]; exact ownW.cell i hi) (by simp) (by simp; omega) hg3 (by omega)
    simpa using h
  have HOW := hid ownW
  have HWb := hid hWb
  have HBB := hid hbb
  have HC := hid hc
  clear h99 hn hb own1 bel1 ownA h99a hsz bel2 ownW hWb hbb hc hW hg2 hg4
  refine (qualGet_any _ l a2 _ HC.out (by omega) ha21).mono ?_
  rintro e w4 ⟨rfl, hb4⟩
  obtain ⟨W4, hW4, hbw4, HX4, HY4, HZ4⟩ := qbox1 w4 (gotQC l a2) (gotQA l a2) (gotQV l a2)
  have HN4 := hid (bnext hb4 hbw4)
  have HBB4 := hid (HBB.out.below HN4.out)
  clear hb4 hbw4
  go_wp2_with fail
  rw [← hW4]
  clear hW4
  refine (refQualGet_any _ l a2 _ HBB4.out (by omega) ha21).mono ?_
  rintro e w5 ⟨rfl, hb5⟩
  obtain ⟨W5, hW5, hbw5, HX5, HY5, HZ5⟩ := qbox1 w5 (gotQC l a2) (gotQA l a2) (gotQV l a2)
  have HN5 := hid (bnext hb5 hbw5)
  have HBB5 := hid (HBB4.out.below HN5.out)
  clear hb5 hbw5
  generalize gotQC l a2 = q0 at *
  generalize gotQA l a2 = q1 at *
  generalize gotQV l a2 = q2 at *
  generalize gotQB l a2 = q3 at *
  go_wp2_with fail
  rw [← hW5]
  clear hW5
  have hn45 := bnext HN4.out HN5.out
  have HX := hid fun wx h => HX1.out wx (bnext HWb.out (bnext hn45 h))
  have HY := hid fun wx h => HY1.out wx (bnext HWb.out (bnext hn45 h))
  have HZ := hid fun wx h => HZ1.out wx (bnext HWb.out (bnext hn45 h))
  have HU := hid fun wx h => HX4.out wx (bnext HN5.out h)
  have HV := hid fun wx h => HY4.out wx (bnext HN5.out h)
  have HT := hid fun wx h => HZ4.out wx (bnext HN5.out h)
  have HR := hid HX5.out
  have HS := hid HY5.out
  have HN := hid HZ5.out
  have HC8 := hid (HC.out.below hn45)
  have HBB8 := HBB5
  have HOW8 := hid (HOW.out.below hn45)
  have HN48 := hid hn45
  clear hn45
  -- REGION bytes
  refine wp_region_held_drew (S := fun w' => Below W5.drew.heap.size W5.drew w') (by kernel_rfl) (Below.refl _ _) ?_
  intro hHeld
  have hbW := Below.drew (Below.refl W5.heap.size W5)
  generalize W5.drew = wd at *
  have hcX := fun wx h => HX.out wx (bnext hbW h)
  have hcY := fun wx h => HY.out wx (bnext hbW h)
  have hcZ := fun wx h => HZ.out wx (bnext hbW h)
  have hcU := fun wx h => HU.out wx (bnext hbW h)
  have hcV := fun wx h => HV.out wx (bnext hbW h)
  have hcT := fun wx h => HT.out wx (bnext hbW h)
  have hcR := fun wx h => HR.out wx (bnext hbW h)
  have hcS := fun wx h => HS.out wx (bnext hbW h)
  have hcN := fun wx h => HN.out wx (bnext hbW h)
  refine rtake 0 rfl (by rfl) (by kernel_rfl) (by kernel_rfl) (by kernel_rfl) (fun _ _ _ h => h) hHeld (fun wx hwx => by go_simp; try with_reducible rfl) ?_
  try simp only [Act.put, List.setIfInBounds_toArray, List.set_cons_zero, List.set_cons_succ]
  refine rtake 1 rfl (by rfl) (by kernel_rfl) (by kernel_rfl) (by kernel_rfl) (fun _ _ _ h => h) hHeld (fun wx hwx => by go_simp; try with_reducible rfl) ?_
  try simp only [Act.put, List.setIfInBounds_toArray, List.set_cons_zero, List.set_cons_succ]
  refine rtake 4 rfl (by rfl) (by kernel_rfl) (by kernel_rfl) (by kernel_rfl) (fun _ _ _ h => h) hHeld (fun wx hwx => by go_simp; try with_reducible rfl) ?_
  try simp only [Act.put, List.setIfInBounds_toArray, List.set_cons_zero, List.set_cons_succ]
  have hst0 := (HBB8.out.below hbW).strs
  refine rtake 5 rfl (by rfl) (by kernel_rfl) (by kernel_rfl) (by kernel_rfl) (fun _ _ _ h => h) hHeld (fun wx hwx => by go_simp; try with_reducible rfl) ?_
  try simp only [Act.put, List.setIfInBounds_toArray, List.set_cons_zero, List.set_cons_succ]
  refine rtake 6 rfl (by rfl) (by kernel_rfl) (by kernel_rfl) (by kernel_rfl) (fun _ _ _ h => h) hHeld (fun wx hwx => by go_simp; try with_reducible rfl) ?_
  try simp only [Act.put, List.setIfInBounds_toArray, List.set_cons_zero, List.set_cons_succ]
  -- CALL 2: some 35 := Op.call { callee := Callee.value (Operand.func 11), args := #[Operand.tmp 33, Operand.tmp 34], argTypes := #[22, 24] }
  refine rcall 2 rfl (by kernel_rfl) (by rfl) (fun K hK => ?_)
  go_simp
  refine (qualPut_any _ l c a v _ (HC8.out.below hbW) (by have := Hr0.out; omega)).mono ?_
  rintro e wx2 ⟨x2, rfl, own2, hbel⟩
  have hst2 := own2.bytes.strs
  refine hK.out _ _ hbel ?_
  clear hK K
  refine wpAnyH_mono (S' := fun w' => Below wx2.heap.size wx2 w') (fun w' h => bnext hbel h) _ _ _ _ ?_
  have hH := Below.refl wx2.heap.size wx2
  have hW := bnext hbW hbel
  clear hbel hbW hHeld
  have hHeld := hH
  have hbW := hW
  clear hH hW
  have hsz2 := hbW.size
  replace hcX := fun wx h => HX.out wx (bnext hbW h)
  replace hcY := fun wx h => HY.out wx (bnext hbW h)
  replace hcZ := fun wx h => HZ.out wx (bnext hbW h)
  replace hcU := fun wx h => HU.out wx (bnext hbW h)
  replace hcV := fun wx h => HV.out wx (bnext hbW h)
  replace hcT := fun wx h => HT.out wx (bnext hbW h)
  replace hcR := fun wx h => HR.out wx (bnext hbW h)
  replace hcS := fun wx h => HS.out wx (bnext hbW h)
  replace hcN := fun wx h => HN.out wx (bnext hbW h)
  try simp only [Act.put, List.setIfInBounds_toArray, List.set_cons_zero, List.set_cons_succ]
  refine rtake 3 rfl (by rfl) (by kernel_rfl) (by kernel_rfl) (by kernel_rfl) (fun _ _ _ h => h) hHeld (fun wx hwx => by go_simp; try with_reducible rfl) ?_
  try simp only [Act.put, List.setIfInBounds_toArray, List.set_cons_zero, List.set_cons_succ]
  -- CALL 7: some 40 := Op.call { callee := Callee.value (Operand.func 12), args := #[Operand.tmp 39], argTypes := #[24] }
  refine rcall 7 rfl (by kernel_rfl) (by rfl) (fun K hK => ?_)
  go_simp
  refine (refQualPut_any _ _ _ _).mono ?_
  rintro e wx7 ⟨x7, rfl, own7, hbel⟩
  have hst7 := own7.bytes.strs
  refine hK.out _ _ hbel ?_
  clear hK K
  refine wpAnyH_mono (S' := fun w' => Below wx7.heap.size wx7 w') (fun w' h => bnext hbel h) _ _ _ _ ?_
  have hH := Below.refl wx7.heap.size wx7
  have hW := bnext hbW hbel
  clear hbel hbW hHeld
  have hHeld := hH
  have hbW := hW
  clear hH hW
  have hsz7 := hbW.size
  replace hcX := fun wx h => HX.out wx (bnext hbW h)
  replace hcY := fun wx h => HY.out wx (bnext hbW h)
  replace hcZ := fun wx h => HZ.out wx (bnext hbW h)
  replace hcU := fun wx h => HU.out wx (bnext hbW h)
  replace hcV := fun wx h => HV.out wx (bnext hbW h)
  replace hcT := fun wx h => HT.out wx (bnext hbW h)
  replace hcR := fun wx h => HR.out wx (bnext hbW h)
  replace hcS := fun wx h => HS.out wx (bnext hbW h)
  replace hcN := fun wx h => HN.out wx (bnext hbW h)
  try simp only [Act.put, List.setIfInBounds_toArray, List.set_cons_zero, List.set_cons_succ]
  refine rtake 8 rfl (by rfl) (by kernel_rfl) (by kernel_rfl) (by kernel_rfl) (fun _ _ _ h => h) hHeld (fun wx hwx => by go_simp; try with_reducible rfl) ?_
  try simp only [Act.put, List.setIfInBounds_toArray, List.set_cons_zero, List.set_cons_succ]
  have hs1 := HS1.out
  refine rtake 9 rfl (by rfl) (by kernel_rfl) (by kernel_rfl) (by kernel_rfl) (fun _ _ _ h => h) hHeld (fun wx hwx => by go_simp; try with_reducible rfl) ?_
  try simp only [Act.put, List.setIfInBounds_toArray, List.set_cons_zero, List.set_cons_succ]
  rw [ByteArray.mk_append_mk]
  refine rtake 10 rfl (by rfl) (by kernel_rfl) (by kernel_rfl) (by kernel_rfl) (fun _ _ _ h => h) hHeld (fun wx hwx => by go_simp; try with_reducible rfl) ?_
  try simp only [Act.put, List.setIfInBounds_toArray, List.set_cons_zero, List.set_cons_succ]
  refine rtake 11 rfl (by rfl) (by kernel_rfl) (by kernel_rfl) (by kernel_rfl) (fun _ _ _ h => h) hHeld (fun wx hwx => by go_simp; try with_reducible rfl) ?_
  try simp only [Act.put, List.setIfInBounds_toArray, List.set_cons_zero, List.set_cons_succ]
  refine rtake 12 rfl (by rfl) (by kernel_rfl) (by kernel_rfl) (by kernel_rfl) (fun _ _ _ h => h) hHeld (fun wx hwx => by go_simp; try with_reducible rfl) ?_
  try simp only [Act.put, List.setIfInBounds_toArray, List.set_cons_zero, List.set_cons_succ]
  refine rtake 14 rfl (by rfl) (by kernel_rfl) (by kernel_rfl) (by kernel_rfl) (fun _ _ _ h => h) hHeld (fun wx hwx => by go_simp; try with_reducible rfl) ?_
  try simp only [Act.put, List.setIfInBounds_toArray, List.set_cons_zero, List.set_cons_succ]
  -- CALL 13: some 46 := Op.call { callee := Callee.value (Operand.func 13), args := #[Operand.tmp 45], argTypes := #[24] }
  refine rcall 13 rfl (by kernel_rfl) (by rfl) (fun K hK => ?_)
  go_simp
  refine (mayQ_any _ _ _ _).mono ?_
  rintro e wx13 ⟨rfl, hbel⟩
  refine hK.out _ _ hbel ?_
  clear hK K
  refine wpAnyH_mono (S' := fun w' => Below wx13.heap.size wx13 w') (fun w' h => bnext hbel h) _ _ _ _ ?_
  have hH := Below.refl wx13.heap.size wx13
  have hW := bnext hbW hbel
  clear hbel hbW hHeld
  have hHeld := hH
  have hbW := hW
  clear hH hW
  have hsz13 := hbW.size
  replace hcX := fun wx h => HX.out wx (bnext hbW h)
  replace hcY := fun wx h => HY.out wx (bnext hbW h)
  replace hcZ := fun wx h => HZ.out wx (bnext hbW h)
  replace hcU := fun wx h => HU.out wx (bnext hbW h)
  replace hcV := fun wx h => HV.out wx (bnext hbW h)
  replace hcT := fun wx h => HT.out wx (bnext hbW h)
  replace hcR := fun wx h => HR.out wx (bnext hbW h)
  replace hcS := fun wx h => HS.out wx (bnext hbW h)
  replace hcN := fun wx h => HN.out wx (bnext hbW h)
  try simp only [Act.put, List.setIfInBounds_toArray, List.set_cons_zero, List.set_cons_succ]
  -- CALL 15: some 48 := Op.call { callee := Callee.value (Operand.func 14), args := #[Operand.tmp 47], argTypes := #[24] }
  refine rcall 15 rfl (by kernel_rfl) (by rfl) (fun K hK => ?_)
  go_simp
  refine (refMayQ_any _ _ _ _).mono ?_
  rintro e wx15 ⟨rfl, hbel⟩
  refine hK.out _ _ hbel ?_
  clear hK K
  refine wpAnyH_mono (S' := fun w' => Below wx15.heap.size wx15 w') (fun w' h => bnext hbel h) _ _ _ _ ?_
  have hH := Below.refl wx15.heap.size wx15
  have hW := bnext hbW hbel
  clear hbel hbW hHeld
  have hHeld := hH
  have hbW := hW
  clear hH hW
  have hsz15 := hbW.size
  replace hcX := fun wx h => HX.out wx (bnext hbW h)
  replace hcY := fun wx h => HY.out wx (bnext hbW h)
  replace hcZ := fun wx h => HZ.out wx (bnext hbW h)
  replace hcU := fun wx h => HU.out wx (bnext hbW h)
  replace hcV := fun wx h => HV.out wx (bnext hbW h)
  replace hcT := fun wx h => HT.out wx (bnext hbW h)
  replace hcR := fun wx h => HR.out wx (bnext hbW h)
  replace hcS := fun wx h => HS.out wx (bnext hbW h)
  replace hcN := fun wx h => HN.out wx (bnext hbW h)
  try simp only [Act.put, List.setIfInBounds_toArray, List.set_cons_zero, List.set_cons_succ]
  refine rtake 16 rfl (by rfl) (by kernel_rfl) (by kernel_rfl) (by kernel_rfl) (fun _ _ _ h => h) hHeld (fun wx hwx => by go_simp; try with_reducible rfl) ?_
  try simp only [Act.put, List.setIfInBounds_toArray, List.set_cons_zero, List.set_cons_succ]
  refine rtake 17 rfl (by rfl) (by kernel_rfl) (by kernel_rfl) (by kernel_rfl) (fun _ _ _ h => h) hHeld (fun wx hwx => by go_simp; try with_reducible rfl) ?_
  try simp only [Act.put, List.setIfInBounds_toArray, List.set_cons_zero, List.set_cons_succ]
  refine rtake 18 rfl (by rfl) (by kernel_rfl) (by kernel_rfl) (by kernel_rfl) (fun _ _ _ h => h) hHeld (fun wx hwx => by go_simp; try with_reducible rfl) ?_
  try simp only [Act.put, List.setIfInBounds_toArray, List.set_cons_zero, List.set_cons_succ]
  refine rtake 19 rfl (by rfl) (by kernel_rfl) (by kernel_rfl) (by kernel_rfl) (fun _ _ _ h => h) hHeld (fun wx hwx => by go_simp; try with_reducible rfl) ?_
  try simp only [Act.put, List.setIfInBounds_toArray, List.set_cons_zero, List.set_cons_succ]
  refine rtake 20 rfl (by rfl) (by kernel_rfl) (by kernel_rfl) (by kernel_rfl) (fun _ _ _ h => h) hHeld (fun wx hwx => by go_simp; try with_reducible rfl) ?_
  try simp only [Act.put, List.setIfInBounds_toArray, List.set_cons_zero, List.set_cons_succ]
  refine rtake 21 rfl (by rfl) (by kernel_rfl) (by kernel_rfl) (by kernel_rfl) (fun _ _ _ h => h) hHeld (fun wx hwx => by go_simp; try with_reducible rfl) ?_
  try simp only [Act.put, List.setIfInBounds_toArray, List.set_cons_zero, List.set_cons_succ]
  refine rtake 22 rfl (by rfl) (by kernel_rfl) (by kernel_rfl) (by kernel_rfl) (fun _ _ _ h => h) hHeld (fun wx hwx => by go_simp; try with_reducible rfl) ?_
  try simp only [Act.put, List.setIfInBounds_toArray, List.set_cons_zero, List.set_cons_succ]
  refine rtake 23 rfl (by rfl) (by kernel_rfl) (by kernel_rfl) (by kernel_rfl) (fun _ _ _ h => h) hHeld (fun wx hwx => by go_simp; try with_reducible rfl) ?_
  try simp only [Act.put, List.setIfInBounds_toArray, List.set_cons_zero, List.set_cons_succ]
  refine rtake 24 rfl (by rfl) (by kernel_rfl) (by kernel_rfl) (by kernel_rfl) (fun _ _ _ h => h) hHeld (fun wx hwx => by go_simp; try with_reducible rfl) ?_
  try simp only [Act.put, List.setIfInBounds_toArray, List.set_cons_zero, List.set_cons_succ]
  refine rtake 25 rfl (by rfl) (by kernel_rfl) (by kernel_rfl) (by kernel_rfl) (fun _ _ _ h => h) hHeld (fun wx hwx => by go_simp; try with_reducible rfl) ?_
  try simp only [Act.put, List.setIfInBounds_toArray, List.set_cons_zero, List.set_cons_succ]
  refine rtake 26 rfl (by rfl) (by kernel_rfl) (by kernel_rfl) (by kernel_rfl) (fun _ _ _ h => h) hHeld (fun wx hwx => by go_simp; try with_reducible rfl) ?_
  try simp only [Act.put, List.setIfInBounds_toArray, List.set_cons_zero, List.set_cons_succ]
  refine rtake 27 rfl (by rfl) (by kernel_rfl) (by kernel_rfl) (by kernel_rfl) (fun _ _ _ h => h) hHeld (fun wx hwx => by go_simp; try with_reducible rfl) ?_
  try simp only [Act.put, List.setIfInBounds_toArray, List.set_cons_zero, List.set_cons_succ]
  refine wpAnyH_done (by kernel_rfl) ?_ _
  -- END REGION bytes
  cases m : mayQ c a v
  · have cX := HX.out _ hbW
    have cY := HY.out _ hbW
    have cZ := HZ.out _ hbW
    clear hcX hcY hcZ hcU hcV hcT hcR hcS hcN
    go_wp2_with fail
    refine (mayQ_any _ _ _ _).mono ?_
    rintro e w20 ⟨rfl, hb20⟩
    rw [m]
    clear cX cY cZ
    go_wp2_with fail
    refine (awake05_any _).mono ?_
    rintro e w21 ⟨rfl, hb21⟩
    go_wp2_with fail
    go_ret
    exact ⟨rfl, bnext hbw (bnext HWb.out (bnext HN48.out (bnext hbW (bnext hb20 hb21))))⟩
  · obtain ⟨k0, k1, k2, k3⟩ := gotQ_back m
    have HK := hid (And.intro k0 (And.intro k1 (And.intro k2 k3)))
    have Hm := hid m
    clear k0 k1 k2 k3 m
    have cX := HX.out _ hbW
    have cY := HY.out _ hbW
    have cZ := HZ.out _ hbW
    clear hcX hcY hcZ hcU hcV hcT hcR hcS hcN
    go_wp2_with fail
    refine (mayQ_any _ _ _ _).mono ?_
    rintro e w20 ⟨rfl, hb20⟩
    rw [Hm.out]
    have hbW20 := bnext hbW hb20
    replace cX := HX.out _ hbW20
    replace cY := HY.out _ hbW20
    replace cZ := HZ.out _ hbW20
    go_wp2_with fail
    refine (qualPut_any _ [] c a v _ (Bytes.nil _) (by decide)).mono ?_
    rintro e w21 ⟨x21, rfl, own21, hb21⟩
    rw [List.nil_append] at own21
    clear cX cY cZ
    go_wp2_with fail
    refine (qualGet_any _ (qualS c a v) 0 _ own21.bytes (by rw [qualS_length]; decide) (by decide)).mono ?_
    rintro e w22 ⟨rfl, hb22⟩
    rw [HK.out.1, HK.out.2.1, HK.out.2.2.1, HK.out.2.2.2]
    obtain ⟨W7, hW7, hbw7, HX7, HY7, HZ7⟩ := qbox1 w22 c a v
    have hbW7 := bnext hbW20 (bnext hb21 (bnext hb22 hbw7))
    have cX := HX.out _ hbW7
    have cY := HY.out _ hbW7
    have cZ := HZ.out _ hbW7
    have cU := HX7.out _ (Below.refl _ _)
    have cV := HY7.out _ (Below.refl _ _)
    have cT := HZ7.out _ (Below.refl _ _)
    have hcell := qcell_after HOW8.out hbW7 _ (Below.refl _ _)
    have hw1 : IntKind.i64.wrap ((l.length : Int) + 1) = (l.length : Int) + 1 := IntWalk.i64_in _ (by omega)
    have hw2 : 0 ≤ (l.length : Int) + 1 := by omega
    have hw3 : ((l.length : Int) + 1).toNat = l.length + 1 := by omega
    have hw4 : (l.length : Int) + 1 ≤ (cap : Int) := by omega
    have hw5 : (l.length : Int) < (l.length : Int) + 1 := by omega
    go_upto_region 9 with fail
    rw [← hW7]
    clear hW7
    go_wp2_with fail
    refine (awake05_any _).mono ?_
    rintro e w23 ⟨rfl, hb23⟩
    go_wp2_with fail
    go_ret
    exact ⟨rfl, bnext hbw (bnext HWb.out (bnext HN48.out (bnext hbW7 hb23)))⟩
end Go.Proofs.Ytknbflipockegaa
