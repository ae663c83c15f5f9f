/- The walk of the law OctetsPuts. -/
import Derived.Test.YtcljicemkjpbeaaOctRef
import Derived.Test.YtcljicemkjpbeaaOctc
namespace Go.Proofs.Ytcljicemkjpbeaa
open Go.RowKit Go.Proofs
set_option linter.unusedVariables false
set_option linter.unusedSimpArgs false

theorem cell_later {w : World} {base g cap n : Nat} {l : List UInt8} {c : UInt8} (h : Own w base (.slice (some ⟨g, 0, none⟩) n cap) (l ++ [c])) {w1 : World} (hb : Below w.heap.size w w1) :
    ∀ w', Below w1.heap.size w1 w' → w'.cell? ⟨g, l.length, none⟩ = some (bv c) := by
  intro w' hb'
  have hc := (h.below (bnext hb hb')).cell l.length (by simp)
  simpa using hc

set_option maxRecDepth 100000 in
set_option maxHeartbeats 4000000 in
theorem octetsPuts_walk {w : World} (v0 : Value) (l : List UInt8) (b0 : Bytes w v0 l) (r0 : l.length ≤ 140737488351232) (a1 : Int) (w1 : (Lit.int .i64 a1).wf = true) (a2 : Int) (w2 : (Lit.int .i64 a2).wf = true) (a3 : Int) (w3 : (Lit.int .u64 a3).wf = true) :
    Calls Try.prog 3 #[v0, .int .i64 a1, .int .i64 a2, .int .u64 a3] w fun e w' => e = .returned (.bool true) ∧ Below w.heap.size w w' := by
  have hn := Own.nil w w.heap.size
  have h99 := fun wx : World => (Own.lit wx [99] (by decide)).bytes
  have hb := b0
  have h3 : 0 ≤ a3 ∧ a3 ≤ 18446744073709551615 := by
    simp only [Lit.wf, Bool.and_eq_true, decide_eq_true_eq] at w3
    exact w3
  obtain ⟨h30, h31⟩ := h3
  have H3 : Hid (a3 < 18446744073709551616) := hid (by omega)
  clear h31 w1 w2 w3
  have hp1 : (putS a1 a2).length ≤ 8 := by unfold putS; rw [putN_length]; omega
  have hp2 : (putN a3.toNat 8).length ≤ 8 := by rw [putN_length]; omega
  have hs1 : ¬ 9223372036854775807 < l.length + (putS a1 a2).length := by omega
  have hs2 : ¬ 9223372036854775807 < l.length + (putN a3.toNat 8).length := by omega
  clear hp1 hp2
  obtain ⟨p0, cap0, rfl, hc1, hc2, hc3⟩ := b0
  go_enter Try.func3, Try.ntmps3
  go_wp2_with (first
    | (at_builtin; refine wpList_append_bytes (o := ⟨some 11, _, _, _, _, _⟩) rfl _ _ rfl rfl w.heap.size _ _ [] l rfl rfl hn hb ?_ (Nat.le_refl _) ?_; (simp; omega); intro c1 wa own1 bel1; rw [List.nil_append] at own1; have ownA := own1.below (bnew wa (.cells (cellsOf [99]).toArray 5)); have h99a := h99 wa; have hsz := bel1.size)
    | (at_builtin; refine wpList_append_bytes (o := ⟨some 13, _, _, _, _, _⟩) rfl _ _ rfl rfl w.heap.size _ _ l [99] rfl rfl ?_ ?_ ?_ ?_ ?_; assumption; assumption; (simp; omega); (simp; omega); intro c2 wb own2 bel2; obtain ⟨g, cap, rfl, hg1, hg2, hg3, hg4⟩ := own2.form (by simp); have hg5 : l.length + 1 ≤ cap := (by simpa using hg1); clear hg1))
  have hbb : Bytes wb (.slice p0 l.length cap0) l := hb.below (bel1.trans ((bnew wa _).mono hsz |>.trans bel2))
  have hWb : Below w.heap.size w wb := bel1.trans ((bnew wa _).mono hsz |>.trans bel2)
  have hc : Bytes wb (.slice (some ⟨g, 0, none⟩) l.length cap) l := by
    have h := Bytes.cut (w := wb) (b := g) (off := 0) (cap := cap) (l := l ++ [99]) 0 l.length cap hg4 (fun i hi => by rw [Nat.zero_add]; exact own2.cell i hi) (by simp) (by simp; omega) hg3 (by omega)
    simpa using h
  clear h99 hn hb hc1 hc2 hc3 own1 bel1 ownA h99a hsz bel2
  refine wp_region_held_drew (S := fun w' => Below wb.drew.heap.size wb.drew w') (by kernel_rfl) (Below.refl _ _) ?_
  intro hHeld
  have hbW := Below.drew (Below.refl wb.heap.size wb)
  generalize wb.drew = wd at *
  refine rtake 0 rfl (by rfl) (by kernel_rfl) (by kernel_rfl) (by kernel_rfl) (fun _ _ _ h => h) hHeld (fun wx hwx => by go_simp; try with_reducible rfl) ?_
  try simp only [Act.put, List.setIfInBounds_toArray, List.set_cons_zero, List.set_cons_succ]
  refine rtake 1 rfl (by rfl) (by kernel_rfl) (by kernel_rfl) (by kernel_rfl) (fun _ _ _ h => h) hHeld (fun wx hwx => by go_simp; try with_reducible rfl) ?_
  try simp only [Act.put, List.setIfInBounds_toArray, List.set_cons_zero, List.set_cons_succ]
  refine rtake 2 rfl (by rfl) (by kernel_rfl) (by kernel_rfl) (by kernel_rfl) (fun _ _ _ h => h) hHeld (fun wx hwx => by go_simp; try with_reducible rfl) ?_
  try simp only [Act.put, List.setIfInBounds_toArray, List.set_cons_zero, List.set_cons_succ]
  refine rtake 5 rfl (by rfl) (by kernel_rfl) (by kernel_rfl) (by kernel_rfl) (fun _ _ _ h => h) hHeld (fun wx hwx => by go_simp; try with_reducible rfl) ?_
  try simp only [Act.put, List.setIfInBounds_toArray, List.set_cons_zero, List.set_cons_succ]
  have hst0 := (hbb.below hbW).strs
  refine rtake 6 rfl (by rfl) (by kernel_rfl) (by kernel_rfl) (by kernel_rfl) (fun _ _ _ h => h) hHeld (fun wx hwx => by go_simp; try with_reducible rfl) ?_
  try simp only [Act.put, List.setIfInBounds_toArray, List.set_cons_zero, List.set_cons_succ]
  refine rtake 7 rfl (by rfl) (by kernel_rfl) (by kernel_rfl) (by kernel_rfl) (fun _ _ _ h => h) hHeld (fun wx hwx => by go_simp; try with_reducible rfl) ?_
  try simp only [Act.put, List.setIfInBounds_toArray, List.set_cons_zero, List.set_cons_succ]
  refine rtake 8 rfl (by rfl) (by kernel_rfl) (by kernel_rfl) (by kernel_rfl) (fun _ _ _ h => h) hHeld (fun wx hwx => by go_simp; try with_reducible rfl) ?_
  try simp only [Act.put, List.setIfInBounds_toArray, List.set_cons_zero, List.set_cons_succ]
  -- CALL 3: some 20 := Op.call { callee := Callee.value (Operand.func 9), args := #[Operand.tmp 17, Operand.tmp 18, Operand.tmp 19], argTypes := #[22, 3, 3] }
  refine rcall 3 rfl (by kernel_rfl) (by rfl) (fun K hK => ?_)
  go_simp
  refine (put_any _ l _ _ _ (hc.below hbW) (by omega)).mono ?_
  rintro e wx3 ⟨x3, rfl, own3, hbel⟩
  have hst3 := own3.bytes.strs
  refine hK.out _ _ hbel ?_
  clear hK K
  refine wpAnyH_mono (S' := fun w' => Below wx3.heap.size wx3 w') (fun w' h => bnext hbel h) _ _ _ _ ?_
  have hH := Below.refl wx3.heap.size wx3
  have hW := bnext hbW hbel
  clear hbel hbW hHeld
  have hHeld := hH
  have hbW := hW
  clear hH hW
  try simp only [Act.put, List.setIfInBounds_toArray, List.set_cons_zero, List.set_cons_succ]
  refine rtake 4 rfl (by rfl) (by kernel_rfl) (by kernel_rfl) (by kernel_rfl) (fun _ _ _ h => h) hHeld (fun wx hwx => by go_simp; try with_reducible rfl) ?_
  try simp only [Act.put, List.setIfInBounds_toArray, List.set_cons_zero, List.set_cons_succ]
  -- CALL 9: some 26 := Op.call { callee := Callee.value (Operand.func 10), args := #[Operand.tmp 24, Operand.tmp 25], argTypes := #[3, 3] }
  refine rcall 9 rfl (by kernel_rfl) (by rfl) (fun K hK => ?_)
  go_simp
  refine (refPut_any _ _ _).mono ?_
  rintro e wx9 ⟨x9, rfl, own9, hbel⟩
  have hst9 := own9.bytes.strs
  refine hK.out _ _ hbel ?_
  clear hK K
  refine wpAnyH_mono (S' := fun w' => Below wx9.heap.size wx9 w') (fun w' h => bnext hbel h) _ _ _ _ ?_
  have hH := Below.refl wx9.heap.size wx9
  have hW := bnext hbW hbel
  clear hbel hbW hHeld
  have hHeld := hH
  have hbW := hW
  clear hH hW
  try simp only [Act.put, List.setIfInBounds_toArray, List.set_cons_zero, List.set_cons_succ]
  refine rtake 10 rfl (by rfl) (by kernel_rfl) (by kernel_rfl) (by kernel_rfl) (fun _ _ _ h => h) hHeld (fun wx hwx => by go_simp; try with_reducible rfl) ?_
  try simp only [Act.put, List.setIfInBounds_toArray, List.set_cons_zero, List.set_cons_succ]
  refine rtake 11 rfl (by rfl) (by kernel_rfl) (by kernel_rfl) (by kernel_rfl) (fun _ _ _ h => h) hHeld (fun wx hwx => by go_simp; try with_reducible rfl) ?_
  try simp only [Act.put, List.setIfInBounds_toArray, List.set_cons_zero, List.set_cons_succ]
  rw [ByteArray.mk_append_mk]
  refine rtake 12 rfl (by rfl) (by kernel_rfl) (by kernel_rfl) (by kernel_rfl) (fun _ _ _ h => h) hHeld (fun wx hwx => by go_simp; try with_reducible rfl) ?_
  try simp only [Act.put, List.setIfInBounds_toArray, List.set_cons_zero, List.set_cons_succ]
  refine rtake 13 rfl (by rfl) (by kernel_rfl) (by kernel_rfl) (by kernel_rfl) (fun _ _ _ h => h) hHeld (fun wx hwx => by go_simp; try with_reducible rfl) ?_
  try simp only [Act.put, List.setIfInBounds_toArray, List.set_cons_zero, List.set_cons_succ]
  refine rtake 14 rfl (by rfl) (by kernel_rfl) (by kernel_rfl) (by kernel_rfl) (fun _ _ _ h => h) hHeld (fun wx hwx => by go_simp; try with_reducible rfl) ?_
  try simp only [Act.put, List.setIfInBounds_toArray, List.set_cons_zero, List.set_cons_succ]
  refine rtake 15 rfl (by rfl) (by kernel_rfl) (by kernel_rfl) (by kernel_rfl) (fun _ _ _ h => h) hHeld (fun wx hwx => by go_simp; try with_reducible rfl) ?_
  try simp only [Act.put, List.setIfInBounds_toArray, List.set_cons_zero, List.set_cons_succ]
  refine rtake 18 rfl (by rfl) (by kernel_rfl) (by kernel_rfl) (by kernel_rfl) (fun _ _ _ h => h) hHeld (fun wx hwx => by go_simp; try with_reducible rfl) ?_
  try simp only [Act.put, List.setIfInBounds_toArray, List.set_cons_zero, List.set_cons_succ]
  have hst0 := (hbb.below hbW).strs
  refine rtake 19 rfl (by rfl) (by kernel_rfl) (by kernel_rfl) (by kernel_rfl) (fun _ _ _ h => h) hHeld (fun wx hwx => by go_simp; try with_reducible rfl) ?_
  try simp only [Act.put, List.setIfInBounds_toArray, List.set_cons_zero, List.set_cons_succ]
  refine rtake 20 rfl (by rfl) (by kernel_rfl) (by kernel_rfl) (by kernel_rfl) (fun _ _ _ h => h) hHeld (fun wx hwx => by go_simp; try with_reducible rfl) ?_
  try simp only [Act.put, List.setIfInBounds_toArray, List.set_cons_zero, List.set_cons_succ]
  -- CALL 16: some 33 := Op.call { callee := Callee.value (Operand.func 11), args := #[Operand.tmp 31, Operand.tmp 32], argTypes := #[22, 23] }
  refine rcall 16 rfl (by kernel_rfl) (by rfl) (fun K hK => ?_)
  go_simp
  refine (putId_any _ l _ _ (hc.below hbW) (by omega) h30).mono ?_
  rintro e wx16 ⟨x16, rfl, own16, hbel⟩
  have hst16 := own16.bytes.strs
  refine hK.out _ _ hbel ?_
  clear hK K
  refine wpAnyH_mono (S' := fun w' => Below wx16.heap.size wx16 w') (fun w' h => bnext hbel h) _ _ _ _ ?_
  have hH := Below.refl wx16.heap.size wx16
  have hW := bnext hbW hbel
  clear hbel hbW hHeld
  have hHeld := hH
  have hbW := hW
  clear hH hW
  try simp only [Act.put, List.setIfInBounds_toArray, List.set_cons_zero, List.set_cons_succ]
  refine rtake 17 rfl (by rfl) (by kernel_rfl) (by kernel_rfl) (by kernel_rfl) (fun _ _ _ h => h) hHeld (fun wx hwx => by go_simp; try with_reducible rfl) ?_
  try simp only [Act.put, List.setIfInBounds_toArray, List.set_cons_zero, List.set_cons_succ]
  -- CALL 21: some 38 := Op.call { callee := Callee.value (Operand.func 12), args := #[Operand.tmp 37], argTypes := #[23] }
  refine rcall 21 rfl (by kernel_rfl) (by rfl) (fun K hK => ?_)
  go_simp
  refine (refPutId_any _ _ h30 H3.out).mono ?_
  rintro e wx21 ⟨x21, rfl, own21, hbel⟩
  have hst21 := own21.bytes.strs
  refine hK.out _ _ hbel ?_
  clear hK K
  refine wpAnyH_mono (S' := fun w' => Below wx21.heap.size wx21 w') (fun w' h => bnext hbel h) _ _ _ _ ?_
  have hH := Below.refl wx21.heap.size wx21
  have hW := bnext hbW hbel
  clear hbel hbW hHeld
  have hHeld := hH
  have hbW := hW
  clear hH hW
  try simp only [Act.put, List.setIfInBounds_toArray, List.set_cons_zero, List.set_cons_succ]
  refine rtake 22 rfl (by rfl) (by kernel_rfl) (by kernel_rfl) (by kernel_rfl) (fun _ _ _ h => h) hHeld (fun wx hwx => by go_simp; try with_reducible rfl) ?_
  try simp only [Act.put, List.setIfInBounds_toArray, List.set_cons_zero, List.set_cons_succ]
  refine rtake 23 rfl (by rfl) (by kernel_rfl) (by kernel_rfl) (by kernel_rfl) (fun _ _ _ h => h) hHeld (fun wx hwx => by go_simp; try with_reducible rfl) ?_
  try simp only [Act.put, List.setIfInBounds_toArray, List.set_cons_zero, List.set_cons_succ]
  rw [ByteArray.mk_append_mk]
  refine rtake 24 rfl (by rfl) (by kernel_rfl) (by kernel_rfl) (by kernel_rfl) (fun _ _ _ h => h) hHeld (fun wx hwx => by go_simp; try with_reducible rfl) ?_
  try simp only [Act.put, List.setIfInBounds_toArray, List.set_cons_zero, List.set_cons_succ]
  refine rtake 25 rfl (by rfl) (by kernel_rfl) (by kernel_rfl) (by kernel_rfl) (fun _ _ _ h => h) hHeld (fun wx hwx => by go_simp; try with_reducible rfl) ?_
  try simp only [Act.put, List.setIfInBounds_toArray, List.set_cons_zero, List.set_cons_succ]
  refine rtake 26 rfl (by rfl) (by kernel_rfl) (by kernel_rfl) (by kernel_rfl) (fun _ _ _ h => h) hHeld (fun wx hwx => by go_simp; try with_reducible rfl) ?_
  try simp only [Act.put, List.setIfInBounds_toArray, List.set_cons_zero, List.set_cons_succ]
  refine rtake 27 rfl (by rfl) (by kernel_rfl) (by kernel_rfl) (by kernel_rfl) (fun _ _ _ h => h) hHeld (fun wx hwx => by go_simp; try with_reducible rfl) ?_
  try simp only [Act.put, List.setIfInBounds_toArray, List.set_cons_zero, List.set_cons_succ]
  refine rtake 28 rfl (by rfl) (by kernel_rfl) (by kernel_rfl) (by kernel_rfl) (fun _ _ _ h => h) hHeld (fun wx hwx => by go_simp; try with_reducible rfl) ?_
  try simp only [Act.put, List.setIfInBounds_toArray, List.set_cons_zero, List.set_cons_succ]
  refine rtake 29 rfl (by rfl) (by kernel_rfl) (by kernel_rfl) (by kernel_rfl) (fun _ _ _ h => h) hHeld (fun wx hwx => by go_simp; try with_reducible rfl) ?_
  try simp only [Act.put, List.setIfInBounds_toArray, List.set_cons_zero, List.set_cons_succ]
  have hw1 : IntKind.i64.wrap ((l.length : Int) + 1) = (l.length : Int) + 1 := IntWalk.i64_in _ (by omega)
  have hw2 : 0 ≤ (l.length : Int) + 1 := by omega
  have hw3 : ((l.length : Int) + 1).toNat = l.length + 1 := by omega
  have hw4 : (l.length : Int) + 1 ≤ (cap : Int) := by omega
  have hw5 : (l.length : Int) < (l.length : Int) + 1 := by omega
  refine rtake 30 rfl (by rfl) (by kernel_rfl) (by kernel_rfl) (by kernel_rfl) (fun _ _ _ h => h) hHeld (fun wx hwx => by go_simp; try with_reducible rfl) ?_
  try simp only [Act.put, List.setIfInBounds_toArray, List.set_cons_zero, List.set_cons_succ]
  refine rtake 31 rfl (by rfl) (by kernel_rfl) (by kernel_rfl) (by kernel_rfl) (fun _ _ _ h => h) hHeld (fun wx hwx => by go_simp; try with_reducible rfl) ?_
  try simp only [Act.put, List.setIfInBounds_toArray, List.set_cons_zero, List.set_cons_succ]
  refine rtake 32 rfl (by rfl) (by kernel_rfl) (by kernel_rfl) (by kernel_rfl) (fun _ _ _ h => h) hHeld (fun wx hwx => by go_simp; try with_reducible rfl) ?_
  try simp only [Act.put, List.setIfInBounds_toArray, List.set_cons_zero, List.set_cons_succ]
  refine rtake 33 rfl (by rfl) (by kernel_rfl) (by kernel_rfl) (by kernel_rfl) (fun _ _ _ h => h) hHeld (fun wx hwx => by go_simp; try with_reducible rfl) ?_
  try simp only [Act.put, List.setIfInBounds_toArray, List.set_cons_zero, List.set_cons_succ]
  refine rtake 34 rfl (by rfl) (by kernel_rfl) (by kernel_rfl) (by kernel_rfl) (fun _ _ _ h => h) hHeld (fun wx hwx => by go_simp; try with_reducible rfl) ?_
  try simp only [Act.put, List.setIfInBounds_toArray, List.set_cons_zero, List.set_cons_succ]
  have hcell := cell_later own2 hbW
  refine rtake 35 rfl (by rfl) (by kernel_rfl) (by kernel_rfl) (by kernel_rfl) (fun _ _ _ h => h) hHeld (fun wx hwx => by go_simp; try with_reducible rfl) ?_
  try simp only [Act.put, List.setIfInBounds_toArray, List.set_cons_zero, List.set_cons_succ]
  refine rtake 36 rfl (by rfl) (by kernel_rfl) (by kernel_rfl) (by kernel_rfl) (fun _ _ _ h => h) hHeld (fun wx hwx => by go_simp; try with_reducible rfl) ?_
  try simp only [Act.put, List.setIfInBounds_toArray, List.set_cons_zero, List.set_cons_succ]
  refine rtake 37 rfl (by rfl) (by kernel_rfl) (by kernel_rfl) (by kernel_rfl) (fun _ _ _ h => h) hHeld (fun wx hwx => by go_simp; try with_reducible rfl) ?_
  try simp only [Act.put, List.setIfInBounds_toArray, List.set_cons_zero, List.set_cons_succ]
  refine rtake 38 rfl (by rfl) (by kernel_rfl) (by kernel_rfl) (by kernel_rfl) (fun _ _ _ h => h) hHeld (fun wx hwx => by go_simp; try with_reducible rfl) ?_
  try simp only [Act.put, List.setIfInBounds_toArray, List.set_cons_zero, List.set_cons_succ]
  -- CALL 39: some 56 := Op.call { callee := Callee.value (Operand.func 13), args := #[], argTypes := #[] }
  refine rcall 39 rfl (by kernel_rfl) (by rfl) (fun K hK => ?_)
  go_simp
  refine (awake_any _).mono ?_
  rintro e wx39 ⟨rfl, hbel⟩
  refine hK.out _ _ hbel ?_
  clear hK K
  refine wpAnyH_mono (S' := fun w' => Below wx39.heap.size wx39 w') (fun w' h => bnext hbel h) _ _ _ _ ?_
  have hH := Below.refl wx39.heap.size wx39
  have hW := bnext hbW hbel
  clear hbel hbW hHeld
  have hHeld := hH
  have hbW := hW
  clear hH hW
  try simp only [Act.put, List.setIfInBounds_toArray, List.set_cons_zero, List.set_cons_succ]
  refine rtake 40 rfl (by rfl) (by kernel_rfl) (by kernel_rfl) (by kernel_rfl) (fun _ _ _ h => h) hHeld (fun wx hwx => by go_simp; try with_reducible rfl) ?_
  try simp only [Act.put, List.setIfInBounds_toArray, List.set_cons_zero, List.set_cons_succ]
  refine rtake 41 rfl (by rfl) (by kernel_rfl) (by kernel_rfl) (by kernel_rfl) (fun _ _ _ h => h) hHeld (fun wx hwx => by go_simp; try with_reducible rfl) ?_
  try simp only [Act.put, List.setIfInBounds_toArray, List.set_cons_zero, List.set_cons_succ]
  refine wpAnyH_done (by kernel_rfl) ?_ _
  go_wp2_with fail
  go_ret
  exact ⟨rfl, bnext hWb hbW⟩
end Go.Proofs.Ytcljicemkjpbeaa
