/- The document's own answers of chapter 5 with bytes (carillonref05): Put, Get. -/
import Derived.Test.YtpelgbcccgdlbaaQualc
import Derived.Test.YtpelgbcccgdlbaaOctRef
import Derived.Test.YtpelgbcccgdlbaaApp
namespace Go.Proofs.Ytpelgbcccgdlbaa
open Go.RowKit Go.Proofs
set_option linter.unusedVariables false
set_option linter.unusedSimpArgs false

set_option maxHeartbeats 1600000 in
theorem refQualPut_any (c a q : Int) (w : World) :
    Calls Try.prog 31 #[qualV c a q] w (NewBytes w (qualS c a q)) := by
  go_enter Try.func31, Try.ntmps31
  go_wp2_with fail
  obtain ⟨W, hWe, hbw, HX, HY, HZ⟩ := qbox1 w c a q
  rw [← hWe]
  clear hWe
  -- REGION refput
  refine wp_region_held_drew (S := fun w' => Below W.drew.heap.size W.drew w') (by kernel_rfl) (Below.refl _ _) ?_
  intro hHeld
  have hbW := Below.drew (Below.refl W.heap.size W)
  generalize W.drew = wd at *
  have hcX := fun wx h => HX.out wx (bnext hbW h)
  have hcY := fun wx h => HY.out wx (bnext hbW h)
  have hcZ := fun wx h => HZ.out wx (bnext hbW h)
  refine rtake 0 rfl (by rfl) (by kernel_rfl) (by kernel_rfl) (by kernel_rfl) (fun _ _ _ h => h) hHeld (fun wx hwx => by go_simp; try with_reducible rfl) ?_
  try simp only [Act.put, List.setIfInBounds_toArray, List.set_cons_zero, List.set_cons_succ]
  refine rtake 1 rfl (by rfl) (by kernel_rfl) (by kernel_rfl) (by kernel_rfl) (fun _ _ _ h => h) hHeld (fun wx hwx => by go_simp; try with_reducible rfl) ?_
  try simp only [Act.put, List.setIfInBounds_toArray, List.set_cons_zero, List.set_cons_succ]
  refine rtake 3 rfl (by rfl) (by kernel_rfl) (by kernel_rfl) (by kernel_rfl) (fun _ _ _ h => h) hHeld (fun wx hwx => by go_simp; try with_reducible rfl) ?_
  try simp only [Act.put, List.setIfInBounds_toArray, List.set_cons_zero, List.set_cons_succ]
  refine rtake 4 rfl (by rfl) (by kernel_rfl) (by kernel_rfl) (by kernel_rfl) (fun _ _ _ h => h) hHeld (fun wx hwx => by go_simp; try with_reducible rfl) ?_
  try simp only [Act.put, List.setIfInBounds_toArray, List.set_cons_zero, List.set_cons_succ]
  refine rtake 7 rfl (by rfl) (by kernel_rfl) (by kernel_rfl) (by kernel_rfl) (fun _ _ _ h => h) hHeld (fun wx hwx => by go_simp; try with_reducible rfl) ?_
  try simp only [Act.put, List.setIfInBounds_toArray, List.set_cons_zero, List.set_cons_succ]
  refine rtake 8 rfl (by rfl) (by kernel_rfl) (by kernel_rfl) (by kernel_rfl) (fun _ _ _ h => h) hHeld (fun wx hwx => by go_simp; try with_reducible rfl) ?_
  try simp only [Act.put, List.setIfInBounds_toArray, List.set_cons_zero, List.set_cons_succ]
  -- CALL 2: some 5 := Op.call { callee := Callee.value (Operand.func 22), args := #[Operand.tmp 4, Operand.const (Value.int IntKind.i64 1)], argTypes := #[3, 3] }
  refine rcall 2 rfl (by kernel_rfl) (by rfl) (fun K hK => ?_)
  go_simp
  refine (refPut_any _ _ _).mono ?_
  rintro e wx2 ⟨x2, rfl, own2, hbel2⟩
  have hH := bnext hHeld hbel2
  refine hK.out _ _ hH ?_
  clear hK K hHeld
  have hHeld := hH
  clear hH
  try simp only [Act.put, List.setIfInBounds_toArray, List.set_cons_zero, List.set_cons_succ]
  -- CALL 5: some 8 := Op.call { callee := Callee.value (Operand.func 22), args := #[Operand.tmp 7, Operand.const (Value.int IntKind.i64 1)], argTypes := #[3, 3] }
  refine rcall 5 rfl (by kernel_rfl) (by rfl) (fun K hK => ?_)
  go_simp
  refine (refPut_any _ _ _).mono ?_
  rintro e wx5 ⟨x5, rfl, own5, hbel5⟩
  have own2b := own2.below hbel5
  have hH := bnext hHeld hbel5
  refine hK.out _ _ hH ?_
  clear hK K hHeld
  have hHeld := hH
  clear hH
  try simp only [Act.put, List.setIfInBounds_toArray, List.set_cons_zero, List.set_cons_succ]
  -- CALL 6: some 9 := Op.call { callee := Callee.builtin Builtin.append, args := #[Operand.tmp 5, Operand.tmp 8], argTypes := #[22, 22] }
  refine rcall 6 rfl (by kernel_rfl) (by rfl) (fun K hK => ?_)
  refine op_append_bytes (o := ⟨some 9, _, _, _, _, _⟩) _ _ rfl rfl wd.heap.size _ _ _ _ rfl rfl own2b own5.bytes (by rw [putS1, putS1]; decide) hHeld.size ?_
  intro x6 wx6 own6 hbel6
  have hH := hHeld.trans hbel6
  refine hK.out _ _ hH ?_
  clear hK K hHeld
  have hHeld := hH
  clear hH
  try simp only [Act.put, List.setIfInBounds_toArray, List.set_cons_zero, List.set_cons_succ]
  -- CALL 9: some 12 := Op.call { callee := Callee.value (Operand.func 22), args := #[Operand.tmp 11, Operand.const (Value.int IntKind.i64 2)], argTypes := #[3, 3] }
  refine rcall 9 rfl (by kernel_rfl) (by rfl) (fun K hK => ?_)
  go_simp
  refine (refPut_any _ _ _).mono ?_
  rintro e wx9 ⟨x9, rfl, own9, hbel9⟩
  have own6b := own6.below hbel9
  have hH := bnext hHeld hbel9
  refine hK.out _ _ hH ?_
  clear hK K hHeld
  have hHeld := hH
  clear hH
  try simp only [Act.put, List.setIfInBounds_toArray, List.set_cons_zero, List.set_cons_succ]
  -- CALL 10: some 13 := Op.call { callee := Callee.builtin Builtin.append, args := #[Operand.tmp 9, Operand.tmp 12], argTypes := #[22, 22] }
  refine rcall 10 rfl (by kernel_rfl) (by rfl) (fun K hK => ?_)
  refine op_append_bytes (o := ⟨some 13, _, _, _, _, _⟩) _ _ rfl rfl wd.heap.size _ _ _ _ rfl rfl own6b own9.bytes (by rw [List.length_append, putS1, putS1, putS2]; decide) hHeld.size ?_
  intro xE wxE ownE hbelE
  have hH := hHeld.trans hbelE
  refine hK.out _ _ hH ?_
  clear hK K hHeld
  have hHeld := hH
  clear hH
  try simp only [Act.put, List.setIfInBounds_toArray, List.set_cons_zero, List.set_cons_succ]
  refine rtake 11 rfl (by rfl) (by kernel_rfl) (by kernel_rfl) (by kernel_rfl) (fun _ _ _ h => h) hHeld (fun wx hwx => by go_simp; try with_reducible rfl) ?_
  try simp only [Act.put, List.setIfInBounds_toArray, List.set_cons_zero, List.set_cons_succ]
  refine wpAnyH_done (by kernel_rfl) ?_ _
  -- END REGION refput
  go_wp2_with fail
  go_ret
  refine ⟨xE, rfl, ?_, bnext hbw (bnext hbW hHeld)⟩
  unfold qualS
  exact ownE.mono (Nat.le_trans hbw.size hbW.size)

theorem parts_of (l : List UInt8) (A : Nat) (h : A + 4 ≤ l.length) :
    numAt l A 4 < 4294967296 ∧ numAt l A 4 / 16777216 = numAt l A 1 ∧ numAt l A 4 / 65536 % 256 = numAt l (A + 1) 1 ∧ numAt l A 4 % 65536 = numAt l (A + 2) 2 := by
  have e : ∀ k, (l.drop (A + k)) = (l.drop A).drop k := fun k => by rw [List.drop_drop]
  unfold numAt
  rw [e 1, e 2]
  have hl : 4 ≤ (l.drop A).length := by rw [List.length_drop]; omega
  generalize l.drop A = m at *
  match m, hl with
  | x :: y :: z :: u :: r, _ =>
    have hx := x.toNat_lt
    have hy := y.toNat_lt
    have hz := z.toNat_lt
    have hu := u.toNat_lt
    simp [num]
    omega
end Go.Proofs.Ytpelgbcccgdlbaa
