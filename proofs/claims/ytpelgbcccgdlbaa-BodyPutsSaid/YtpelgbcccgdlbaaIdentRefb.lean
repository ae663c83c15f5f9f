/- The document's own answers of chapter 4 (carillonref04) that make memory: Put, FromMac. -/
import Derived.Test.YtpelgbcccgdlbaaIdentRef
import Derived.Test.YtpelgbcccgdlbaaApp
namespace Go.Proofs.Ytpelgbcccgdlbaa
open Go.RowKit Go.Proofs
set_option linter.unusedVariables false
set_option linter.unusedSimpArgs false

set_option maxHeartbeats 800000 in
theorem refIdentPut_any (c p : Int) (w : World) (hc : 0 ≤ c) (hc2 : c < 18446744073709551616) :
    Calls Try.prog 29 #[portV c p] w (NewBytes w (portS c p)) := by
  have HC := hid hc2
  clear hc2
  go_enter Try.func29, Try.ntmps29
  go_wp2_with fail
  obtain ⟨hX, hY⟩ := box2 w (Value.int IntKind.u64 c) (Value.int IntKind.i64 p) 25
  have HX := hid hX
  have HY := hid hY
  have hbw := bnew w (Obj.cells #[Value.int IntKind.u64 c, Value.int IntKind.i64 p] 25)
  clear hX hY
  generalize (w.alloc (Obj.cells #[Value.int IntKind.u64 c, Value.int IntKind.i64 p] 25)) = W at *
  -- REGION refput
  refine wp_region_held_drew (S := fun w' => Below W.drew.heap.size W.drew w') (by kernel_rfl) (Below.refl _ _) ?_
  intro hHeld
  have hbW := Below.drew (Below.refl W.heap.size W)
  generalize W.drew = wd at *
  have hcX := fun wx h => HX.out wx (bnext hbW h)
  have hcY := fun wx h => HY.out wx (bnext hbW h)
  refine rtake 0 rfl (by rfl) (by kernel_rfl) (by kernel_rfl) (by kernel_rfl) (fun _ _ _ h => h) hHeld (fun wx hwx => by go_simp; try with_reducible rfl) ?_
  try simp only [Act.put, List.setIfInBounds_toArray, List.set_cons_zero, List.set_cons_succ]
  refine rtake 1 rfl (by rfl) (by kernel_rfl) (by kernel_rfl) (by kernel_rfl) (fun _ _ _ h => h) hHeld (fun wx hwx => by go_simp; try with_reducible rfl) ?_
  try simp only [Act.put, List.setIfInBounds_toArray, List.set_cons_zero, List.set_cons_succ]
  refine rtake 3 rfl (by rfl) (by kernel_rfl) (by kernel_rfl) (by kernel_rfl) (fun _ _ _ h => h) hHeld (fun wx hwx => by go_simp; try with_reducible rfl) ?_
  try simp only [Act.put, List.setIfInBounds_toArray, List.set_cons_zero, List.set_cons_succ]
  refine rtake 4 rfl (by rfl) (by kernel_rfl) (by kernel_rfl) (by kernel_rfl) (fun _ _ _ h => h) hHeld (fun wx hwx => by go_simp; try with_reducible rfl) ?_
  try simp only [Act.put, List.setIfInBounds_toArray, List.set_cons_zero, List.set_cons_succ]
  -- CALL 2: some 5 := Op.call { callee := Callee.value (Operand.func 30), args := #[Operand.tmp 4], argTypes := #[23] }
  refine rcall 2 rfl (by kernel_rfl) (by rfl) (fun K hK => ?_)
  go_simp
  refine (refPutId_any _ _ hc HC.out).mono ?_
  rintro e wx2 ⟨x2, rfl, own2, hbel2⟩
  have hH := bnext hHeld hbel2
  refine hK.out _ _ hH ?_
  clear hK K hHeld
  have hHeld := hH
  clear hH
  try simp only [Act.put, List.setIfInBounds_toArray, List.set_cons_zero, List.set_cons_succ]
  -- CALL 5: some 8 := Op.call { callee := Callee.value (Operand.func 31), args := #[Operand.tmp 7, Operand.const (Value.int IntKind.i64 2)], argTypes := #[3, 3] }
  refine rcall 5 rfl (by kernel_rfl) (by rfl) (fun K hK => ?_)
  go_simp
  refine (refPut_any _ _ _).mono ?_
  rintro e wx5 ⟨x5, rfl, own5, hbel5⟩
  have own2b := own2.below hbel5
  have hH := bnext hHeld hbel5
  refine hK.out _ _ hH ?_
  clear hK K hHeld
  have hHeld := hH
  clear hH
  try simp only [Act.put, List.setIfInBounds_toArray, List.set_cons_zero, List.set_cons_succ]
  -- CALL 6: some 9 := Op.call { callee := Callee.builtin Builtin.append, args := #[Operand.tmp 5, Operand.tmp 8], argTypes := #[22, 22] }
  refine rcall 6 rfl (by kernel_rfl) (by rfl) (fun K hK => ?_)
  refine op_append_bytes (o := ⟨some 9, _, _, _, _, _⟩) _ _ rfl rfl wd.heap.size _ _ _ _ rfl rfl own2b own5.bytes (by rw [putN_length, putS_length _ 2 (by decide) (by decide)]; decide) hHeld.size ?_
  intro x6 wx6 own6 hbel6
  have hH := hHeld.trans hbel6
  refine hK.out _ _ hH ?_
  clear hK K hHeld
  have hHeld := hH
  clear hH
  try simp only [Act.put, List.setIfInBounds_toArray, List.set_cons_zero, List.set_cons_succ]
  refine rtake 7 rfl (by rfl) (by kernel_rfl) (by kernel_rfl) (by kernel_rfl) (fun _ _ _ h => h) hHeld (fun wx hwx => by go_simp; try with_reducible rfl) ?_
  try simp only [Act.put, List.setIfInBounds_toArray, List.set_cons_zero, List.set_cons_succ]
  refine wpAnyH_done (by kernel_rfl) ?_ _
  -- END REGION refput
  go_wp2_with fail
  go_ret
  refine ⟨x6, rfl, ?_, bnext hbw (bnext hbW hHeld)⟩
  unfold portS
  exact own6.mono (Nat.le_trans hbw.size hbW.size)

theorem mac_num (l : List UInt8) (h : l.length = 6) : numAt (l.take 3 ++ [255, 254] ++ l.drop 3) (Int.toNat 0) 8 = macN l := by
  match l, h with
  | [a, b, c, d, e, f], _ =>
    have ha := a.toNat_lt
    have hb := b.toNat_lt
    have hc := c.toNat_lt
    have hd := d.toNat_lt
    have he := e.toNat_lt
    have hf := f.toNat_lt
    simp [numAt, num, macN]
    omega

end Go.Proofs.Ytpelgbcccgdlbaa
