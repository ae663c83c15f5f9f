/- The document's own answers of chapter 4 (carillonref04) that make memory: Put, FromMac. -/
import Derived.Test.YtkjkjhlcdhdbaaaIdentRef
import Derived.Test.YtkjkjhlcdhdbaaaApp
namespace Go.Proofs.Ytkjkjhlcdhdbaaa
open Go.RowKit Go.Proofs
set_option linter.unusedVariables false
set_option linter.unusedSimpArgs false

set_option maxHeartbeats 800000 in
theorem refIdentPut_any (c p : Int) (w : World) (hc : 0 ≤ c) (hc2 : c < 18446744073709551616) :
    Calls Try.prog 15 #[portV c p] w (NewBytes w (portS c p)) := by
  have HC := hid hc2
  clear hc2
  go_enter Try.func15, Try.ntmps15
  go_wp2_with fail
  obtain ⟨hX, hY⟩ := box2 w (Value.int IntKind.u64 c) (Value.int IntKind.i64 p) 25
  have HX := hid hX
  have HY := hid hY
  have hbw := bnew w (Obj.cells #[Value.int IntKind.u64 c, Value.int IntKind.i64 p] 25)
  clear hX hY
  generalize (w.alloc (Obj.cells #[Value.int IntKind.u64 c, Value.int IntKind.i64 p] 25)) = W at *
  -- REGION refput
  refine wp_region_held_drew (S := fun w' => Below W.drew.heap.size W.drew w') (by kernel_rfl) (Below.refl _ _) ?_
  intro hHeld
  have hbW := Below.drew (Below.refl W.heap.size W)
  generalize W.drew = wd at *
  have hcX := fun wx h => HX.out wx (bnext hbW h)
  have hcY := fun wx h => HY.out wx (bnext hbW h)
  refine rtake 0 rfl (by rfl) (by kernel_rfl) (by kernel_rfl) (by kernel_rfl) (fun _ _ _ h => h) hHeld (fun wx hwx => by go_simp; try with_reducible rfl) ?_
  try simp only [Act.put, List.setIfInBounds_toArray, List.set_cons_zero, List.set_cons_succ]
  refine rtake 1 rfl (by rfl) (by kernel_rfl) (by kernel_rfl) (by kernel_rfl) (fun _ _ _ h => h) hHeld (fun wx hwx => by go_simp; try with_reducible rfl) ?_
  try simp only [Act.put, List.setIfInBounds_toArray, List.set_cons_zero, List.set_cons_succ]
  refine rtake 3 rfl (by rfl) (by kernel_rfl) (by kernel_rfl) (by kernel_rfl) (fun _ _ _ h => h) hHeld (fun wx hwx => by go_simp; try with_reducible rfl) ?_
  try simp only [Act.put, List.setIfInBounds_toArray, List.set_cons_zero, List.set_cons_succ]
  refine rtake 4 rfl (by rfl) (by kernel_rfl) (by kernel_rfl) (by kernel_rfl) (fun _ _ _ h => h) hHeld (fun wx hwx => by go_simp; try with_reducible rfl) ?_
  try simp only [Act.put, List.setIfInBounds_toArray, List.set_cons_zero, List.set_cons_succ]
  -- CALL 2: some 5 := Op.call { callee := Callee.value (Operand.func 30), args := #[Operand.tmp 4], argTypes := #[23] }
  refine rcall 2 rfl (by kernel_rfl) (by rfl) (fun K hK => ?_)
  go_simp
  refine (refPutId_any _ _ hc HC.out).mono ?_
  rintro e wx2 ⟨x2, rfl, own2, hbel2⟩
  have hH := bnext hHeld hbel2
  refine hK.out _ _ hH ?_
  clear hK K hHeld
  have hHeld := hH
  clear hH
  try simp only [Act.put, List.setIfInBounds_toArray, List.set_cons_zero, List.set_cons_succ]
  -- CALL 5: some 8 := Op.call { callee := Callee.value (Operand.func 31), args := #[Operand.tmp 7, Operand.const (Value.int IntKind.i64 2)], argTypes := #[3, 3] }
  refine rcall 5 rfl (by kernel_rfl) (by rfl) (fun K hK => ?_)
  go_simp
  refine (refPut_any _ _ _).mono ?_
  rintro e wx5 ⟨x5, rfl, own5, hbel5⟩
  have own2b := own2.below hbel5
  have hH := bnext hHeld hbel5
  refine hK.out _ _ hH ?_
  clear hK K hHeld
  have hHeld := hH
  clear hH
  try simp only [Act.put, List.setIfInBounds_toArray, List.set_cons_zero, List.set_cons_succ]
  -- CALL 6: some 9 := Op.call { callee := Callee.builtin Builtin.append, args := #[Operand.tmp 5, Operand.tmp 8], argTypes := #[22, 22] }
  refine rcall 6 rfl (by kernel_rfl) (by rfl) (fun K hK => ?_)
  refine op_append_bytes (o := ⟨some 9, _, _, _, _, _⟩) _ _ rfl rfl wd.heap.size _ _ _ _ rfl rfl own2b own5.bytes (by rw [putN_length, putS_length _ 2 (by decide) (by decide)]; decide) hHeld.size ?_
  intro x6 wx6 own6 hbel6
  have hH := hHeld.trans hbel6
  refine hK.out _ _ hH ?_
  clear hK K hHeld
  have hHeld := hH
  clear hH
  try simp only [Act.put, List.setIfInBounds_toArray, List.set_cons_zero, List.set_cons_succ]
  refine rtake 7 rfl (by rfl) (by kernel_rfl) (by kernel_rfl) (by kernel_rfl) (fun _ _ _ h => h) hHeld (fun wx hwx => by go_simp; try with_reducible rfl) ?_
  try simp only [Act.put, List.setIfInBounds_toArray, List.set_cons_zero, List.set_cons_succ]
  refine wpAnyH_done (by kernel_rfl) ?_ _
  -- END REGION refput
  go_wp2_with fail
  go_ret
  refine ⟨x6, rfl, ?_, bnext hbw (bnext hbW hHeld)⟩
  unfold portS
  exact own6.mono (Nat.le_trans hbw.size hbW.size)

theorem mac_num (l : List UInt8) (h : l.length = 6) : numAt (l.take 3 ++ [255, 254] ++ l.drop 3) (Int.toNat 0) 8 = macN l := by
  match l, h with
  | [a, b, c, d, e, f], _ =>
    have ha := a.toNat_lt
    have hb := b.toNat_lt
    have hc := c.toNat_lt
    have hd := d.toNat_lt
    have he := e.toNat_lt
    have hf := f.toNat_lt
    simp [numAt, num, macN]
    omega

set_option maxHeartbeats 1600000 in
theorem refFromMac_any (v : Value) (l : List UInt8) (w : World) (hB : Bytes w v l) (hl : l.length ≤ 140737488355328) :
    Calls Try.prog 13 #[v] w fun e w' => e = .returned (.tuple #[.int .u64 (macV l), .bool (macB l)]) ∧ Below w.heap.size w w' := by
  by_cases h : l.length = 6
  · rw [macV_yes h, macB_yes h]
    have HN := hid (mac_num l h)
    obtain ⟨p, cap, rfl, hcap, hmax, hpat⟩ := hB
    obtain ⟨b, off, rfl, hlt, hc⟩ := hpat.pos (by omega)
    have HA := hid fun (w' : World) (k : Below w.heap.size w w') => (Bytes.cut 0 3 cap hlt hc (by omega) hcap hmax rfl).below k
    have HD := hid fun (w' : World) (k : Below w.heap.size w w') => (Bytes.cut 3 3 (cap - 3) hlt hc (by omega) hcap hmax rfl).below k
    have hl3 : (l.drop 3).take 3 = l.drop 3 := List.take_of_length_le (by rw [List.length_drop]; omega)
    rw [List.drop_zero, Nat.add_zero] at HA
    rw [hl3] at HD
    have hlA : (l.take 3).length = 3 := by rw [List.length_take]; omega
    have hlD : (l.drop 3).length = 3 := by rw [List.length_drop]; omega
    have HlA := hid hlA
    have HlD := hid hlD
    rw [h] at hcap ⊢
    have hcap2 : ¬ cap = 3 := by omega
    have hcap3 : (3 : Int) ≤ (cap : Int) := by omega
    clear hpat hc hl hl3 hlA hlD
    generalize macN l = M at *
    generalize hT : l.take 3 = A at *
    generalize hD : l.drop 3 = D at *
    clear hT hD h
    go_enter Try.func13, Try.ntmps13
    go_wp2_with fail
    -- REGION refmac
    refine wp_region_held_drew (S := fun w' => Below w.drew.heap.size w.drew w') (by kernel_rfl) (Below.refl _ _) ?_
    intro hHeld
    have hbW0 := Below.drew (Below.refl w.heap.size w)
    generalize w.drew = wd at *
    refine rtake 0 rfl (by rfl) (by kernel_rfl) (by kernel_rfl) (by kernel_rfl) (fun _ _ _ h => h) hHeld (fun wx hwx => by go_simp; try with_reducible rfl) ?_
    try simp only [Act.put, List.setIfInBounds_toArray, List.set_cons_zero, List.set_cons_succ]
    refine rtake 1 rfl (by rfl) (by kernel_rfl) (by kernel_rfl) (by kernel_rfl) (fun _ _ _ h => h) hHeld (fun wx hwx => by go_simp; try with_reducible rfl) ?_
    try simp only [Act.put, List.setIfInBounds_toArray, List.set_cons_zero, List.set_cons_succ]
    refine rtake 5 rfl (by rfl) (by kernel_rfl) (by kernel_rfl) (by kernel_rfl) (fun _ _ _ h => h) hHeld (fun wx hwx => by go_simp; try with_reducible rfl) ?_
    try simp only [Act.put, List.setIfInBounds_toArray, List.set_cons_zero, List.set_cons_succ]
    refine rtake 6 rfl (by rfl) (by kernel_rfl) (by kernel_rfl) (by kernel_rfl) (fun _ _ _ h => h) hHeld (fun wx hwx => by go_simp; try with_reducible rfl) ?_
    try simp only [Act.put, List.setIfInBounds_toArray, List.set_cons_zero, List.set_cons_succ]
    refine rtwo 2 3 rfl rfl (by kernel_rfl) (by rfl) (by rfl) (fun K hK => ?_) (fun K hK => ?_)
    · -- CALL 2: some 10 := Op.call { callee := Callee.builtin Builtin.append, args := #[Operand.const (Value.slice none 0 0), Operand.tmp 9], argTypes := #[22, 22] }
      refine op_append_nil (o := ⟨some 10, _, _, _, _, _⟩) _ _ rfl rfl _ A rfl rfl (HA.out _ (bnext hbW0 hHeld)) (by rw [HlA.out]; decide) ?_
      intro x2 wx2 own2 hbel2
      have own2 := own2.mono hHeld.size
      try have hlit := hlit.below hbel2
      have hH := bnext hHeld hbel2
      refine hK.out _ _ hH ?_
      clear hK K hHeld
      have hHeld := hH
      clear hH
      try simp only [Act.put, List.setIfInBounds_toArray, List.set_cons_zero, List.set_cons_succ]
      -- CALL 3: some 11 := Op.buildSlice 22 2 #[(0, Operand.const (Value.int IntKind.u8 255)), (1, Operand.const (Value.int IntKind.u8 254))]
      refine rcall 3 rfl (by kernel_rfl) (by rfl) (fun K hK => ?_)
      go_simp
      have hH := hHeld.alloc hHeld.size (Obj.cells (cellsOf [255, 254]).toArray 5)
      have hlit := lit_later hHeld [255, 254] (by decide)
      try have own2 := own2.below (bnew _ (Obj.cells (cellsOf [255, 254]).toArray 5))
      refine hK.out _ _ hH ?_
      clear hK K hHeld
      have hHeld := hH
      clear hH
      try simp only [Act.put, List.setIfInBounds_toArray, List.set_cons_zero, List.set_cons_succ]
      -- CALL 4: some 12 := Op.call { callee := Callee.builtin Builtin.append, args := #[Operand.tmp 10, Operand.tmp 11], argTypes := #[22, 22] }
      refine rcall 4 rfl (by kernel_rfl) (by rfl) (fun K hK => ?_)
      refine op_append_bytes (o := ⟨some 12, _, _, _, _, _⟩) _ _ rfl rfl wd.heap.size _ _ A [255, 254] rfl rfl own2 hlit (by rw [HlA.out]; decide) hHeld.size ?_
      intro x4 wx4 own4 hbel4
      have hH := hHeld.trans hbel4
      refine hK.out _ _ hH ?_
      clear hK K hHeld
      have hHeld := hH
      clear hH
      try simp only [Act.put, List.setIfInBounds_toArray, List.set_cons_zero, List.set_cons_succ]
      -- CALL 7: some 15 := Op.call { callee := Callee.builtin Builtin.append, args := #[Operand.tmp 12, Operand.tmp 14], argTypes := #[22, 22] }
      refine rcall 7 rfl (by kernel_rfl) (by rfl) (fun K hK => ?_)
      refine op_append_bytes (o := ⟨some 15, _, _, _, _, _⟩) _ _ rfl rfl wd.heap.size _ _ (A ++ [255, 254]) D rfl rfl own4 (HD.out _ (bnext hbW0 hHeld)) (by rw [List.length_append, HlA.out, HlD.out]; decide) hHeld.size ?_
      intro x7 wx7 own7 hbel7
      have hH := hHeld.trans hbel7
      refine hK.out _ _ hH ?_
      clear hK K hHeld
      have hHeld := hH
      clear hH
      try simp only [Act.put, List.setIfInBounds_toArray, List.set_cons_zero, List.set_cons_succ]
      refine rtake 8 rfl (by rfl) (by kernel_rfl) (by kernel_rfl) (by kernel_rfl) (fun _ _ _ h => h) hHeld (fun wx hwx => by go_simp; try with_reducible rfl) ?_
      try simp only [Act.put, List.setIfInBounds_toArray, List.set_cons_zero, List.set_cons_succ]
      refine wpAnyH_done (by kernel_rfl) ?_ _
      go_wp2_with fail
      refine (refId_ok _ (A ++ [255, 254] ++ D) _ _ own7.bytes (by rw [List.length_append, List.length_append, HlA.out, HlD.out]; decide) (by decide) (standB_true (by decide) (by decide) (by rw [List.length_append, List.length_append, HlA.out, HlD.out]; decide))).mono ?_
      rintro e w' ⟨rfl, rfl⟩
      rw [HN.out]
      go_wp2_with fail
      go_ret2
      exact ⟨rfl, bnext hbW0 hHeld⟩
    · -- CALL 3: some 11 := Op.buildSlice 22 2 #[(0, Operand.const (Value.int IntKind.u8 255)), (1, Operand.const (Value.int IntKind.u8 254))]
      go_simp
      have hH := hHeld.alloc hHeld.size (Obj.cells (cellsOf [255, 254]).toArray 5)
      have hlit := lit_later hHeld [255, 254] (by decide)
      try have own2 := own2.below (bnew _ (Obj.cells (cellsOf [255, 254]).toArray 5))
      refine hK.out _ _ hH ?_
      clear hK K hHeld
      have hHeld := hH
      clear hH
      try simp only [Act.put, List.setIfInBounds_toArray, List.set_cons_zero, List.set_cons_succ]
      -- CALL 2: some 10 := Op.call { callee := Callee.builtin Builtin.append, args := #[Operand.const (Value.slice none 0 0), Operand.tmp 9], argTypes := #[22, 22] }
      refine rcall 2 rfl (by kernel_rfl) (by rfl) (fun K hK => ?_)
      refine op_append_nil (o := ⟨some 10, _, _, _, _, _⟩) _ _ rfl rfl _ A rfl rfl (HA.out _ (bnext hbW0 hHeld)) (by rw [HlA.out]; decide) ?_
      intro x2 wx2 own2 hbel2
      have own2 := own2.mono hHeld.size
      try have hlit := hlit.below hbel2
      have hH := bnext hHeld hbel2
      refine hK.out _ _ hH ?_
      clear hK K hHeld
      have hHeld := hH
      clear hH
      try simp only [Act.put, List.setIfInBounds_toArray, List.set_cons_zero, List.set_cons_succ]
      -- CALL 4: some 12 := Op.call { callee := Callee.builtin Builtin.append, args := #[Operand.tmp 10, Operand.tmp 11], argTypes := #[22, 22] }
      refine rcall 4 rfl (by kernel_rfl) (by rfl) (fun K hK => ?_)
      refine op_append_bytes (o := ⟨some 12, _, _, _, _, _⟩) _ _ rfl rfl wd.heap.size _ _ A [255, 254] rfl rfl own2 hlit (by rw [HlA.out]; decide) hHeld.size ?_
      intro x4 wx4 own4 hbel4
      have hH := hHeld.trans hbel4
      refine hK.out _ _ hH ?_
      clear hK K hHeld
      have hHeld := hH
      clear hH
      try simp only [Act.put, List.setIfInBounds_toArray, List.set_cons_zero, List.set_cons_succ]
      -- CALL 7: some 15 := Op.call { callee := Callee.builtin Builtin.append, args := #[Operand.tmp 12, Operand.tmp 14], argTypes := #[22, 22] }
      refine rcall 7 rfl (by kernel_rfl) (by rfl) (fun K hK => ?_)
      refine op_append_bytes (o := ⟨some 15, _, _, _, _, _⟩) _ _ rfl rfl wd.heap.size _ _ (A ++ [255, 254]) D rfl rfl own4 (HD.out _ (bnext hbW0 hHeld)) (by rw [List.length_append, HlA.out, HlD.out]; decide) hHeld.size ?_
      intro x7 wx7 own7 hbel7
      have hH := hHeld.trans hbel7
      refine hK.out _ _ hH ?_
      clear hK K hHeld
      have hHeld := hH
      clear hH
      try simp only [Act.put, List.setIfInBounds_toArray, List.set_cons_zero, List.set_cons_succ]
      refine rtake 8 rfl (by rfl) (by kernel_rfl) (by kernel_rfl) (by kernel_rfl) (fun _ _ _ h => h) hHeld (fun wx hwx => by go_simp; try with_reducible rfl) ?_
      try simp only [Act.put, List.setIfInBounds_toArray, List.set_cons_zero, List.set_cons_succ]
      refine wpAnyH_done (by kernel_rfl) ?_ _
      go_wp2_with fail
      refine (refId_ok _ (A ++ [255, 254] ++ D) _ _ own7.bytes (by rw [List.length_append, List.length_append, HlA.out, HlD.out]; decide) (by decide) (standB_true (by decide) (by decide) (by rw [List.length_append, List.length_append, HlA.out, HlD.out]; decide))).mono ?_
      rintro e w' ⟨rfl, rfl⟩
      rw [HN.out]
      go_wp2_with fail
      go_ret2
      exact ⟨rfl, bnext hbW0 hHeld⟩
    -- END REGION refmac
  · rw [macV_no h, macB_no h]
    obtain ⟨p, cap, rfl, hcap, hmax, hpat⟩ := hB
    clear hpat
    go_enter Try.func13, Try.ntmps13
    go_wp2
    go_ret2
    exact ⟨rfl, Below.refl _ _⟩
end Go.Proofs.Ytkjkjhlcdhdbaaa
