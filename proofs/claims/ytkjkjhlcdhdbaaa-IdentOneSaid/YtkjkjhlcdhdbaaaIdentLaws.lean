/- The walks of the laws IdentPairs, IdentOrder, IdentAll. -/
import Derived.Test.YtkjkjhlcdhdbaaaIdentb
import Derived.Test.YtkjkjhlcdhdbaaaIdentRef
namespace Go.Proofs.Ytkjkjhlcdhdbaaa
open Go.RowKit Go.Proofs
set_option linter.unusedVariables false
set_option linter.unusedSimpArgs false

/-- Two boxes of two cells. -/
theorem boxes2 (w : World) (x y x' y' : Value) (t : TypeId) : ∃ W, W = (w.alloc (Obj.cells #[x, y] t)).alloc (Obj.cells #[x', y'] t) ∧ Below w.heap.size w W ∧
    Hid (∀ wx, Below W.heap.size W wx → wx.cell? ⟨w.heap.size, 0, none⟩ = some x) ∧ Hid (∀ wx, Below W.heap.size W wx → wx.cell? ⟨w.heap.size, 1, none⟩ = some y) ∧
    Hid (∀ wx, Below W.heap.size W wx → wx.cell? ⟨w.heap.size + 1, 0, none⟩ = some x') ∧ Hid (∀ wx, Below W.heap.size W wx → wx.cell? ⟨w.heap.size + 1, 1, none⟩ = some y') := by
  obtain ⟨hX, hY⟩ := box2 w x y t
  obtain ⟨hZ, hU⟩ := box2 (w.alloc (Obj.cells #[x, y] t)) x' y' t
  have hs : (w.alloc (Obj.cells #[x, y] t)).heap.size = w.heap.size + 1 := by simp
  rw [hs] at hZ hU
  exact ⟨_, rfl, bnew2 _ _ _, hid fun wx h => hX wx (bnext (bnew _ _) h), hid fun wx h => hY wx (bnext (bnew _ _) h), hid hZ, hid hU⟩

set_option maxHeartbeats 1600000 in
theorem identPairs_walk (a : Int) (w0 : (Lit.int .u64 a).wf = true) (a' : Int) (w0' : (Lit.int .i64 a').wf = true) (b : Int) (w1 : (Lit.int .u64 b).wf = true) (b' : Int) (w1' : (Lit.int .i64 b').wf = true) (w : World) :
    Calls Try.prog 4 #[portV a a', portV b b'] w fun e w' => e = .returned (.bool true) ∧ Below w.heap.size w w' := by
  clear w0 w0' w1 w1'
  go_enter Try.func4, Try.ntmps4
  go_wp2_with fail
  obtain ⟨W, hWe, hbw, HX, HY, HZ, HU⟩ := boxes2 w (.int .u64 a) (.int .i64 a') (.int .u64 b) (.int .i64 b') 25
  rw [← hWe]
  clear hWe
  -- REGION pairs
  refine wp_region_held_drew (S := fun w' => Below W.drew.heap.size W.drew w') (by kernel_rfl) (Below.refl _ _) ?_
  intro hHeld
  have hbW := Below.drew (Below.refl W.heap.size W)
  generalize W.drew = wd at *
  have hcX := fun wx h => HX.out wx (bnext hbW h)
  have hcY := fun wx h => HY.out wx (bnext hbW h)
  have hcZ := fun wx h => HZ.out wx (bnext hbW h)
  have hcU := fun wx h => HU.out wx (bnext hbW h)
  refine rtake 0 rfl (by rfl) (by kernel_rfl) (by kernel_rfl) (by kernel_rfl) (fun _ _ _ h => h) hHeld (fun wx hwx => by go_simp; try with_reducible rfl) ?_
  try simp only [Act.put, List.setIfInBounds_toArray, List.set_cons_zero, List.set_cons_succ]
  refine rtake 1 rfl (by rfl) (by kernel_rfl) (by kernel_rfl) (by kernel_rfl) (fun _ _ _ h => h) hHeld (fun wx hwx => by go_simp; try with_reducible rfl) ?_
  try simp only [Act.put, List.setIfInBounds_toArray, List.set_cons_zero, List.set_cons_succ]
  refine rtake 3 rfl (by rfl) (by kernel_rfl) (by kernel_rfl) (by kernel_rfl) (fun _ _ _ h => h) hHeld (fun wx hwx => by go_simp; try with_reducible rfl) ?_
  try simp only [Act.put, List.setIfInBounds_toArray, List.set_cons_zero, List.set_cons_succ]
  refine rtake 4 rfl (by rfl) (by kernel_rfl) (by kernel_rfl) (by kernel_rfl) (fun _ _ _ h => h) hHeld (fun wx hwx => by go_simp; try with_reducible rfl) ?_
  try simp only [Act.put, List.setIfInBounds_toArray, List.set_cons_zero, List.set_cons_succ]
  -- CALL 2: some 7 := Op.call { callee := Callee.value (Operand.func 19), args := #[Operand.tmp 5, Operand.tmp 6], argTypes := #[25, 25] }
  refine rcall 2 rfl (by kernel_rfl) (by rfl) (fun K hK => ?_)
  go_simp
  refine (compare_any _ _ _ _ _).mono ?_
  rintro e wx2 ⟨rfl, hbel⟩
  refine hK.out _ _ hbel ?_
  clear hK K
  refine wpAnyH_mono (S' := fun w' => Below wx2.heap.size wx2 w') (fun w' h => bnext hbel h) _ _ _ _ ?_
  have hH := Below.refl wx2.heap.size wx2
  have hW := bnext hbW hbel
  clear hbel hbW hHeld
  have hHeld := hH
  have hbW := hW
  clear hH hW
  have hsz2 := hbW.size
  replace hcX := fun wx h => HX.out wx (bnext hbW h)
  replace hcY := fun wx h => HY.out wx (bnext hbW h)
  replace hcZ := fun wx h => HZ.out wx (bnext hbW h)
  replace hcU := fun wx h => HU.out wx (bnext hbW h)
  try simp only [Act.put, List.setIfInBounds_toArray, List.set_cons_zero, List.set_cons_succ]
  -- CALL 5: some 10 := Op.call { callee := Callee.value (Operand.func 20), args := #[Operand.tmp 8, Operand.tmp 9], argTypes := #[25, 25] }
  refine rcall 5 rfl (by kernel_rfl) (by rfl) (fun K hK => ?_)
  go_simp
  refine (refCompare_any _ _ _ _ _).mono ?_
  rintro e wx5 ⟨rfl, hbel⟩
  refine hK.out _ _ hbel ?_
  clear hK K
  refine wpAnyH_mono (S' := fun w' => Below wx5.heap.size wx5 w') (fun w' h => bnext hbel h) _ _ _ _ ?_
  have hH := Below.refl wx5.heap.size wx5
  have hW := bnext hbW hbel
  clear hbel hbW hHeld
  have hHeld := hH
  have hbW := hW
  clear hH hW
  have hsz5 := hbW.size
  replace hcX := fun wx h => HX.out wx (bnext hbW h)
  replace hcY := fun wx h => HY.out wx (bnext hbW h)
  replace hcZ := fun wx h => HZ.out wx (bnext hbW h)
  replace hcU := fun wx h => HU.out wx (bnext hbW h)
  try simp only [Act.put, List.setIfInBounds_toArray, List.set_cons_zero, List.set_cons_succ]
  refine rtake 6 rfl (by rfl) (by kernel_rfl) (by kernel_rfl) (by kernel_rfl) (fun _ _ _ h => h) hHeld (fun wx hwx => by go_simp; try with_reducible rfl) ?_
  try simp only [Act.put, List.setIfInBounds_toArray, List.set_cons_zero, List.set_cons_succ]
  refine rtake 7 rfl (by rfl) (by kernel_rfl) (by kernel_rfl) (by kernel_rfl) (fun _ _ _ h => h) hHeld (fun wx hwx => by go_simp; try with_reducible rfl) ?_
  try simp only [Act.put, List.setIfInBounds_toArray, List.set_cons_zero, List.set_cons_succ]
  refine rtake 8 rfl (by rfl) (by kernel_rfl) (by kernel_rfl) (by kernel_rfl) (fun _ _ _ h => h) hHeld (fun wx hwx => by go_simp; try with_reducible rfl) ?_
  try simp only [Act.put, List.setIfInBounds_toArray, List.set_cons_zero, List.set_cons_succ]
  refine rtake 9 rfl (by rfl) (by kernel_rfl) (by kernel_rfl) (by kernel_rfl) (fun _ _ _ h => h) hHeld (fun wx hwx => by go_simp; try with_reducible rfl) ?_
  try simp only [Act.put, List.setIfInBounds_toArray, List.set_cons_zero, List.set_cons_succ]
  refine rtake 11 rfl (by rfl) (by kernel_rfl) (by kernel_rfl) (by kernel_rfl) (fun _ _ _ h => h) hHeld (fun wx hwx => by go_simp; try with_reducible rfl) ?_
  try simp only [Act.put, List.setIfInBounds_toArray, List.set_cons_zero, List.set_cons_succ]
  refine rtake 12 rfl (by rfl) (by kernel_rfl) (by kernel_rfl) (by kernel_rfl) (fun _ _ _ h => h) hHeld (fun wx hwx => by go_simp; try with_reducible rfl) ?_
  try simp only [Act.put, List.setIfInBounds_toArray, List.set_cons_zero, List.set_cons_succ]
  -- CALL 10: some 15 := Op.call { callee := Callee.value (Operand.func 21), args := #[Operand.tmp 13, Operand.tmp 14], argTypes := #[25, 25] }
  refine rcall 10 rfl (by kernel_rfl) (by rfl) (fun K hK => ?_)
  go_simp
  refine (meant_any _ _ _ _ _).mono ?_
  rintro e wx10 ⟨rfl, hbel⟩
  refine hK.out _ _ hbel ?_
  clear hK K
  refine wpAnyH_mono (S' := fun w' => Below wx10.heap.size wx10 w') (fun w' h => bnext hbel h) _ _ _ _ ?_
  have hH := Below.refl wx10.heap.size wx10
  have hW := bnext hbW hbel
  clear hbel hbW hHeld
  have hHeld := hH
  have hbW := hW
  clear hH hW
  have hsz10 := hbW.size
  replace hcX := fun wx h => HX.out wx (bnext hbW h)
  replace hcY := fun wx h => HY.out wx (bnext hbW h)
  replace hcZ := fun wx h => HZ.out wx (bnext hbW h)
  replace hcU := fun wx h => HU.out wx (bnext hbW h)
  try simp only [Act.put, List.setIfInBounds_toArray, List.set_cons_zero, List.set_cons_succ]
  -- CALL 13: some 18 := Op.call { callee := Callee.value (Operand.func 22), args := #[Operand.tmp 16, Operand.tmp 17], argTypes := #[25, 25] }
  refine rcall 13 rfl (by kernel_rfl) (by rfl) (fun K hK => ?_)
  go_simp
  refine (refMeant_any _ _ _ _ _).mono ?_
  rintro e wx13 ⟨rfl, hbel⟩
  refine hK.out _ _ hbel ?_
  clear hK K
  refine wpAnyH_mono (S' := fun w' => Below wx13.heap.size wx13 w') (fun w' h => bnext hbel h) _ _ _ _ ?_
  have hH := Below.refl wx13.heap.size wx13
  have hW := bnext hbW hbel
  clear hbel hbW hHeld
  have hHeld := hH
  have hbW := hW
  clear hH hW
  have hsz13 := hbW.size
  replace hcX := fun wx h => HX.out wx (bnext hbW h)
  replace hcY := fun wx h => HY.out wx (bnext hbW h)
  replace hcZ := fun wx h => HZ.out wx (bnext hbW h)
  replace hcU := fun wx h => HU.out wx (bnext hbW h)
  try simp only [Act.put, List.setIfInBounds_toArray, List.set_cons_zero, List.set_cons_succ]
  refine rtake 14 rfl (by rfl) (by kernel_rfl) (by kernel_rfl) (by kernel_rfl) (fun _ _ _ h => h) hHeld (fun wx hwx => by go_simp; try with_reducible rfl) ?_
  try simp only [Act.put, List.setIfInBounds_toArray, List.set_cons_zero, List.set_cons_succ]
  refine rtake 15 rfl (by rfl) (by kernel_rfl) (by kernel_rfl) (by kernel_rfl) (fun _ _ _ h => h) hHeld (fun wx hwx => by go_simp; try with_reducible rfl) ?_
  try simp only [Act.put, List.setIfInBounds_toArray, List.set_cons_zero, List.set_cons_succ]
  refine rtake 16 rfl (by rfl) (by kernel_rfl) (by kernel_rfl) (by kernel_rfl) (fun _ _ _ h => h) hHeld (fun wx hwx => by go_simp; try with_reducible rfl) ?_
  try simp only [Act.put, List.setIfInBounds_toArray, List.set_cons_zero, List.set_cons_succ]
  -- CALL 17: some 22 := Op.call { callee := Callee.value (Operand.func 18), args := #[], argTypes := #[] }
  refine rcall 17 rfl (by kernel_rfl) (by rfl) (fun K hK => ?_)
  go_simp
  refine (awake04_any _).mono ?_
  rintro e wx17 ⟨rfl, hbel⟩
  refine hK.out _ _ hbel ?_
  clear hK K
  refine wpAnyH_mono (S' := fun w' => Below wx17.heap.size wx17 w') (fun w' h => bnext hbel h) _ _ _ _ ?_
  have hH := Below.refl wx17.heap.size wx17
  have hW := bnext hbW hbel
  clear hbel hbW hHeld
  have hHeld := hH
  have hbW := hW
  clear hH hW
  have hsz17 := hbW.size
  replace hcX := fun wx h => HX.out wx (bnext hbW h)
  replace hcY := fun wx h => HY.out wx (bnext hbW h)
  replace hcZ := fun wx h => HZ.out wx (bnext hbW h)
  replace hcU := fun wx h => HU.out wx (bnext hbW h)
  try simp only [Act.put, List.setIfInBounds_toArray, List.set_cons_zero, List.set_cons_succ]
  refine rtake 18 rfl (by rfl) (by kernel_rfl) (by kernel_rfl) (by kernel_rfl) (fun _ _ _ h => h) hHeld (fun wx hwx => by go_simp; try with_reducible rfl) ?_
  try simp only [Act.put, List.setIfInBounds_toArray, List.set_cons_zero, List.set_cons_succ]
  refine rtake 19 rfl (by rfl) (by kernel_rfl) (by kernel_rfl) (by kernel_rfl) (fun _ _ _ h => h) hHeld (fun wx hwx => by go_simp; try with_reducible rfl) ?_
  try simp only [Act.put, List.setIfInBounds_toArray, List.set_cons_zero, List.set_cons_succ]
  refine wpAnyH_done (by kernel_rfl) ?_ _
  -- END REGION pairs
  go_wp2_with fail
  go_ret
  exact ⟨rfl, bnext hbw hbW⟩

/-- Three boxes of two cells. -/
theorem boxes3 (w : World) (x y x' y' x'' y'' : Value) (t : TypeId) : ∃ W, W = ((w.alloc (Obj.cells #[x, y] t)).alloc (Obj.cells #[x', y'] t)).alloc (Obj.cells #[x'', y''] t) ∧ Below w.heap.size w W ∧
    Hid (∀ wx, Below W.heap.size W wx → wx.cell? ⟨w.heap.size, 0, none⟩ = some x) ∧ Hid (∀ wx, Below W.heap.size W wx → wx.cell? ⟨w.heap.size, 1, none⟩ = some y) ∧
    Hid (∀ wx, Below W.heap.size W wx → wx.cell? ⟨w.heap.size + 1, 0, none⟩ = some x') ∧ Hid (∀ wx, Below W.heap.size W wx → wx.cell? ⟨w.heap.size + 1, 1, none⟩ = some y') ∧
    Hid (∀ wx, Below W.heap.size W wx → wx.cell? ⟨w.heap.size + 1 + 1, 0, none⟩ = some x'') ∧ Hid (∀ wx, Below W.heap.size W wx → wx.cell? ⟨w.heap.size + 1 + 1, 1, none⟩ = some y'') := by
  obtain ⟨W, hW, hb, hX, hY, hZ, hU⟩ := boxes2 w x y x' y' t
  have hs : W.heap.size = w.heap.size + 1 + 1 := by rw [hW]; simp
  obtain ⟨hV, hT⟩ := box2 W x'' y'' t
  rw [hs] at hV hT
  subst hW
  exact ⟨_, rfl, bnext hb (bnew _ _), hid fun wx h => hX.out wx (bnext (bnew _ _) h), hid fun wx h => hY.out wx (bnext (bnew _ _) h), hid fun wx h => hZ.out wx (bnext (bnew _ _) h), hid fun wx h => hU.out wx (bnext (bnew _ _) h),
    hid hV, hid hT⟩

theorem compare_is {a a' b b' x : Int} (h : Hid (cmpP a a' b b' = x)) (w : World) :
    Calls Try.prog 19 #[portV a a', portV b b'] w fun e w' => e = .returned (.int .i64 x) ∧ Below w.heap.size w w' := h.out ▸ compare_any a a' b b' w

theorem less_app : ∀ (a b c d : List UInt8), a.length = b.length → Op.bytesLess (a ++ c) (b ++ d) = (Op.bytesLess a b || (a == b && Op.bytesLess c d))
  | [], [], c, d, _ => by simp [Op.bytesLess]
  | x :: a, y :: b, c, d, h => by
    have ih := less_app a b c d (by simpa using h)
    have e0 : (x :: a == y :: b) = (x == y && a == b) := rfl
    rw [List.cons_append, List.cons_append, Op.bytesLess, Op.bytesLess, ih, e0]
    cases decide (x < y) <;> cases (x == y) <;> cases Op.bytesLess a b <;> simp

theorem same_app : ∀ (a b c d : List UInt8), a.length = b.length → (a ++ c == b ++ d) = (a == b && c == d)
  | [], [], c, d, _ => by simp
  | x :: a, y :: b, c, d, h => by
    have ih := same_app a b c d (by simpa using h)
    have e0 : (x :: a == y :: b) = (x == y && a == b) := rfl
    have e1 : (x :: (a ++ c) == y :: (b ++ d)) = (x == y && (a ++ c == b ++ d)) := rfl
    rw [List.cons_append, List.cons_append, e1, ih, e0, Bool.and_assoc]

theorem mayP_iff {p : Int} : mayP p = true ↔ 0 ≤ p ∧ p ≤ 65535 := by simp [mayP]

theorem less_portS {a a' b b' : Int} (ha : 0 ≤ a) (ha2 : a < 18446744073709551616) (hb : 0 ≤ b) (hb2 : b < 18446744073709551616) (ma : mayP a' = true) (mb : mayP b' = true) :
    Op.bytesLess (portS a a') (portS b b') = decide (cmpP a a' b b' < 0) := by
  obtain ⟨a0, a1⟩ := mayP_iff.1 ma
  obtain ⟨b0, b1⟩ := mayP_iff.1 mb
  unfold portS
  rw [less_app _ _ _ _ (by rw [putN_length, putN_length]), less_putN, same_putN, less_putS _ _ 2 a0 b0 (by decide) (by simp; omega) (by simp; omega), Bool.eq_iff_iff]
  rw [show (256 : Nat) ^ 8 = 18446744073709551616 from rfl, Nat.mod_eq_of_lt (by omega), Nat.mod_eq_of_lt (by omega)]
  simp only [Bool.or_eq_true, Bool.and_eq_true, decide_eq_true_eq]
  unfold cmpP cmpI
  split
  · split
    · omega
    · split <;> omega
  · split
    · omega
    · split <;> omega

theorem same_portS {a a' b b' : Int} (ha : 0 ≤ a) (ha2 : a < 18446744073709551616) (hb : 0 ≤ b) (hb2 : b < 18446744073709551616) (ma : mayP a' = true) (mb : mayP b' = true) :
    (portS a a' == portS b b') = decide (cmpP a a' b b' = 0) := by
  obtain ⟨a0, a1⟩ := mayP_iff.1 ma
  obtain ⟨b0, b1⟩ := mayP_iff.1 mb
  unfold portS
  rw [same_app _ _ _ _ (by rw [putN_length, putN_length]), same_putN, same_putS _ _ 2 a0 b0 (by decide) (by simp; omega) (by simp; omega), Bool.eq_iff_iff]
  rw [show (256 : Nat) ^ 8 = 18446744073709551616 from rfl, Nat.mod_eq_of_lt (by omega), Nat.mod_eq_of_lt (by omega)]
  simp only [Bool.and_eq_true, decide_eq_true_eq, beq_iff_eq]
  unfold cmpP cmpI
  split
  · split
    · omega
    · split <;> omega
  · split
    · omega
    · split <;> omega

/-- Four boxes of two cells. -/
theorem boxes4 (w : World) (x y x' y' u v u' v' : Value) (t : TypeId) : ∃ W, W = (((w.alloc (Obj.cells #[x, y] t)).alloc (Obj.cells #[x', y'] t)).alloc (Obj.cells #[u, v] t)).alloc (Obj.cells #[u', v'] t) ∧ Below w.heap.size w W ∧
    Hid (∀ wx, Below W.heap.size W wx → wx.cell? ⟨w.heap.size, 0, none⟩ = some x) ∧ Hid (∀ wx, Below W.heap.size W wx → wx.cell? ⟨w.heap.size, 1, none⟩ = some y) ∧
    Hid (∀ wx, Below W.heap.size W wx → wx.cell? ⟨w.heap.size + 1, 0, none⟩ = some x') ∧ Hid (∀ wx, Below W.heap.size W wx → wx.cell? ⟨w.heap.size + 1, 1, none⟩ = some y') ∧
    Hid (∀ wx, Below W.heap.size W wx → wx.cell? ⟨w.heap.size + 1 + 1, 0, none⟩ = some u) ∧ Hid (∀ wx, Below W.heap.size W wx → wx.cell? ⟨w.heap.size + 1 + 1, 1, none⟩ = some v) ∧
    Hid (∀ wx, Below W.heap.size W wx → wx.cell? ⟨w.heap.size + 1 + 1 + 1, 0, none⟩ = some u') ∧ Hid (∀ wx, Below W.heap.size W wx → wx.cell? ⟨w.heap.size + 1 + 1 + 1, 1, none⟩ = some v') := by
  obtain ⟨W, hW, hb, hX, hY, hZ, hU⟩ := boxes2 w x y x' y' t
  have hs : W.heap.size = w.heap.size + 1 + 1 := by rw [hW]; simp
  obtain ⟨W2, hW2, hb2, hV, hT, hR, hS⟩ := boxes2 W u v u' v' t
  rw [hs] at hV hT hR hS
  subst hW
  exact ⟨W2, hW2, bnext hb hb2, hid fun wx h => hX.out wx (bnext hb2 h), hid fun wx h => hY.out wx (bnext hb2 h), hid fun wx h => hZ.out wx (bnext hb2 h), hid fun wx h => hU.out wx (bnext hb2 h), hV, hT, hR, hS⟩

theorem meant_is {t t' p p' : Int} {x : Bool} (h : Hid (meantB t t' p p' = x)) (w : World) :
    Calls Try.prog 21 #[portV t t', portV p p'] w fun e w' => e = .returned (.bool x) ∧ Below w.heap.size w w' := h.out ▸ meant_any t t' p p' w

theorem cmpI_range (a b : Int) : cmpI a b = -1 ∧ a < b ∨ cmpI a b = 0 ∧ a = b ∨ cmpI a b = 1 ∧ b < a := by
  unfold cmpI
  split
  · exact .inl ⟨rfl, by assumption⟩
  · split
    · exact .inr (.inr ⟨rfl, by assumption⟩)
    · exact .inr (.inl ⟨rfl, by omega⟩)

theorem cmpP_range (a a' b b' : Int) : cmpP a a' b b' = -1 ∧ (a < b ∨ a = b ∧ a' < b') ∨ cmpP a a' b b' = 0 ∧ a = b ∧ a' = b' ∨ cmpP a a' b b' = 1 ∧ (b < a ∨ a = b ∧ b' < a') := by
  unfold cmpP
  have h := cmpI_range a b
  have h' := cmpI_range a' b'
  split <;> omega

end Go.Proofs.Ytkjkjhlcdhdbaaa
