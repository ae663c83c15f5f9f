/- Package quality: Compare (by cmp.Or of three), in a region that draws its order. -/
import Derived.Test.YtclpblhjfaodbaaQual
namespace Go.Proofs.Ytclpblhjfaodbaa
open Go.RowKit Go.Proofs
set_option maxRecDepth 50000
set_option linter.unusedVariables false
set_option linter.unusedSimpArgs false

theorem boxAt (w : World) (cs : Array Value) (t : TypeId) (i : Nat) (v : Value) (h : cs[i]? = some v) :
    ∀ wx, Below (w.alloc (Obj.cells cs t)).heap.size (w.alloc (Obj.cells cs t)) wx → wx.cell? ⟨w.heap.size, i, none⟩ = some v := by
  intro wx hb
  rw [hb.cell (by simp)]
  simp only [World.cell?]
  rw [heap_alloc_new]
  exact h

/-- A quality in a box. -/
abbrev qCells (c a v : Int) : Obj := Obj.cells #[.int .i64 c, .int .i64 a, .int .i64 v] 23

theorem qbox1 (w : World) (c a v : Int) : ∃ W, W = w.alloc (qCells c a v) ∧ Below w.heap.size w W ∧
    Hid (∀ wx, Below W.heap.size W wx → wx.cell? ⟨w.heap.size, 0, none⟩ = some (.int .i64 c)) ∧ Hid (∀ wx, Below W.heap.size W wx → wx.cell? ⟨w.heap.size, 1, none⟩ = some (.int .i64 a)) ∧
    Hid (∀ wx, Below W.heap.size W wx → wx.cell? ⟨w.heap.size, 2, none⟩ = some (.int .i64 v)) :=
  ⟨_, rfl, bnew _ _, hid (boxAt _ _ _ 0 _ rfl), hid (boxAt _ _ _ 1 _ rfl), hid (boxAt _ _ _ 2 _ rfl)⟩

theorem qbox2 (w : World) (c a v c' a' v' : Int) : ∃ W, W = (w.alloc (qCells c a v)).alloc (qCells c' a' v') ∧ Below w.heap.size w W ∧
    Hid (∀ wx, Below W.heap.size W wx → wx.cell? ⟨w.heap.size, 0, none⟩ = some (.int .i64 c)) ∧ Hid (∀ wx, Below W.heap.size W wx → wx.cell? ⟨w.heap.size, 1, none⟩ = some (.int .i64 a)) ∧
    Hid (∀ wx, Below W.heap.size W wx → wx.cell? ⟨w.heap.size, 2, none⟩ = some (.int .i64 v)) ∧
    Hid (∀ wx, Below W.heap.size W wx → wx.cell? ⟨w.heap.size + 1, 0, none⟩ = some (.int .i64 c')) ∧ Hid (∀ wx, Below W.heap.size W wx → wx.cell? ⟨w.heap.size + 1, 1, none⟩ = some (.int .i64 a')) ∧
    Hid (∀ wx, Below W.heap.size W wx → wx.cell? ⟨w.heap.size + 1, 2, none⟩ = some (.int .i64 v')) := by
  obtain ⟨W, hW, hb, h0, h1, h2⟩ := qbox1 w c a v
  have hs : W.heap.size = w.heap.size + 1 := by rw [hW]; simp
  obtain ⟨W', hW', hb', h3, h4, h5⟩ := qbox1 W c' a' v'
  rw [hs] at h3 h4 h5
  subst hW hW'
  exact ⟨_, rfl, bnext hb hb', hid fun wx h => h0.out wx (bnext hb' h), hid fun wx h => h1.out wx (bnext hb' h), hid fun wx h => h2.out wx (bnext hb' h), h3, h4, h5⟩

theorem qbox3 (w : World) (c a v c' a' v' c'' a'' v'' : Int) : ∃ W, W = ((w.alloc (qCells c a v)).alloc (qCells c' a' v')).alloc (qCells c'' a'' v'') ∧ Below w.heap.size w W ∧
    Hid (∀ wx, Below W.heap.size W wx → wx.cell? ⟨w.heap.size, 0, none⟩ = some (.int .i64 c)) ∧ Hid (∀ wx, Below W.heap.size W wx → wx.cell? ⟨w.heap.size, 1, none⟩ = some (.int .i64 a)) ∧
    Hid (∀ wx, Below W.heap.size W wx → wx.cell? ⟨w.heap.size, 2, none⟩ = some (.int .i64 v)) ∧
    Hid (∀ wx, Below W.heap.size W wx → wx.cell? ⟨w.heap.size + 1, 0, none⟩ = some (.int .i64 c')) ∧ Hid (∀ wx, Below W.heap.size W wx → wx.cell? ⟨w.heap.size + 1, 1, none⟩ = some (.int .i64 a')) ∧
    Hid (∀ wx, Below W.heap.size W wx → wx.cell? ⟨w.heap.size + 1, 2, none⟩ = some (.int .i64 v')) ∧
    Hid (∀ wx, Below W.heap.size W wx → wx.cell? ⟨w.heap.size + 1 + 1, 0, none⟩ = some (.int .i64 c'')) ∧ Hid (∀ wx, Below W.heap.size W wx → wx.cell? ⟨w.heap.size + 1 + 1, 1, none⟩ = some (.int .i64 a'')) ∧
    Hid (∀ wx, Below W.heap.size W wx → wx.cell? ⟨w.heap.size + 1 + 1, 2, none⟩ = some (.int .i64 v'')) := by
  obtain ⟨W, hW, hb, h0, h1, h2, h3, h4, h5⟩ := qbox2 w c a v c' a' v'
  have hs : W.heap.size = w.heap.size + 1 + 1 := by rw [hW]; simp
  obtain ⟨W', hW', hb', h6, h7, h8⟩ := qbox1 W c'' a'' v''
  rw [hs] at h6 h7 h8
  subst hW hW'
  exact ⟨_, rfl, bnext hb hb', hid fun wx h => h0.out wx (bnext hb' h), hid fun wx h => h1.out wx (bnext hb' h), hid fun wx h => h2.out wx (bnext hb' h), hid fun wx h => h3.out wx (bnext hb' h),
    hid fun wx h => h4.out wx (bnext hb' h), hid fun wx h => h5.out wx (bnext hb' h), h6, h7, h8⟩

set_option maxHeartbeats 800000 in
theorem orI_any (v : Value) (zs : List Int) (w : World) (hI : Ints w v zs) :
    Calls Try.prog 27 #[v] w fun e w' => e = .returned (.int .i64 (orI zs)) ∧ w = w' := by
  obtain ⟨p, cap, rfl, hcap, hmax, hat⟩ := hI
  have HAT := hid fun h => hat.pos h
  have HO := hid (orI_drop zs)
  have HE := hid (show orI (zs.drop zs.length) = 0 by rw [List.drop_length]; rfl)
  have h0 : orI zs = orI (zs.drop 0) := rfl
  have H0 := hid h0
  unfold maxLen at hmax
  clear hat h0
  go_enter Try.func27, Try.ntmps27
  go_wp2_with fail
  go_loop [8] (fun i => ∃ k : Nat, k ≤ zs.length ∧ i = .int .i64 k ∧ Hid (orI zs = orI (zs.drop k))) (fun i => zs.length - (intOf i).toNat)
  case atStart => exact ⟨0, Nat.zero_le _, rfl, H0⟩
  case round =>
    obtain ⟨k, hk, rfl, hX⟩ := hrel
    by_cases hlt : k < zs.length
    · obtain ⟨b, off, rfl, hbl, hc⟩ := HAT.out (by omega)
      have hcell := hc k hlt
      have hO := HO.out k hlt
      clear hc
      by_cases hz : zs[k] = 0
      · rw [if_pos hz] at hO
        have HN := hid (hX.out.trans hO)
        rw [hz] at hcell
        clear hO hz
        go_wp2_with fail
        go_round
        case rel => exact ⟨k + 1, by omega, by go_num, HN⟩
        case measure => simp [intOf]; omega
      · rw [if_neg hz] at hO
        have HN := hid (hX.out.trans hO)
        generalize zs[k] = z at *
        clear hO
        go_wp2_with fail
        go_ret
        exact ⟨ret_int HN.out.symm, rfl⟩
    · obtain rfl : k = zs.length := by omega
      go_wp2_with fail
      go_ret
      exact ⟨ret_int (by rw [hX.out, HE.out]), rfl⟩

theorem ints_new (w : World) (x y z : Int) : Ints (w.alloc (Obj.cells #[.int .i64 x, .int .i64 y, .int .i64 z] 3)) (.slice (some ⟨w.heap.size, 0, none⟩) 3 3) [x, y, z] := by
  refine ⟨_, 3, rfl, Nat.le_refl _, by simp [maxLen], .inr ⟨w.heap.size, 0, rfl, by simp, fun i hi => ?_⟩⟩
  rw [Nat.zero_add]
  match i, hi with
  | 0, _ => exact boxAt w _ _ 0 _ rfl _ (Below.refl _ _)
  | 1, _ => exact boxAt w _ _ 1 _ rfl _ (Below.refl _ _)
  | 2, _ => exact boxAt w _ _ 2 _ rfl _ (Below.refl _ _)

set_option maxHeartbeats 1600000 in
theorem compareQ_any (c a v c' a' v' : Int) (w : World) :
    Calls Try.prog 19 #[qualV c a v, qualV c' a' v'] w fun e w' => e = .returned (.int .i64 (cmpQ c a v c' a' v')) ∧ Below w.heap.size w w' := by
  have HQ := hid (orI_three c a v c' a' v')
  go_enter Try.func19, Try.ntmps19
  go_wp2_with fail
  obtain ⟨W, hWe, hbw, HX, HY, HZ, HU, HV, HT⟩ := qbox2 w c a v c' a' v'
  rw [← hWe]
  clear hWe
  -- REGION compare
  refine wp_region_held_drew (S := fun w' => Below W.drew.heap.size W.drew w') (by kernel_rfl) (Below.refl _ _) ?_
  intro hHeld
  have hbW := Below.drew (Below.refl W.heap.size W)
  generalize W.drew = wd at *
  have hcX := fun wx h => HX.out wx (bnext hbW h)
  have hcY := fun wx h => HY.out wx (bnext hbW h)
  have hcZ := fun wx h => HZ.out wx (bnext hbW h)
  have hcU := fun wx h => HU.out wx (bnext hbW h)
  have hcV := fun wx h => HV.out wx (bnext hbW h)
  have hcT := fun wx h => HT.out wx (bnext hbW h)
  refine rtake 0 rfl (by rfl) (by kernel_rfl) (by kernel_rfl) (by kernel_rfl) (fun _ _ _ h => h) hHeld (fun wx hwx => by go_simp; try with_reducible rfl) ?_
  try simp only [Act.put, List.setIfInBounds_toArray, List.set_cons_zero, List.set_cons_succ]
  refine rtake 1 rfl (by rfl) (by kernel_rfl) (by kernel_rfl) (by kernel_rfl) (fun _ _ _ h => h) hHeld (fun wx hwx => by go_simp; try with_reducible rfl) ?_
  try simp only [Act.put, List.setIfInBounds_toArray, List.set_cons_zero, List.set_cons_succ]
  refine rtake 2 rfl (by rfl) (by kernel_rfl) (by kernel_rfl) (by kernel_rfl) (fun _ _ _ h => h) hHeld (fun wx hwx => by go_simp; try with_reducible rfl) ?_
  try simp only [Act.put, List.setIfInBounds_toArray, List.set_cons_zero, List.set_cons_succ]
  refine rtake 3 rfl (by rfl) (by kernel_rfl) (by kernel_rfl) (by kernel_rfl) (fun _ _ _ h => h) hHeld (fun wx hwx => by go_simp; try with_reducible rfl) ?_
  try simp only [Act.put, List.setIfInBounds_toArray, List.set_cons_zero, List.set_cons_succ]
  refine rtake 5 rfl (by rfl) (by kernel_rfl) (by kernel_rfl) (by kernel_rfl) (fun _ _ _ h => h) hHeld (fun wx hwx => by go_simp; try with_reducible rfl) ?_
  try simp only [Act.put, List.setIfInBounds_toArray, List.set_cons_zero, List.set_cons_succ]
  refine rtake 6 rfl (by rfl) (by kernel_rfl) (by kernel_rfl) (by kernel_rfl) (fun _ _ _ h => h) hHeld (fun wx hwx => by go_simp; try with_reducible rfl) ?_
  try simp only [Act.put, List.setIfInBounds_toArray, List.set_cons_zero, List.set_cons_succ]
  refine rtake 7 rfl (by rfl) (by kernel_rfl) (by kernel_rfl) (by kernel_rfl) (fun _ _ _ h => h) hHeld (fun wx hwx => by go_simp; try with_reducible rfl) ?_
  try simp only [Act.put, List.setIfInBounds_toArray, List.set_cons_zero, List.set_cons_succ]
  refine rtake 8 rfl (by rfl) (by kernel_rfl) (by kernel_rfl) (by kernel_rfl) (fun _ _ _ h => h) hHeld (fun wx hwx => by go_simp; try with_reducible rfl) ?_
  try simp only [Act.put, List.setIfInBounds_toArray, List.set_cons_zero, List.set_cons_succ]
  refine rtake 10 rfl (by rfl) (by kernel_rfl) (by kernel_rfl) (by kernel_rfl) (fun _ _ _ h => h) hHeld (fun wx hwx => by go_simp; try with_reducible rfl) ?_
  try simp only [Act.put, List.setIfInBounds_toArray, List.set_cons_zero, List.set_cons_succ]
  refine rtake 11 rfl (by rfl) (by kernel_rfl) (by kernel_rfl) (by kernel_rfl) (fun _ _ _ h => h) hHeld (fun wx hwx => by go_simp; try with_reducible rfl) ?_
  try simp only [Act.put, List.setIfInBounds_toArray, List.set_cons_zero, List.set_cons_succ]
  refine rtake 12 rfl (by rfl) (by kernel_rfl) (by kernel_rfl) (by kernel_rfl) (fun _ _ _ h => h) hHeld (fun wx hwx => by go_simp; try with_reducible rfl) ?_
  try simp only [Act.put, List.setIfInBounds_toArray, List.set_cons_zero, List.set_cons_succ]
  refine rtake 13 rfl (by rfl) (by kernel_rfl) (by kernel_rfl) (by kernel_rfl) (fun _ _ _ h => h) hHeld (fun wx hwx => by go_simp; try with_reducible rfl) ?_
  try simp only [Act.put, List.setIfInBounds_toArray, List.set_cons_zero, List.set_cons_succ]
  -- CALL 4: some 9 := Op.call { callee := Callee.value (Operand.func 27), args := #[Operand.tmp 6, Operand.tmp 8], argTypes := #[3, 3] }
  refine rcall 4 rfl (by kernel_rfl) (by rfl) (fun K hK => ?_)
  go_simp
  refine (cmpI_any _ _ _).mono ?_
  rintro e wx4 ⟨rfl, rfl⟩
  refine hK.out _ _ hHeld ?_
  clear hK K
  try simp only [Act.put, List.setIfInBounds_toArray, List.set_cons_zero, List.set_cons_succ]
  -- CALL 9: some 14 := Op.call { callee := Callee.value (Operand.func 27), args := #[Operand.tmp 11, Operand.tmp 13], argTypes := #[3, 3] }
  refine rcall 9 rfl (by kernel_rfl) (by rfl) (fun K hK => ?_)
  go_simp
  refine (cmpI_any _ _ _).mono ?_
  rintro e wx9 ⟨rfl, rfl⟩
  refine hK.out _ _ hHeld ?_
  clear hK K
  try simp only [Act.put, List.setIfInBounds_toArray, List.set_cons_zero, List.set_cons_succ]
  -- CALL 14: some 19 := Op.call { callee := Callee.value (Operand.func 27), args := #[Operand.tmp 16, Operand.tmp 18], argTypes := #[3, 3] }
  refine rcall 14 rfl (by kernel_rfl) (by rfl) (fun K hK => ?_)
  go_simp
  refine (cmpI_any _ _ _).mono ?_
  rintro e wx14 ⟨rfl, rfl⟩
  refine hK.out _ _ hHeld ?_
  clear hK K
  try simp only [Act.put, List.setIfInBounds_toArray, List.set_cons_zero, List.set_cons_succ]
  -- CALL 15: some 20 := Op.buildSlice 50 3 #[(0, Operand.tmp 9), (1, Operand.tmp 14), (2, Operand.tmp 19)]
  refine rcall 15 rfl (by kernel_rfl) (by rfl) (fun K hK => ?_)
  go_simp
  have hH := hHeld.alloc hHeld.size (Obj.cells #[Value.int .i64 (cmpI c c'), Value.int .i64 (cmpI a a'), Value.int .i64 (cmpI v v')] 3)
  have hints := ints_new wd (cmpI c c') (cmpI a a') (cmpI v v')
  refine hK.out _ _ hH ?_
  clear hK K hHeld
  have hHeld := hH
  clear hH
  try simp only [Act.put, List.setIfInBounds_toArray, List.set_cons_zero, List.set_cons_succ]
  -- CALL 16: some 21 := Op.call { callee := Callee.value (Operand.func 26), args := #[Operand.tmp 20], argTypes := #[50] }
  refine rcall 16 rfl (by kernel_rfl) (by rfl) (fun K hK => ?_)
  go_simp
  refine (orI_any _ _ _ hints).mono ?_
  rintro e wx16 ⟨rfl, rfl⟩
  refine hK.out _ _ hHeld ?_
  clear hK K
  try simp only [Act.put, List.setIfInBounds_toArray, List.set_cons_zero, List.set_cons_succ]
  refine rtake 17 rfl (by rfl) (by kernel_rfl) (by kernel_rfl) (by kernel_rfl) (fun _ _ _ h => h) hHeld (fun wx hwx => by go_simp; try with_reducible rfl) ?_
  try simp only [Act.put, List.setIfInBounds_toArray, List.set_cons_zero, List.set_cons_succ]
  refine wpAnyH_done (by kernel_rfl) ?_ _
  -- END REGION compare
  go_wp2_with fail
  go_ret
  exact ⟨ret_int HQ.out, bnext hbw (bnext hbW hHeld)⟩

theorem compareQ_is {c a v c' a' v' x : Int} (h : Hid (cmpQ c a v c' a' v' = x)) (w : World) :
    Calls Try.prog 19 #[qualV c a v, qualV c' a' v'] w fun e w' => e = .returned (.int .i64 x) ∧ Below w.heap.size w w' := h.out ▸ compareQ_any c a v c' a' v' w
end Go.Proofs.Ytclpblhjfaodbaa
