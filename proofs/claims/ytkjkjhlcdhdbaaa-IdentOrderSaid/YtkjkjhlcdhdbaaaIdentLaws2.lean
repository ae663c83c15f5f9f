/- The walk of the law IdentOrder (its cases: gen_ident.py). -/
import Derived.Test.YtkjkjhlcdhdbaaaIdentLaws
namespace Go.Proofs.Ytkjkjhlcdhdbaaa
open Go.RowKit Go.Proofs
set_option linter.unusedVariables false
set_option linter.unusedSimpArgs false

-- ORDER

set_option maxRecDepth 100000 in
set_option maxHeartbeats 4000000 in
theorem identOrder_1 (a a' b b' c c' y z : Int) (ha : Hid (0 ≤ a ∧ a < 18446744073709551616)) (hb : Hid (0 ≤ b ∧ b < 18446744073709551616)) (EX : Hid (cmpP a a' b b' = 1)) (ER : Hid (cmpP b b' a a' = -1)) (EY : Hid (cmpP b b' c c' = y)) (EZ : Hid (cmpP a a' c c' = z)) (hab : a ≠ b) (w : World) :
    Calls Try.prog 5 #[portV a a', portV b b', portV c c'] w fun e w' => e = .returned (.bool true) ∧ Below w.heap.size w w' := by
  go_enter Try.func5, Try.ntmps5
  go_wp2_with fail
  obtain ⟨W, hWe, hbw, HX, HY, HZ, HU, HV, HT⟩ := boxes3 w (.int .u64 a) (.int .i64 a') (.int .u64 b) (.int .i64 b') (.int .u64 c) (.int .i64 c') 25
  rw [← hWe]
  clear hWe
  refine wp_region_held_drew (S := fun w' => Below W.drew.heap.size W.drew w') (by kernel_rfl) (Below.refl _ _) ?_
  intro hHeld
  have hbW := Below.drew (Below.refl W.heap.size W)
  generalize W.drew = wd at *
  have hcX := fun wx h => HX.out wx (bnext hbW h)
  have hcY := fun wx h => HY.out wx (bnext hbW h)
  have hcZ := fun wx h => HZ.out wx (bnext hbW h)
  have hcU := fun wx h => HU.out wx (bnext hbW h)
  have hcV := fun wx h => HV.out wx (bnext hbW h)
  have hcT := fun wx h => HT.out wx (bnext hbW h)
  refine rtake 0 rfl (by rfl) (by kernel_rfl) (by kernel_rfl) (by kernel_rfl) (fun _ _ _ h => h) hHeld (fun wx hwx => by go_simp; try with_reducible rfl) ?_
  try simp only [Act.put, List.setIfInBounds_toArray, List.set_cons_zero, List.set_cons_succ]
  refine rtake 1 rfl (by rfl) (by kernel_rfl) (by kernel_rfl) (by kernel_rfl) (fun _ _ _ h => h) hHeld (fun wx hwx => by go_simp; try with_reducible rfl) ?_
  try simp only [Act.put, List.setIfInBounds_toArray, List.set_cons_zero, List.set_cons_succ]
  refine rtake 3 rfl (by rfl) (by kernel_rfl) (by kernel_rfl) (by kernel_rfl) (fun _ _ _ h => h) hHeld (fun wx hwx => by go_simp; try with_reducible rfl) ?_
  try simp only [Act.put, List.setIfInBounds_toArray, List.set_cons_zero, List.set_cons_succ]
  refine rtake 4 rfl (by rfl) (by kernel_rfl) (by kernel_rfl) (by kernel_rfl) (fun _ _ _ h => h) hHeld (fun wx hwx => by go_simp; try with_reducible rfl) ?_
  try simp only [Act.put, List.setIfInBounds_toArray, List.set_cons_zero, List.set_cons_succ]
  refine rtake 6 rfl (by rfl) (by kernel_rfl) (by kernel_rfl) (by kernel_rfl) (fun _ _ _ h => h) hHeld (fun wx hwx => by go_simp; try with_reducible rfl) ?_
  try simp only [Act.put, List.setIfInBounds_toArray, List.set_cons_zero, List.set_cons_succ]
  refine rtake 7 rfl (by rfl) (by kernel_rfl) (by kernel_rfl) (by kernel_rfl) (fun _ _ _ h => h) hHeld (fun wx hwx => by go_simp; try with_reducible rfl) ?_
  try simp only [Act.put, List.setIfInBounds_toArray, List.set_cons_zero, List.set_cons_succ]
  -- CALL 2: some 14 := Op.call { callee := Callee.value (Operand.func 19), args := #[Operand.tmp 12, Operand.tmp 13], argTypes := #[25, 25] }
  refine rcall 2 rfl (by kernel_rfl) (by rfl) (fun K hK => ?_)
  go_simp
  refine (compare_is EX _).mono ?_
  rintro e wx2 ⟨rfl, hbel⟩
  refine hK.out _ _ hbel ?_
  clear hK K
  refine wpAnyH_mono (S' := fun w' => Below wx2.heap.size wx2 w') (fun w' h => bnext hbel h) _ _ _ _ ?_
  have hH := Below.refl wx2.heap.size wx2
  have hW := bnext hbW hbel
  clear hbel hbW hHeld
  have hHeld := hH
  have hbW := hW
  clear hH hW
  have hsz2 := hbW.size
  replace hcX := fun wx h => HX.out wx (bnext hbW h)
  replace hcY := fun wx h => HY.out wx (bnext hbW h)
  replace hcZ := fun wx h => HZ.out wx (bnext hbW h)
  replace hcU := fun wx h => HU.out wx (bnext hbW h)
  replace hcV := fun wx h => HV.out wx (bnext hbW h)
  replace hcT := fun wx h => HT.out wx (bnext hbW h)
  try simp only [Act.put, List.setIfInBounds_toArray, List.set_cons_zero, List.set_cons_succ]
  -- CALL 5: some 17 := Op.call { callee := Callee.value (Operand.func 19), args := #[Operand.tmp 15, Operand.tmp 16], argTypes := #[25, 25] }
  refine rcall 5 rfl (by kernel_rfl) (by rfl) (fun K hK => ?_)
  go_simp
  refine (compare_is EY _).mono ?_
  rintro e wx5 ⟨rfl, hbel⟩
  refine hK.out _ _ hbel ?_
  clear hK K
  refine wpAnyH_mono (S' := fun w' => Below wx5.heap.size wx5 w') (fun w' h => bnext hbel h) _ _ _ _ ?_
  have hH := Below.refl wx5.heap.size wx5
  have hW := bnext hbW hbel
  clear hbel hbW hHeld
  have hHeld := hH
  have hbW := hW
  clear hH hW
  have hsz5 := hbW.size
  replace hcX := fun wx h => HX.out wx (bnext hbW h)
  replace hcY := fun wx h => HY.out wx (bnext hbW h)
  replace hcZ := fun wx h => HZ.out wx (bnext hbW h)
  replace hcU := fun wx h => HU.out wx (bnext hbW h)
  replace hcV := fun wx h => HV.out wx (bnext hbW h)
  replace hcT := fun wx h => HT.out wx (bnext hbW h)
  try simp only [Act.put, List.setIfInBounds_toArray, List.set_cons_zero, List.set_cons_succ]
  -- CALL 8: some 20 := Op.call { callee := Callee.value (Operand.func 19), args := #[Operand.tmp 18, Operand.tmp 19], argTypes := #[25, 25] }
  refine rcall 8 rfl (by kernel_rfl) (by rfl) (fun K hK => ?_)
  go_simp
  refine (compare_is EZ _).mono ?_
  rintro e wx8 ⟨rfl, hbel⟩
  refine hK.out _ _ hbel ?_
  clear hK K
  refine wpAnyH_mono (S' := fun w' => Below wx8.heap.size wx8 w') (fun w' h => bnext hbel h) _ _ _ _ ?_
  have hH := Below.refl wx8.heap.size wx8
  have hW := bnext hbW hbel
  clear hbel hbW hHeld
  have hHeld := hH
  have hbW := hW
  clear hH hW
  have hsz8 := hbW.size
  replace hcX := fun wx h => HX.out wx (bnext hbW h)
  replace hcY := fun wx h => HY.out wx (bnext hbW h)
  replace hcZ := fun wx h => HZ.out wx (bnext hbW h)
  replace hcU := fun wx h => HU.out wx (bnext hbW h)
  replace hcV := fun wx h => HV.out wx (bnext hbW h)
  replace hcT := fun wx h => HT.out wx (bnext hbW h)
  try simp only [Act.put, List.setIfInBounds_toArray, List.set_cons_zero, List.set_cons_succ]
  refine rtake 9 rfl (by rfl) (by kernel_rfl) (by kernel_rfl) (by kernel_rfl) (fun _ _ _ h => h) hHeld (fun wx hwx => by go_simp; try with_reducible rfl) ?_
  try simp only [Act.put, List.setIfInBounds_toArray, List.set_cons_zero, List.set_cons_succ]
  refine rtake 10 rfl (by rfl) (by kernel_rfl) (by kernel_rfl) (by kernel_rfl) (fun _ _ _ h => h) hHeld (fun wx hwx => by go_simp; try with_reducible rfl) ?_
  try simp only [Act.put, List.setIfInBounds_toArray, List.set_cons_zero, List.set_cons_succ]
  refine rtake 11 rfl (by rfl) (by kernel_rfl) (by kernel_rfl) (by kernel_rfl) (fun _ _ _ h => h) hHeld (fun wx hwx => by go_simp; try with_reducible rfl) ?_
  try simp only [Act.put, List.setIfInBounds_toArray, List.set_cons_zero, List.set_cons_succ]
  refine wpAnyH_done (by kernel_rfl) ?_ _
  have cX := HX.out _ hbW
  have cY := HY.out _ hbW
  have cZ := HZ.out _ hbW
  have cU := HU.out _ hbW
  have cV := HV.out _ hbW
  have cT := HT.out _ hbW
  clear hcX hcY hcZ hcU hcV hcT
  go_wp2_with fail
  refine (compare_is ER _).mono ?_
  rintro e w20 ⟨rfl, hbel⟩
  replace hbW := bnext hbW hbel
  clear hbel
  replace cX := HX.out _ hbW
  replace cY := HY.out _ hbW
  replace cZ := HZ.out _ hbW
  replace cU := HU.out _ hbW
  replace cV := HV.out _ hbW
  replace cT := HT.out _ hbW
  go_wp2_with fail
  refine (identMay_any _ _ _).mono ?_
  rintro e w21 ⟨rfl, hbel⟩
  replace hbW := bnext hbW hbel
  clear hbel
  replace cX := HX.out _ hbW
  replace cY := HY.out _ hbW
  replace cZ := HZ.out _ hbW
  replace cU := HU.out _ hbW
  replace cV := HV.out _ hbW
  replace cT := HT.out _ hbW
  cases ma : mayP a'
  · go_wp2_with fail
    refine (awake04_any _).mono ?_
    rintro e w22 ⟨rfl, hbel⟩
    replace hbW := bnext hbW hbel
    clear hbel
    replace cX := HX.out _ hbW
    replace cY := HY.out _ hbW
    replace cZ := HZ.out _ hbW
    replace cU := HU.out _ hbW
    replace cV := HV.out _ hbW
    replace cT := HT.out _ hbW
    go_wp2_with fail
    go_ret
    exact ⟨rfl, bnext hbw hbW⟩
  · go_wp2_with fail
    refine (identMay_any _ _ _).mono ?_
    rintro e w23 ⟨rfl, hbel⟩
    replace hbW := bnext hbW hbel
    clear hbel
    replace cX := HX.out _ hbW
    replace cY := HY.out _ hbW
    replace cZ := HZ.out _ hbW
    replace cU := HU.out _ hbW
    replace cV := HV.out _ hbW
    replace cT := HT.out _ hbW
    cases mb : mayP b'
    · go_wp2_with fail
      refine (awake04_any _).mono ?_
      rintro e w24 ⟨rfl, hbel⟩
      replace hbW := bnext hbW hbel
      clear hbel
      replace cX := HX.out _ hbW
      replace cY := HY.out _ hbW
      replace cZ := HZ.out _ hbW
      replace cU := HU.out _ hbW
      replace cV := HV.out _ hbW
      replace cT := HT.out _ hbW
      go_wp2_with fail
      go_ret
      exact ⟨rfl, bnext hbw hbW⟩
    · have hlt := less_portS ha.out.1 ha.out.2 hb.out.1 hb.out.2 ma mb
      have hsm := same_portS ha.out.1 ha.out.2 hb.out.1 hb.out.2 ma mb
      rw [EX.out] at hlt hsm
      generalize hsa : portS a a' = A at *
      generalize hsb : portS b b' = B at *
      have hA0 := ha.out.1
      have hB0 := hb.out.1
      have Hlt := hid hlt
      have Hsm := hid hsm
      have Hsa := hid hsa
      have Hsb := hid hsb
      clear hlt hsm hsa hsb
      have hbW23 := hbW
      clear hbW
      go_wp2_with fail
      refine wp_region_held_drew (S := fun w' => Below w23.drew.heap.size w23.drew w') (by kernel_rfl) (Below.refl _ _) ?_
      intro hHeld
      have hbW := bnext hbW23 <| Below.drew (Below.refl w23.heap.size w23)
      generalize w23.drew = wd at *
      clear cX cY cZ cU cV cT
      have hcX := fun wx h => HX.out wx (bnext hbW h)
      have hcY := fun wx h => HY.out wx (bnext hbW h)
      have hcZ := fun wx h => HZ.out wx (bnext hbW h)
      have hcU := fun wx h => HU.out wx (bnext hbW h)
      refine rtake 0 rfl (by rfl) (by kernel_rfl) (by kernel_rfl) (by kernel_rfl) (fun _ _ _ h => h) hHeld (fun wx hwx => by go_simp; try with_reducible rfl) ?_
      try simp only [Act.put, List.setIfInBounds_toArray, List.set_cons_zero, List.set_cons_succ]
      refine rtake 3 rfl (by rfl) (by kernel_rfl) (by kernel_rfl) (by kernel_rfl) (fun _ _ _ h => h) hHeld (fun wx hwx => by go_simp; try with_reducible rfl) ?_
      try simp only [Act.put, List.setIfInBounds_toArray, List.set_cons_zero, List.set_cons_succ]
      -- CALL 1: some 69 := Op.call { callee := Callee.value (Operand.func 14), args := #[Operand.const (Value.slice none 0 0), Operand.tmp 68], argTypes := #[22, 25] }
      refine rcall 1 rfl (by kernel_rfl) (by rfl) (fun K hK => ?_)
      go_simp
      refine (identPut_any _ [] a a' _ (Bytes.nil _) (by decide) hA0).mono ?_
      rintro e wx1 ⟨x1, rfl, own1, hbel⟩
      rw [List.nil_append, Hsa.out] at own1
      have hst1 := own1.bytes.strs
      refine hK.out _ _ hbel ?_
      clear hK K
      refine wpAnyH_mono (S' := fun w' => Below wx1.heap.size wx1 w') (fun w' h => bnext hbel h) _ _ _ _ ?_
      have hH := Below.refl wx1.heap.size wx1
      have hW := bnext hbW hbel
      clear hbel hbW hHeld
      have hHeld := hH
      have hbW := hW
      clear hH hW
      have hsz1 := hbW.size
      replace hcX := fun wx h => HX.out wx (bnext hbW h)
      replace hcY := fun wx h => HY.out wx (bnext hbW h)
      replace hcZ := fun wx h => HZ.out wx (bnext hbW h)
      replace hcU := fun wx h => HU.out wx (bnext hbW h)
      try simp only [Act.put, List.setIfInBounds_toArray, List.set_cons_zero, List.set_cons_succ]
      refine rtake 2 rfl (by rfl) (by kernel_rfl) (by kernel_rfl) (by kernel_rfl) (fun _ _ _ h => h) hHeld (fun wx hwx => by go_simp; try with_reducible rfl) ?_
      try simp only [Act.put, List.setIfInBounds_toArray, List.set_cons_zero, List.set_cons_succ]
      -- CALL 4: some 72 := Op.call { callee := Callee.value (Operand.func 14), args := #[Operand.const (Value.slice none 0 0), Operand.tmp 71], argTypes := #[22, 25] }
      refine rcall 4 rfl (by kernel_rfl) (by rfl) (fun K hK => ?_)
      go_simp
      refine (identPut_any _ [] b b' _ (Bytes.nil _) (by decide) hB0).mono ?_
      rintro e wx4 ⟨x4, rfl, own4, hbel⟩
      rw [List.nil_append, Hsb.out] at own4
      have hst4 := own4.bytes.strs
      refine hK.out _ _ hbel ?_
      clear hK K
      refine wpAnyH_mono (S' := fun w' => Below wx4.heap.size wx4 w') (fun w' h => bnext hbel h) _ _ _ _ ?_
      have hH := Below.refl wx4.heap.size wx4
      have hW := bnext hbW hbel
      clear hbel hbW hHeld
      have hHeld := hH
      have hbW := hW
      clear hH hW
      have hsz4 := hbW.size
      replace hcX := fun wx h => HX.out wx (bnext hbW h)
      replace hcY := fun wx h => HY.out wx (bnext hbW h)
      replace hcZ := fun wx h => HZ.out wx (bnext hbW h)
      replace hcU := fun wx h => HU.out wx (bnext hbW h)
      try simp only [Act.put, List.setIfInBounds_toArray, List.set_cons_zero, List.set_cons_succ]
      refine rtake 5 rfl (by rfl) (by kernel_rfl) (by kernel_rfl) (by kernel_rfl) (fun _ _ _ h => h) hHeld (fun wx hwx => by go_simp; try with_reducible rfl) ?_
      try simp only [Act.put, List.setIfInBounds_toArray, List.set_cons_zero, List.set_cons_succ]
      refine rtake 6 rfl (by rfl) (by kernel_rfl) (by kernel_rfl) (by kernel_rfl) (fun _ _ _ h => h) hHeld (fun wx hwx => by go_simp; try with_reducible rfl) ?_
      try simp only [Act.put, List.setIfInBounds_toArray, List.set_cons_zero, List.set_cons_succ]
      refine rtake 7 rfl (by rfl) (by kernel_rfl) (by kernel_rfl) (by kernel_rfl) (fun _ _ _ h => h) hHeld (fun wx hwx => by go_simp; try with_reducible rfl) ?_
      try simp only [Act.put, List.setIfInBounds_toArray, List.set_cons_zero, List.set_cons_succ]
      refine wpAnyH_done (by kernel_rfl) ?_ _
      have e1 : Op.bytesLess A B = false := Hlt.out
      have e2 : (A == B) = false := Hsm.out
      go_wp2_with fail
      refine (awake04_any _).mono ?_
      rintro e w25 ⟨rfl, hbel⟩
      replace hbW := bnext hbW hbel
      clear hbel e1 e2
      go_wp2_with fail
      go_ret
      exact ⟨rfl, bnext hbw hbW⟩

set_option maxRecDepth 100000 in
set_option maxHeartbeats 4000000 in
theorem identOrder_2 (a a' b' c c' y z : Int) (ha : Hid (0 ≤ a ∧ a < 18446744073709551616)) (hb : Hid (0 ≤ a ∧ a < 18446744073709551616)) (EX : Hid (cmpP a a' a b' = 1)) (ER : Hid (cmpP a b' a a' = -1)) (EY : Hid (cmpP a b' c c' = y)) (EZ : Hid (cmpP a a' c c' = z)) (hab : a' ≠ b') (w : World) :
    Calls Try.prog 5 #[portV a a', portV a b', portV c c'] w fun e w' => e = .returned (.bool true) ∧ Below w.heap.size w w' := by
  go_enter Try.func5, Try.ntmps5
  go_wp2_with fail
  obtain ⟨W, hWe, hbw, HX, HY, HZ, HU, HV, HT⟩ := boxes3 w (.int .u64 a) (.int .i64 a') (.int .u64 a) (.int .i64 b') (.int .u64 c) (.int .i64 c') 25
  rw [← hWe]
  clear hWe
  refine wp_region_held_drew (S := fun w' => Below W.drew.heap.size W.drew w') (by kernel_rfl) (Below.refl _ _) ?_
  intro hHeld
  have hbW := Below.drew (Below.refl W.heap.size W)
  generalize W.drew = wd at *
  have hcX := fun wx h => HX.out wx (bnext hbW h)
  have hcY := fun wx h => HY.out wx (bnext hbW h)
  have hcZ := fun wx h => HZ.out wx (bnext hbW h)
  have hcU := fun wx h => HU.out wx (bnext hbW h)
  have hcV := fun wx h => HV.out wx (bnext hbW h)
  have hcT := fun wx h => HT.out wx (bnext hbW h)
  refine rtake 0 rfl (by rfl) (by kernel_rfl) (by kernel_rfl) (by kernel_rfl) (fun _ _ _ h => h) hHeld (fun wx hwx => by go_simp; try with_reducible rfl) ?_
  try simp only [Act.put, List.setIfInBounds_toArray, List.set_cons_zero, List.set_cons_succ]
  refine rtake 1 rfl (by rfl) (by kernel_rfl) (by kernel_rfl) (by kernel_rfl) (fun _ _ _ h => h) hHeld (fun wx hwx => by go_simp; try with_reducible rfl) ?_
  try simp only [Act.put, List.setIfInBounds_toArray, List.set_cons_zero, List.set_cons_succ]
  refine rtake 3 rfl (by rfl) (by kernel_rfl) (by kernel_rfl) (by kernel_rfl) (fun _ _ _ h => h) hHeld (fun wx hwx => by go_simp; try with_reducible rfl) ?_
  try simp only [Act.put, List.setIfInBounds_toArray, List.set_cons_zero, List.set_cons_succ]
  refine rtake 4 rfl (by rfl) (by kernel_rfl) (by kernel_rfl) (by kernel_rfl) (fun _ _ _ h => h) hHeld (fun wx hwx => by go_simp; try with_reducible rfl) ?_
  try simp only [Act.put, List.setIfInBounds_toArray, List.set_cons_zero, List.set_cons_succ]
  refine rtake 6 rfl (by rfl) (by kernel_rfl) (by kernel_rfl) (by kernel_rfl) (fun _ _ _ h => h) hHeld (fun wx hwx => by go_simp; try with_reducible rfl) ?_
  try simp only [Act.put, List.setIfInBounds_toArray, List.set_cons_zero, List.set_cons_succ]
  refine rtake 7 rfl (by rfl) (by kernel_rfl) (by kernel_rfl) (by kernel_rfl) (fun _ _ _ h => h) hHeld (fun wx hwx => by go_simp; try with_reducible rfl) ?_
  try simp only [Act.put, List.setIfInBounds_toArray, List.set_cons_zero, List.set_cons_succ]
  -- CALL 2: some 14 := Op.call { callee := Callee.value (Operand.func 19), args := #[Operand.tmp 12, Operand.tmp 13], argTypes := #[25, 25] }
  refine rcall 2 rfl (by kernel_rfl) (by rfl) (fun K hK => ?_)
  go_simp
  refine (compare_is EX _).mono ?_
  rintro e wx2 ⟨rfl, hbel⟩
  refine hK.out _ _ hbel ?_
  clear hK K
  refine wpAnyH_mono (S' := fun w' => Below wx2.heap.size wx2 w') (fun w' h => bnext hbel h) _ _ _ _ ?_
  have hH := Below.refl wx2.heap.size wx2
  have hW := bnext hbW hbel
  clear hbel hbW hHeld
  have hHeld := hH
  have hbW := hW
  clear hH hW
  have hsz2 := hbW.size
  replace hcX := fun wx h => HX.out wx (bnext hbW h)
  replace hcY := fun wx h => HY.out wx (bnext hbW h)
  replace hcZ := fun wx h => HZ.out wx (bnext hbW h)
  replace hcU := fun wx h => HU.out wx (bnext hbW h)
  replace hcV := fun wx h => HV.out wx (bnext hbW h)
  replace hcT := fun wx h => HT.out wx (bnext hbW h)
  try simp only [Act.put, List.setIfInBounds_toArray, List.set_cons_zero, List.set_cons_succ]
  -- CALL 5: some 17 := Op.call { callee := Callee.value (Operand.func 19), args := #[Operand.tmp 15, Operand.tmp 16], argTypes := #[25, 25] }
  refine rcall 5 rfl (by kernel_rfl) (by rfl) (fun K hK => ?_)
  go_simp
  refine (compare_is EY _).mono ?_
  rintro e wx5 ⟨rfl, hbel⟩
  refine hK.out _ _ hbel ?_
  clear hK K
  refine wpAnyH_mono (S' := fun w' => Below wx5.heap.size wx5 w') (fun w' h => bnext hbel h) _ _ _ _ ?_
  have hH := Below.refl wx5.heap.size wx5
  have hW := bnext hbW hbel
  clear hbel hbW hHeld
  have hHeld := hH
  have hbW := hW
  clear hH hW
  have hsz5 := hbW.size
  replace hcX := fun wx h => HX.out wx (bnext hbW h)
  replace hcY := fun wx h => HY.out wx (bnext hbW h)
  replace hcZ := fun wx h => HZ.out wx (bnext hbW h)
  replace hcU := fun wx h => HU.out wx (bnext hbW h)
  replace hcV := fun wx h => HV.out wx (bnext hbW h)
  replace hcT := fun wx h => HT.out wx (bnext hbW h)
  try simp only [Act.put, List.setIfInBounds_toArray, List.set_cons_zero, List.set_cons_succ]
  -- CALL 8: some 20 := Op.call { callee := Callee.value (Operand.func 19), args := #[Operand.tmp 18, Operand.tmp 19], argTypes := #[25, 25] }
  refine rcall 8 rfl (by kernel_rfl) (by rfl) (fun K hK => ?_)
  go_simp
  refine (compare_is EZ _).mono ?_
  rintro e wx8 ⟨rfl, hbel⟩
  refine hK.out _ _ hbel ?_
  clear hK K
  refine wpAnyH_mono (S' := fun w' => Below wx8.heap.size wx8 w') (fun w' h => bnext hbel h) _ _ _ _ ?_
  have hH := Below.refl wx8.heap.size wx8
  have hW := bnext hbW hbel
  clear hbel hbW hHeld
  have hHeld := hH
  have hbW := hW
  clear hH hW
  have hsz8 := hbW.size
  replace hcX := fun wx h => HX.out wx (bnext hbW h)
  replace hcY := fun wx h => HY.out wx (bnext hbW h)
  replace hcZ := fun wx h => HZ.out wx (bnext hbW h)
  replace hcU := fun wx h => HU.out wx (bnext hbW h)
  replace hcV := fun wx h => HV.out wx (bnext hbW h)
  replace hcT := fun wx h => HT.out wx (bnext hbW h)
  try simp only [Act.put, List.setIfInBounds_toArray, List.set_cons_zero, List.set_cons_succ]
  refine rtake 9 rfl (by rfl) (by kernel_rfl) (by kernel_rfl) (by kernel_rfl) (fun _ _ _ h => h) hHeld (fun wx hwx => by go_simp; try with_reducible rfl) ?_
  try simp only [Act.put, List.setIfInBounds_toArray, List.set_cons_zero, List.set_cons_succ]
  refine rtake 10 rfl (by rfl) (by kernel_rfl) (by kernel_rfl) (by kernel_rfl) (fun _ _ _ h => h) hHeld (fun wx hwx => by go_simp; try with_reducible rfl) ?_
  try simp only [Act.put, List.setIfInBounds_toArray, List.set_cons_zero, List.set_cons_succ]
  refine rtake 11 rfl (by rfl) (by kernel_rfl) (by kernel_rfl) (by kernel_rfl) (fun _ _ _ h => h) hHeld (fun wx hwx => by go_simp; try with_reducible rfl) ?_
  try simp only [Act.put, List.setIfInBounds_toArray, List.set_cons_zero, List.set_cons_succ]
  refine wpAnyH_done (by kernel_rfl) ?_ _
  have cX := HX.out _ hbW
  have cY := HY.out _ hbW
  have cZ := HZ.out _ hbW
  have cU := HU.out _ hbW
  have cV := HV.out _ hbW
  have cT := HT.out _ hbW
  clear hcX hcY hcZ hcU hcV hcT
  go_wp2_with fail
  refine (compare_is ER _).mono ?_
  rintro e w20 ⟨rfl, hbel⟩
  replace hbW := bnext hbW hbel
  clear hbel
  replace cX := HX.out _ hbW
  replace cY := HY.out _ hbW
  replace cZ := HZ.out _ hbW
  replace cU := HU.out _ hbW
  replace cV := HV.out _ hbW
  replace cT := HT.out _ hbW
  go_wp2_with fail
  refine (identMay_any _ _ _).mono ?_
  rintro e w21 ⟨rfl, hbel⟩
  replace hbW := bnext hbW hbel
  clear hbel
  replace cX := HX.out _ hbW
  replace cY := HY.out _ hbW
  replace cZ := HZ.out _ hbW
  replace cU := HU.out _ hbW
  replace cV := HV.out _ hbW
  replace cT := HT.out _ hbW
  cases ma : mayP a'
  · go_wp2_with fail
    refine (awake04_any _).mono ?_
    rintro e w22 ⟨rfl, hbel⟩
    replace hbW := bnext hbW hbel
    clear hbel
    replace cX := HX.out _ hbW
    replace cY := HY.out _ hbW
    replace cZ := HZ.out _ hbW
    replace cU := HU.out _ hbW
    replace cV := HV.out _ hbW
    replace cT := HT.out _ hbW
    go_wp2_with fail
    go_ret
    exact ⟨rfl, bnext hbw hbW⟩
  · go_wp2_with fail
    refine (identMay_any _ _ _).mono ?_
    rintro e w23 ⟨rfl, hbel⟩
    replace hbW := bnext hbW hbel
    clear hbel
    replace cX := HX.out _ hbW
    replace cY := HY.out _ hbW
    replace cZ := HZ.out _ hbW
    replace cU := HU.out _ hbW
    replace cV := HV.out _ hbW
    replace cT := HT.out _ hbW
    cases mb : mayP b'
    · go_wp2_with fail
      refine (awake04_any _).mono ?_
      rintro e w24 ⟨rfl, hbel⟩
      replace hbW := bnext hbW hbel
      clear hbel
      replace cX := HX.out _ hbW
      replace cY := HY.out _ hbW
      replace cZ := HZ.out _ hbW
      replace cU := HU.out _ hbW
      replace cV := HV.out _ hbW
      replace cT := HT.out _ hbW
      go_wp2_with fail
      go_ret
      exact ⟨rfl, bnext hbw hbW⟩
    · have hlt := less_portS ha.out.1 ha.out.2 hb.out.1 hb.out.2 ma mb
      have hsm := same_portS ha.out.1 ha.out.2 hb.out.1 hb.out.2 ma mb
      rw [EX.out] at hlt hsm
      generalize hsa : portS a a' = A at *
      generalize hsb : portS a b' = B at *
      have hA0 := ha.out.1
      have hB0 := hb.out.1
      have Hlt := hid hlt
      have Hsm := hid hsm
      have Hsa := hid hsa
      have Hsb := hid hsb
      clear hlt hsm hsa hsb
      have hbW23 := hbW
      clear hbW
      go_wp2_with fail
      refine wp_region_held_drew (S := fun w' => Below w23.drew.heap.size w23.drew w') (by kernel_rfl) (Below.refl _ _) ?_
      intro hHeld
      have hbW := bnext hbW23 <| Below.drew (Below.refl w23.heap.size w23)
      generalize w23.drew = wd at *
      clear cX cY cZ cU cV cT
      have hcX := fun wx h => HX.out wx (bnext hbW h)
      have hcY := fun wx h => HY.out wx (bnext hbW h)
      have hcZ := fun wx h => HZ.out wx (bnext hbW h)
      have hcU := fun wx h => HU.out wx (bnext hbW h)
      refine rtake 0 rfl (by rfl) (by kernel_rfl) (by kernel_rfl) (by kernel_rfl) (fun _ _ _ h => h) hHeld (fun wx hwx => by go_simp; try with_reducible rfl) ?_
      try simp only [Act.put, List.setIfInBounds_toArray, List.set_cons_zero, List.set_cons_succ]
      refine rtake 3 rfl (by rfl) (by kernel_rfl) (by kernel_rfl) (by kernel_rfl) (fun _ _ _ h => h) hHeld (fun wx hwx => by go_simp; try with_reducible rfl) ?_
      try simp only [Act.put, List.setIfInBounds_toArray, List.set_cons_zero, List.set_cons_succ]
      -- CALL 1: some 69 := Op.call { callee := Callee.value (Operand.func 14), args := #[Operand.const (Value.slice none 0 0), Operand.tmp 68], argTypes := #[22, 25] }
      refine rcall 1 rfl (by kernel_rfl) (by rfl) (fun K hK => ?_)
      go_simp
      refine (identPut_any _ [] a a' _ (Bytes.nil _) (by decide) hA0).mono ?_
      rintro e wx1 ⟨x1, rfl, own1, hbel⟩
      rw [List.nil_append, Hsa.out] at own1
      have hst1 := own1.bytes.strs
      refine hK.out _ _ hbel ?_
      clear hK K
      refine wpAnyH_mono (S' := fun w' => Below wx1.heap.size wx1 w') (fun w' h => bnext hbel h) _ _ _ _ ?_
      have hH := Below.refl wx1.heap.size wx1
      have hW := bnext hbW hbel
      clear hbel hbW hHeld
      have hHeld := hH
      have hbW := hW
      clear hH hW
      have hsz1 := hbW.size
      replace hcX := fun wx h => HX.out wx (bnext hbW h)
      replace hcY := fun wx h => HY.out wx (bnext hbW h)
      replace hcZ := fun wx h => HZ.out wx (bnext hbW h)
      replace hcU := fun wx h => HU.out wx (bnext hbW h)
      try simp only [Act.put, List.setIfInBounds_toArray, List.set_cons_zero, List.set_cons_succ]
      refine rtake 2 rfl (by rfl) (by kernel_rfl) (by kernel_rfl) (by kernel_rfl) (fun _ _ _ h => h) hHeld (fun wx hwx => by go_simp; try with_reducible rfl) ?_
      try simp only [Act.put, List.setIfInBounds_toArray, List.set_cons_zero, List.set_cons_succ]
      -- CALL 4: some 72 := Op.call { callee := Callee.value (Operand.func 14), args := #[Operand.const (Value.slice none 0 0), Operand.tmp 71], argTypes := #[22, 25] }
      refine rcall 4 rfl (by kernel_rfl) (by rfl) (fun K hK => ?_)
      go_simp
      refine (identPut_any _ [] a b' _ (Bytes.nil _) (by decide) hB0).mono ?_
      rintro e wx4 ⟨x4, rfl, own4, hbel⟩
      rw [List.nil_append, Hsb.out] at own4
      have hst4 := own4.bytes.strs
      refine hK.out _ _ hbel ?_
      clear hK K
      refine wpAnyH_mono (S' := fun w' => Below wx4.heap.size wx4 w') (fun w' h => bnext hbel h) _ _ _ _ ?_
      have hH := Below.refl wx4.heap.size wx4
      have hW := bnext hbW hbel
      clear hbel hbW hHeld
      have hHeld := hH
      have hbW := hW
      clear hH hW
      have hsz4 := hbW.size
      replace hcX := fun wx h => HX.out wx (bnext hbW h)
      replace hcY := fun wx h => HY.out wx (bnext hbW h)
      replace hcZ := fun wx h => HZ.out wx (bnext hbW h)
      replace hcU := fun wx h => HU.out wx (bnext hbW h)
      try simp only [Act.put, List.setIfInBounds_toArray, List.set_cons_zero, List.set_cons_succ]
      refine rtake 5 rfl (by rfl) (by kernel_rfl) (by kernel_rfl) (by kernel_rfl) (fun _ _ _ h => h) hHeld (fun wx hwx => by go_simp; try with_reducible rfl) ?_
      try simp only [Act.put, List.setIfInBounds_toArray, List.set_cons_zero, List.set_cons_succ]
      refine rtake 6 rfl (by rfl) (by kernel_rfl) (by kernel_rfl) (by kernel_rfl) (fun _ _ _ h => h) hHeld (fun wx hwx => by go_simp; try with_reducible rfl) ?_
      try simp only [Act.put, List.setIfInBounds_toArray, List.set_cons_zero, List.set_cons_succ]
      refine rtake 7 rfl (by rfl) (by kernel_rfl) (by kernel_rfl) (by kernel_rfl) (fun _ _ _ h => h) hHeld (fun wx hwx => by go_simp; try with_reducible rfl) ?_
      try simp only [Act.put, List.setIfInBounds_toArray, List.set_cons_zero, List.set_cons_succ]
      refine wpAnyH_done (by kernel_rfl) ?_ _
      have e1 : Op.bytesLess A B = false := Hlt.out
      have e2 : (A == B) = false := Hsm.out
      go_wp2_with fail
      refine (awake04_any _).mono ?_
      rintro e w25 ⟨rfl, hbel⟩
      replace hbW := bnext hbW hbel
      clear hbel e1 e2
      go_wp2_with fail
      go_ret
      exact ⟨rfl, bnext hbw hbW⟩

set_option maxRecDepth 100000 in
set_option maxHeartbeats 4000000 in
theorem identOrder_3 (a a' c c' y z : Int) (ha : Hid (0 ≤ a ∧ a < 18446744073709551616)) (hb : Hid (0 ≤ a ∧ a < 18446744073709551616)) (EX : Hid (cmpP a a' a a' = 0)) (ER : Hid (cmpP a a' a a' = 0)) (EY : Hid (cmpP a a' c c' = y)) (EZ : Hid (cmpP a a' c c' = z)) (hy : y ≤ 0) (hz : ¬ 0 < z) (w : World) :
    Calls Try.prog 5 #[portV a a', portV a a', portV c c'] w fun e w' => e = .returned (.bool true) ∧ Below w.heap.size w w' := by
  go_enter Try.func5, Try.ntmps5
  go_wp2_with fail
  obtain ⟨W, hWe, hbw, HX, HY, HZ, HU, HV, HT⟩ := boxes3 w (.int .u64 a) (.int .i64 a') (.int .u64 a) (.int .i64 a') (.int .u64 c) (.int .i64 c') 25
  rw [← hWe]
  clear hWe
  refine wp_region_held_drew (S := fun w' => Below W.drew.heap.size W.drew w') (by kernel_rfl) (Below.refl _ _) ?_
  intro hHeld
  have hbW := Below.drew (Below.refl W.heap.size W)
  generalize W.drew = wd at *
  have hcX := fun wx h => HX.out wx (bnext hbW h)
  have hcY := fun wx h => HY.out wx (bnext hbW h)
  have hcZ := fun wx h => HZ.out wx (bnext hbW h)
  have hcU := fun wx h => HU.out wx (bnext hbW h)
  have hcV := fun wx h => HV.out wx (bnext hbW h)
  have hcT := fun wx h => HT.out wx (bnext hbW h)
  refine rtake 0 rfl (by rfl) (by kernel_rfl) (by kernel_rfl) (by kernel_rfl) (fun _ _ _ h => h) hHeld (fun wx hwx => by go_simp; try with_reducible rfl) ?_
  try simp only [Act.put, List.setIfInBounds_toArray, List.set_cons_zero, List.set_cons_succ]
  refine rtake 1 rfl (by rfl) (by kernel_rfl) (by kernel_rfl) (by kernel_rfl) (fun _ _ _ h => h) hHeld (fun wx hwx => by go_simp; try with_reducible rfl) ?_
  try simp only [Act.put, List.setIfInBounds_toArray, List.set_cons_zero, List.set_cons_succ]
  refine rtake 3 rfl (by rfl) (by kernel_rfl) (by kernel_rfl) (by kernel_rfl) (fun _ _ _ h => h) hHeld (fun wx hwx => by go_simp; try with_reducible rfl) ?_
  try simp only [Act.put, List.setIfInBounds_toArray, List.set_cons_zero, List.set_cons_succ]
  refine rtake 4 rfl (by rfl) (by kernel_rfl) (by kernel_rfl) (by kernel_rfl) (fun _ _ _ h => h) hHeld (fun wx hwx => by go_simp; try with_reducible rfl) ?_
  try simp only [Act.put, List.setIfInBounds_toArray, List.set_cons_zero, List.set_cons_succ]
  refine rtake 6 rfl (by rfl) (by kernel_rfl) (by kernel_rfl) (by kernel_rfl) (fun _ _ _ h => h) hHeld (fun wx hwx => by go_simp; try with_reducible rfl) ?_
  try simp only [Act.put, List.setIfInBounds_toArray, List.set_cons_zero, List.set_cons_succ]
  refine rtake 7 rfl (by rfl) (by kernel_rfl) (by kernel_rfl) (by kernel_rfl) (fun _ _ _ h => h) hHeld (fun wx hwx => by go_simp; try with_reducible rfl) ?_
  try simp only [Act.put, List.setIfInBounds_toArray, List.set_cons_zero, List.set_cons_succ]
  -- CALL 2: some 14 := Op.call { callee := Callee.value (Operand.func 19), args := #[Operand.tmp 12, Operand.tmp 13], argTypes := #[25, 25] }
  refine rcall 2 rfl (by kernel_rfl) (by rfl) (fun K hK => ?_)
  go_simp
  refine (compare_is EX _).mono ?_
  rintro e wx2 ⟨rfl, hbel⟩
  refine hK.out _ _ hbel ?_
  clear hK K
  refine wpAnyH_mono (S' := fun w' => Below wx2.heap.size wx2 w') (fun w' h => bnext hbel h) _ _ _ _ ?_
  have hH := Below.refl wx2.heap.size wx2
  have hW := bnext hbW hbel
  clear hbel hbW hHeld
  have hHeld := hH
  have hbW := hW
  clear hH hW
  have hsz2 := hbW.size
  replace hcX := fun wx h => HX.out wx (bnext hbW h)
  replace hcY := fun wx h => HY.out wx (bnext hbW h)
  replace hcZ := fun wx h => HZ.out wx (bnext hbW h)
  replace hcU := fun wx h => HU.out wx (bnext hbW h)
  replace hcV := fun wx h => HV.out wx (bnext hbW h)
  replace hcT := fun wx h => HT.out wx (bnext hbW h)
  try simp only [Act.put, List.setIfInBounds_toArray, List.set_cons_zero, List.set_cons_succ]
  -- CALL 5: some 17 := Op.call { callee := Callee.value (Operand.func 19), args := #[Operand.tmp 15, Operand.tmp 16], argTypes := #[25, 25] }
  refine rcall 5 rfl (by kernel_rfl) (by rfl) (fun K hK => ?_)
  go_simp
  refine (compare_is EY _).mono ?_
  rintro e wx5 ⟨rfl, hbel⟩
  refine hK.out _ _ hbel ?_
  clear hK K
  refine wpAnyH_mono (S' := fun w' => Below wx5.heap.size wx5 w') (fun w' h => bnext hbel h) _ _ _ _ ?_
  have hH := Below.refl wx5.heap.size wx5
  have hW := bnext hbW hbel
  clear hbel hbW hHeld
  have hHeld := hH
  have hbW := hW
  clear hH hW
  have hsz5 := hbW.size
  replace hcX := fun wx h => HX.out wx (bnext hbW h)
  replace hcY := fun wx h => HY.out wx (bnext hbW h)
  replace hcZ := fun wx h => HZ.out wx (bnext hbW h)
  replace hcU := fun wx h => HU.out wx (bnext hbW h)
  replace hcV := fun wx h => HV.out wx (bnext hbW h)
  replace hcT := fun wx h => HT.out wx (bnext hbW h)
  try simp only [Act.put, List.setIfInBounds_toArray, List.set_cons_zero, List.set_cons_succ]
  -- CALL 8: some 20 := Op.call { callee := Callee.value (Operand.func 19), args := #[Operand.tmp 18, Operand.tmp 19], argTypes := #[25, 25] }
  refine rcall 8 rfl (by kernel_rfl) (by rfl) (fun K hK => ?_)
  go_simp
  refine (compare_is EZ _).mono ?_
  rintro e wx8 ⟨rfl, hbel⟩
  refine hK.out _ _ hbel ?_
  clear hK K
  refine wpAnyH_mono (S' := fun w' => Below wx8.heap.size wx8 w') (fun w' h => bnext hbel h) _ _ _ _ ?_
  have hH := Below.refl wx8.heap.size wx8
  have hW := bnext hbW hbel
  clear hbel hbW hHeld
  have hHeld := hH
  have hbW := hW
  clear hH hW
  have hsz8 := hbW.size
  replace hcX := fun wx h => HX.out wx (bnext hbW h)
  replace hcY := fun wx h => HY.out wx (bnext hbW h)
  replace hcZ := fun wx h => HZ.out wx (bnext hbW h)
  replace hcU := fun wx h => HU.out wx (bnext hbW h)
  replace hcV := fun wx h => HV.out wx (bnext hbW h)
  replace hcT := fun wx h => HT.out wx (bnext hbW h)
  try simp only [Act.put, List.setIfInBounds_toArray, List.set_cons_zero, List.set_cons_succ]
  refine rtake 9 rfl (by rfl) (by kernel_rfl) (by kernel_rfl) (by kernel_rfl) (fun _ _ _ h => h) hHeld (fun wx hwx => by go_simp; try with_reducible rfl) ?_
  try simp only [Act.put, List.setIfInBounds_toArray, List.set_cons_zero, List.set_cons_succ]
  refine rtake 10 rfl (by rfl) (by kernel_rfl) (by kernel_rfl) (by kernel_rfl) (fun _ _ _ h => h) hHeld (fun wx hwx => by go_simp; try with_reducible rfl) ?_
  try simp only [Act.put, List.setIfInBounds_toArray, List.set_cons_zero, List.set_cons_succ]
  refine rtake 11 rfl (by rfl) (by kernel_rfl) (by kernel_rfl) (by kernel_rfl) (fun _ _ _ h => h) hHeld (fun wx hwx => by go_simp; try with_reducible rfl) ?_
  try simp only [Act.put, List.setIfInBounds_toArray, List.set_cons_zero, List.set_cons_succ]
  refine wpAnyH_done (by kernel_rfl) ?_ _
  have cX := HX.out _ hbW
  have cY := HY.out _ hbW
  have cZ := HZ.out _ hbW
  have cU := HU.out _ hbW
  have cV := HV.out _ hbW
  have cT := HT.out _ hbW
  clear hcX hcY hcZ hcU hcV hcT
  go_wp2_with fail
  refine (compare_is ER _).mono ?_
  rintro e w20 ⟨rfl, hbel⟩
  replace hbW := bnext hbW hbel
  clear hbel
  replace cX := HX.out _ hbW
  replace cY := HY.out _ hbW
  replace cZ := HZ.out _ hbW
  replace cU := HU.out _ hbW
  replace cV := HV.out _ hbW
  replace cT := HT.out _ hbW
  go_wp2_with fail
  refine (identMay_any _ _ _).mono ?_
  rintro e w21 ⟨rfl, hbel⟩
  replace hbW := bnext hbW hbel
  clear hbel
  replace cX := HX.out _ hbW
  replace cY := HY.out _ hbW
  replace cZ := HZ.out _ hbW
  replace cU := HU.out _ hbW
  replace cV := HV.out _ hbW
  replace cT := HT.out _ hbW
  cases ma : mayP a'
  · go_wp2_with fail
    refine (awake04_any _).mono ?_
    rintro e w22 ⟨rfl, hbel⟩
    replace hbW := bnext hbW hbel
    clear hbel
    replace cX := HX.out _ hbW
    replace cY := HY.out _ hbW
    replace cZ := HZ.out _ hbW
    replace cU := HU.out _ hbW
    replace cV := HV.out _ hbW
    replace cT := HT.out _ hbW
    go_wp2_with fail
    go_ret
    exact ⟨rfl, bnext hbw hbW⟩
  · go_wp2_with fail
    refine (identMay_any _ _ _).mono ?_
    rintro e w23 ⟨rfl, hbel⟩
    replace hbW := bnext hbW hbel
    clear hbel
    replace cX := HX.out _ hbW
    replace cY := HY.out _ hbW
    replace cZ := HZ.out _ hbW
    replace cU := HU.out _ hbW
    replace cV := HV.out _ hbW
    replace cT := HT.out _ hbW
    cases mb : mayP a'
    · go_wp2_with fail
      refine (awake04_any _).mono ?_
      rintro e w24 ⟨rfl, hbel⟩
      replace hbW := bnext hbW hbel
      clear hbel
      replace cX := HX.out _ hbW
      replace cY := HY.out _ hbW
      replace cZ := HZ.out _ hbW
      replace cU := HU.out _ hbW
      replace cV := HV.out _ hbW
      replace cT := HT.out _ hbW
      go_wp2_with fail
      go_ret
      exact ⟨rfl, bnext hbw hbW⟩
    · have hlt := less_portS ha.out.1 ha.out.2 hb.out.1 hb.out.2 ma mb
      have hsm := same_portS ha.out.1 ha.out.2 hb.out.1 hb.out.2 ma mb
      rw [EX.out] at hlt hsm
      generalize hsa : portS a a' = A at *
      have hA0 := ha.out.1
      have hB0 := hb.out.1
      have Hlt := hid hlt
      have Hsm := hid hsm
      have Hsa := hid hsa
      clear hlt hsm hsa
      have hbW23 := hbW
      clear hbW
      go_wp2_with fail
      refine wp_region_held_drew (S := fun w' => Below w23.drew.heap.size w23.drew w') (by kernel_rfl) (Below.refl _ _) ?_
      intro hHeld
      have hbW := bnext hbW23 <| Below.drew (Below.refl w23.heap.size w23)
      generalize w23.drew = wd at *
      clear cX cY cZ cU cV cT
      have hcX := fun wx h => HX.out wx (bnext hbW h)
      have hcY := fun wx h => HY.out wx (bnext hbW h)
      have hcZ := fun wx h => HZ.out wx (bnext hbW h)
      have hcU := fun wx h => HU.out wx (bnext hbW h)
      refine rtake 0 rfl (by rfl) (by kernel_rfl) (by kernel_rfl) (by kernel_rfl) (fun _ _ _ h => h) hHeld (fun wx hwx => by go_simp; try with_reducible rfl) ?_
      try simp only [Act.put, List.setIfInBounds_toArray, List.set_cons_zero, List.set_cons_succ]
      refine rtake 3 rfl (by rfl) (by kernel_rfl) (by kernel_rfl) (by kernel_rfl) (fun _ _ _ h => h) hHeld (fun wx hwx => by go_simp; try with_reducible rfl) ?_
      try simp only [Act.put, List.setIfInBounds_toArray, List.set_cons_zero, List.set_cons_succ]
      -- CALL 1: some 69 := Op.call { callee := Callee.value (Operand.func 14), args := #[Operand.const (Value.slice none 0 0), Operand.tmp 68], argTypes := #[22, 25] }
      refine rcall 1 rfl (by kernel_rfl) (by rfl) (fun K hK => ?_)
      go_simp
      refine (identPut_any _ [] a a' _ (Bytes.nil _) (by decide) hA0).mono ?_
      rintro e wx1 ⟨x1, rfl, own1, hbel⟩
      rw [List.nil_append, Hsa.out] at own1
      have hst1 := own1.bytes.strs
      refine hK.out _ _ hbel ?_
      clear hK K
      refine wpAnyH_mono (S' := fun w' => Below wx1.heap.size wx1 w') (fun w' h => bnext hbel h) _ _ _ _ ?_
      have hH := Below.refl wx1.heap.size wx1
      have hW := bnext hbW hbel
      clear hbel hbW hHeld
      have hHeld := hH
      have hbW := hW
      clear hH hW
      have hsz1 := hbW.size
      replace hcX := fun wx h => HX.out wx (bnext hbW h)
      replace hcY := fun wx h => HY.out wx (bnext hbW h)
      replace hcZ := fun wx h => HZ.out wx (bnext hbW h)
      replace hcU := fun wx h => HU.out wx (bnext hbW h)
      try simp only [Act.put, List.setIfInBounds_toArray, List.set_cons_zero, List.set_cons_succ]
      refine rtake 2 rfl (by rfl) (by kernel_rfl) (by kernel_rfl) (by kernel_rfl) (fun _ _ _ h => h) hHeld (fun wx hwx => by go_simp; try with_reducible rfl) ?_
      try simp only [Act.put, List.setIfInBounds_toArray, List.set_cons_zero, List.set_cons_succ]
      -- CALL 4: some 72 := Op.call { callee := Callee.value (Operand.func 14), args := #[Operand.const (Value.slice none 0 0), Operand.tmp 71], argTypes := #[22, 25] }
      refine rcall 4 rfl (by kernel_rfl) (by rfl) (fun K hK => ?_)
      go_simp
      refine (identPut_any _ [] a a' _ (Bytes.nil _) (by decide) hB0).mono ?_
      rintro e wx4 ⟨x4, rfl, own4, hbel⟩
      rw [List.nil_append, Hsa.out] at own4
      have hst4 := own4.bytes.strs
      refine hK.out _ _ hbel ?_
      clear hK K
      refine wpAnyH_mono (S' := fun w' => Below wx4.heap.size wx4 w') (fun w' h => bnext hbel h) _ _ _ _ ?_
      have hH := Below.refl wx4.heap.size wx4
      have hW := bnext hbW hbel
      clear hbel hbW hHeld
      have hHeld := hH
      have hbW := hW
      clear hH hW
      have hsz4 := hbW.size
      replace hcX := fun wx h => HX.out wx (bnext hbW h)
      replace hcY := fun wx h => HY.out wx (bnext hbW h)
      replace hcZ := fun wx h => HZ.out wx (bnext hbW h)
      replace hcU := fun wx h => HU.out wx (bnext hbW h)
      try simp only [Act.put, List.setIfInBounds_toArray, List.set_cons_zero, List.set_cons_succ]
      refine rtake 5 rfl (by rfl) (by kernel_rfl) (by kernel_rfl) (by kernel_rfl) (fun _ _ _ h => h) hHeld (fun wx hwx => by go_simp; try with_reducible rfl) ?_
      try simp only [Act.put, List.setIfInBounds_toArray, List.set_cons_zero, List.set_cons_succ]
      refine rtake 6 rfl (by rfl) (by kernel_rfl) (by kernel_rfl) (by kernel_rfl) (fun _ _ _ h => h) hHeld (fun wx hwx => by go_simp; try with_reducible rfl) ?_
      try simp only [Act.put, List.setIfInBounds_toArray, List.set_cons_zero, List.set_cons_succ]
      refine rtake 7 rfl (by rfl) (by kernel_rfl) (by kernel_rfl) (by kernel_rfl) (fun _ _ _ h => h) hHeld (fun wx hwx => by go_simp; try with_reducible rfl) ?_
      try simp only [Act.put, List.setIfInBounds_toArray, List.set_cons_zero, List.set_cons_succ]
      refine wpAnyH_done (by kernel_rfl) ?_ _
      have e1 : Op.bytesLess A A = false := Hlt.out
      have e2 : (A == A) = true := Hsm.out
      go_wp2_with fail
      refine (awake04_any _).mono ?_
      rintro e w25 ⟨rfl, hbel⟩
      replace hbW := bnext hbW hbel
      clear hbel e1 e2
      go_wp2_with fail
      go_ret
      exact ⟨rfl, bnext hbw hbW⟩

set_option maxRecDepth 100000 in
set_option maxHeartbeats 4000000 in
theorem identOrder_4 (a a' c c' y z : Int) (ha : Hid (0 ≤ a ∧ a < 18446744073709551616)) (hb : Hid (0 ≤ a ∧ a < 18446744073709551616)) (EX : Hid (cmpP a a' a a' = 0)) (ER : Hid (cmpP a a' a a' = 0)) (EY : Hid (cmpP a a' c c' = y)) (EZ : Hid (cmpP a a' c c' = z)) (hy : ¬ y ≤ 0) (w : World) :
    Calls Try.prog 5 #[portV a a', portV a a', portV c c'] w fun e w' => e = .returned (.bool true) ∧ Below w.heap.size w w' := by
  go_enter Try.func5, Try.ntmps5
  go_wp2_with fail
  obtain ⟨W, hWe, hbw, HX, HY, HZ, HU, HV, HT⟩ := boxes3 w (.int .u64 a) (.int .i64 a') (.int .u64 a) (.int .i64 a') (.int .u64 c) (.int .i64 c') 25
  rw [← hWe]
  clear hWe
  refine wp_region_held_drew (S := fun w' => Below W.drew.heap.size W.drew w') (by kernel_rfl) (Below.refl _ _) ?_
  intro hHeld
  have hbW := Below.drew (Below.refl W.heap.size W)
  generalize W.drew = wd at *
  have hcX := fun wx h => HX.out wx (bnext hbW h)
  have hcY := fun wx h => HY.out wx (bnext hbW h)
  have hcZ := fun wx h => HZ.out wx (bnext hbW h)
  have hcU := fun wx h => HU.out wx (bnext hbW h)
  have hcV := fun wx h => HV.out wx (bnext hbW h)
  have hcT := fun wx h => HT.out wx (bnext hbW h)
  refine rtake 0 rfl (by rfl) (by kernel_rfl) (by kernel_rfl) (by kernel_rfl) (fun _ _ _ h => h) hHeld (fun wx hwx => by go_simp; try with_reducible rfl) ?_
  try simp only [Act.put, List.setIfInBounds_toArray, List.set_cons_zero, List.set_cons_succ]
  refine rtake 1 rfl (by rfl) (by kernel_rfl) (by kernel_rfl) (by kernel_rfl) (fun _ _ _ h => h) hHeld (fun wx hwx => by go_simp; try with_reducible rfl) ?_
  try simp only [Act.put, List.setIfInBounds_toArray, List.set_cons_zero, List.set_cons_succ]
  refine rtake 3 rfl (by rfl) (by kernel_rfl) (by kernel_rfl) (by kernel_rfl) (fun _ _ _ h => h) hHeld (fun wx hwx => by go_simp; try with_reducible rfl) ?_
  try simp only [Act.put, List.setIfInBounds_toArray, List.set_cons_zero, List.set_cons_succ]
  refine rtake 4 rfl (by rfl) (by kernel_rfl) (by kernel_rfl) (by kernel_rfl) (fun _ _ _ h => h) hHeld (fun wx hwx => by go_simp; try with_reducible rfl) ?_
  try simp only [Act.put, List.setIfInBounds_toArray, List.set_cons_zero, List.set_cons_succ]
  refine rtake 6 rfl (by rfl) (by kernel_rfl) (by kernel_rfl) (by kernel_rfl) (fun _ _ _ h => h) hHeld (fun wx hwx => by go_simp; try with_reducible rfl) ?_
  try simp only [Act.put, List.setIfInBounds_toArray, List.set_cons_zero, List.set_cons_succ]
  refine rtake 7 rfl (by rfl) (by kernel_rfl) (by kernel_rfl) (by kernel_rfl) (fun _ _ _ h => h) hHeld (fun wx hwx => by go_simp; try with_reducible rfl) ?_
  try simp only [Act.put, List.setIfInBounds_toArray, List.set_cons_zero, List.set_cons_succ]
  -- CALL 2: some 14 := Op.call { callee := Callee.value (Operand.func 19), args := #[Operand.tmp 12, Operand.tmp 13], argTypes := #[25, 25] }
  refine rcall 2 rfl (by kernel_rfl) (by rfl) (fun K hK => ?_)
  go_simp
  refine (compare_is EX _).mono ?_
  rintro e wx2 ⟨rfl, hbel⟩
  refine hK.out _ _ hbel ?_
  clear hK K
  refine wpAnyH_mono (S' := fun w' => Below wx2.heap.size wx2 w') (fun w' h => bnext hbel h) _ _ _ _ ?_
  have hH := Below.refl wx2.heap.size wx2
  have hW := bnext hbW hbel
  clear hbel hbW hHeld
  have hHeld := hH
  have hbW := hW
  clear hH hW
  have hsz2 := hbW.size
  replace hcX := fun wx h => HX.out wx (bnext hbW h)
  replace hcY := fun wx h => HY.out wx (bnext hbW h)
  replace hcZ := fun wx h => HZ.out wx (bnext hbW h)
  replace hcU := fun wx h => HU.out wx (bnext hbW h)
  replace hcV := fun wx h => HV.out wx (bnext hbW h)
  replace hcT := fun wx h => HT.out wx (bnext hbW h)
  try simp only [Act.put, List.setIfInBounds_toArray, List.set_cons_zero, List.set_cons_succ]
  -- CALL 5: some 17 := Op.call { callee := Callee.value (Operand.func 19), args := #[Operand.tmp 15, Operand.tmp 16], argTypes := #[25, 25] }
  refine rcall 5 rfl (by kernel_rfl) (by rfl) (fun K hK => ?_)
  go_simp
  refine (compare_is EY _).mono ?_
  rintro e wx5 ⟨rfl, hbel⟩
  refine hK.out _ _ hbel ?_
  clear hK K
  refine wpAnyH_mono (S' := fun w' => Below wx5.heap.size wx5 w') (fun w' h => bnext hbel h) _ _ _ _ ?_
  have hH := Below.refl wx5.heap.size wx5
  have hW := bnext hbW hbel
  clear hbel hbW hHeld
  have hHeld := hH
  have hbW := hW
  clear hH hW
  have hsz5 := hbW.size
  replace hcX := fun wx h => HX.out wx (bnext hbW h)
  replace hcY := fun wx h => HY.out wx (bnext hbW h)
  replace hcZ := fun wx h => HZ.out wx (bnext hbW h)
  replace hcU := fun wx h => HU.out wx (bnext hbW h)
  replace hcV := fun wx h => HV.out wx (bnext hbW h)
  replace hcT := fun wx h => HT.out wx (bnext hbW h)
  try simp only [Act.put, List.setIfInBounds_toArray, List.set_cons_zero, List.set_cons_succ]
  -- CALL 8: some 20 := Op.call { callee := Callee.value (Operand.func 19), args := #[Operand.tmp 18, Operand.tmp 19], argTypes := #[25, 25] }
  refine rcall 8 rfl (by kernel_rfl) (by rfl) (fun K hK => ?_)
  go_simp
  refine (compare_is EZ _).mono ?_
  rintro e wx8 ⟨rfl, hbel⟩
  refine hK.out _ _ hbel ?_
  clear hK K
  refine wpAnyH_mono (S' := fun w' => Below wx8.heap.size wx8 w') (fun w' h => bnext hbel h) _ _ _ _ ?_
  have hH := Below.refl wx8.heap.size wx8
  have hW := bnext hbW hbel
  clear hbel hbW hHeld
  have hHeld := hH
  have hbW := hW
  clear hH hW
  have hsz8 := hbW.size
  replace hcX := fun wx h => HX.out wx (bnext hbW h)
  replace hcY := fun wx h => HY.out wx (bnext hbW h)
  replace hcZ := fun wx h => HZ.out wx (bnext hbW h)
  replace hcU := fun wx h => HU.out wx (bnext hbW h)
  replace hcV := fun wx h => HV.out wx (bnext hbW h)
  replace hcT := fun wx h => HT.out wx (bnext hbW h)
  try simp only [Act.put, List.setIfInBounds_toArray, List.set_cons_zero, List.set_cons_succ]
  refine rtake 9 rfl (by rfl) (by kernel_rfl) (by kernel_rfl) (by kernel_rfl) (fun _ _ _ h => h) hHeld (fun wx hwx => by go_simp; try with_reducible rfl) ?_
  try simp only [Act.put, List.setIfInBounds_toArray, List.set_cons_zero, List.set_cons_succ]
  refine rtake 10 rfl (by rfl) (by kernel_rfl) (by kernel_rfl) (by kernel_rfl) (fun _ _ _ h => h) hHeld (fun wx hwx => by go_simp; try with_reducible rfl) ?_
  try simp only [Act.put, List.setIfInBounds_toArray, List.set_cons_zero, List.set_cons_succ]
  refine rtake 11 rfl (by rfl) (by kernel_rfl) (by kernel_rfl) (by kernel_rfl) (fun _ _ _ h => h) hHeld (fun wx hwx => by go_simp; try with_reducible rfl) ?_
  try simp only [Act.put, List.setIfInBounds_toArray, List.set_cons_zero, List.set_cons_succ]
  refine wpAnyH_done (by kernel_rfl) ?_ _
  have cX := HX.out _ hbW
  have cY := HY.out _ hbW
  have cZ := HZ.out _ hbW
  have cU := HU.out _ hbW
  have cV := HV.out _ hbW
  have cT := HT.out _ hbW
  clear hcX hcY hcZ hcU hcV hcT
  go_wp2_with fail
  refine (compare_is ER _).mono ?_
  rintro e w20 ⟨rfl, hbel⟩
  replace hbW := bnext hbW hbel
  clear hbel
  replace cX := HX.out _ hbW
  replace cY := HY.out _ hbW
  replace cZ := HZ.out _ hbW
  replace cU := HU.out _ hbW
  replace cV := HV.out _ hbW
  replace cT := HT.out _ hbW
  go_wp2_with fail
  refine (identMay_any _ _ _).mono ?_
  rintro e w21 ⟨rfl, hbel⟩
  replace hbW := bnext hbW hbel
  clear hbel
  replace cX := HX.out _ hbW
  replace cY := HY.out _ hbW
  replace cZ := HZ.out _ hbW
  replace cU := HU.out _ hbW
  replace cV := HV.out _ hbW
  replace cT := HT.out _ hbW
  cases ma : mayP a'
  · go_wp2_with fail
    refine (awake04_any _).mono ?_
    rintro e w22 ⟨rfl, hbel⟩
    replace hbW := bnext hbW hbel
    clear hbel
    replace cX := HX.out _ hbW
    replace cY := HY.out _ hbW
    replace cZ := HZ.out _ hbW
    replace cU := HU.out _ hbW
    replace cV := HV.out _ hbW
    replace cT := HT.out _ hbW
    go_wp2_with fail
    go_ret
    exact ⟨rfl, bnext hbw hbW⟩
  · go_wp2_with fail
    refine (identMay_any _ _ _).mono ?_
    rintro e w23 ⟨rfl, hbel⟩
    replace hbW := bnext hbW hbel
    clear hbel
    replace cX := HX.out _ hbW
    replace cY := HY.out _ hbW
    replace cZ := HZ.out _ hbW
    replace cU := HU.out _ hbW
    replace cV := HV.out _ hbW
    replace cT := HT.out _ hbW
    cases mb : mayP a'
    · go_wp2_with fail
      refine (awake04_any _).mono ?_
      rintro e w24 ⟨rfl, hbel⟩
      replace hbW := bnext hbW hbel
      clear hbel
      replace cX := HX.out _ hbW
      replace cY := HY.out _ hbW
      replace cZ := HZ.out _ hbW
      replace cU := HU.out _ hbW
      replace cV := HV.out _ hbW
      replace cT := HT.out _ hbW
      go_wp2_with fail
      go_ret
      exact ⟨rfl, bnext hbw hbW⟩
    · have hlt := less_portS ha.out.1 ha.out.2 hb.out.1 hb.out.2 ma mb
      have hsm := same_portS ha.out.1 ha.out.2 hb.out.1 hb.out.2 ma mb
      rw [EX.out] at hlt hsm
      generalize hsa : portS a a' = A at *
      have hA0 := ha.out.1
      have hB0 := hb.out.1
      have Hlt := hid hlt
      have Hsm := hid hsm
      have Hsa := hid hsa
      clear hlt hsm hsa
      have hbW23 := hbW
      clear hbW
      go_wp2_with fail
      refine wp_region_held_drew (S := fun w' => Below w23.drew.heap.size w23.drew w') (by kernel_rfl) (Below.refl _ _) ?_
      intro hHeld
      have hbW := bnext hbW23 <| Below.drew (Below.refl w23.heap.size w23)
      generalize w23.drew = wd at *
      clear cX cY cZ cU cV cT
      have hcX := fun wx h => HX.out wx (bnext hbW h)
      have hcY := fun wx h => HY.out wx (bnext hbW h)
      have hcZ := fun wx h => HZ.out wx (bnext hbW h)
      have hcU := fun wx h => HU.out wx (bnext hbW h)
      refine rtake 0 rfl (by rfl) (by kernel_rfl) (by kernel_rfl) (by kernel_rfl) (fun _ _ _ h => h) hHeld (fun wx hwx => by go_simp; try with_reducible rfl) ?_
      try simp only [Act.put, List.setIfInBounds_toArray, List.set_cons_zero, List.set_cons_succ]
      refine rtake 3 rfl (by rfl) (by kernel_rfl) (by kernel_rfl) (by kernel_rfl) (fun _ _ _ h => h) hHeld (fun wx hwx => by go_simp; try with_reducible rfl) ?_
      try simp only [Act.put, List.setIfInBounds_toArray, List.set_cons_zero, List.set_cons_succ]
      -- CALL 1: some 69 := Op.call { callee := Callee.value (Operand.func 14), args := #[Operand.const (Value.slice none 0 0), Operand.tmp 68], argTypes := #[22, 25] }
      refine rcall 1 rfl (by kernel_rfl) (by rfl) (fun K hK => ?_)
      go_simp
      refine (identPut_any _ [] a a' _ (Bytes.nil _) (by decide) hA0).mono ?_
      rintro e wx1 ⟨x1, rfl, own1, hbel⟩
      rw [List.nil_append, Hsa.out] at own1
      have hst1 := own1.bytes.strs
      refine hK.out _ _ hbel ?_
      clear hK K
      refine wpAnyH_mono (S' := fun w' => Below wx1.heap.size wx1 w') (fun w' h => bnext hbel h) _ _ _ _ ?_
      have hH := Below.refl wx1.heap.size wx1
      have hW := bnext hbW hbel
      clear hbel hbW hHeld
      have hHeld := hH
      have hbW := hW
      clear hH hW
      have hsz1 := hbW.size
      replace hcX := fun wx h => HX.out wx (bnext hbW h)
      replace hcY := fun wx h => HY.out wx (bnext hbW h)
      replace hcZ := fun wx h => HZ.out wx (bnext hbW h)
      replace hcU := fun wx h => HU.out wx (bnext hbW h)
      try simp only [Act.put, List.setIfInBounds_toArray, List.set_cons_zero, List.set_cons_succ]
      refine rtake 2 rfl (by rfl) (by kernel_rfl) (by kernel_rfl) (by kernel_rfl) (fun _ _ _ h => h) hHeld (fun wx hwx => by go_simp; try with_reducible rfl) ?_
      try simp only [Act.put, List.setIfInBounds_toArray, List.set_cons_zero, List.set_cons_succ]
      -- CALL 4: some 72 := Op.call { callee := Callee.value (Operand.func 14), args := #[Operand.const (Value.slice none 0 0), Operand.tmp 71], argTypes := #[22, 25] }
      refine rcall 4 rfl (by kernel_rfl) (by rfl) (fun K hK => ?_)
      go_simp
      refine (identPut_any _ [] a a' _ (Bytes.nil _) (by decide) hB0).mono ?_
      rintro e wx4 ⟨x4, rfl, own4, hbel⟩
      rw [List.nil_append, Hsa.out] at own4
      have hst4 := own4.bytes.strs
      refine hK.out _ _ hbel ?_
      clear hK K
      refine wpAnyH_mono (S' := fun w' => Below wx4.heap.size wx4 w') (fun w' h => bnext hbel h) _ _ _ _ ?_
      have hH := Below.refl wx4.heap.size wx4
      have hW := bnext hbW hbel
      clear hbel hbW hHeld
      have hHeld := hH
      have hbW := hW
      clear hH hW
      have hsz4 := hbW.size
      replace hcX := fun wx h => HX.out wx (bnext hbW h)
      replace hcY := fun wx h => HY.out wx (bnext hbW h)
      replace hcZ := fun wx h => HZ.out wx (bnext hbW h)
      replace hcU := fun wx h => HU.out wx (bnext hbW h)
      try simp only [Act.put, List.setIfInBounds_toArray, List.set_cons_zero, List.set_cons_succ]
      refine rtake 5 rfl (by rfl) (by kernel_rfl) (by kernel_rfl) (by kernel_rfl) (fun _ _ _ h => h) hHeld (fun wx hwx => by go_simp; try with_reducible rfl) ?_
      try simp only [Act.put, List.setIfInBounds_toArray, List.set_cons_zero, List.set_cons_succ]
      refine rtake 6 rfl (by rfl) (by kernel_rfl) (by kernel_rfl) (by kernel_rfl) (fun _ _ _ h => h) hHeld (fun wx hwx => by go_simp; try with_reducible rfl) ?_
      try simp only [Act.put, List.setIfInBounds_toArray, List.set_cons_zero, List.set_cons_succ]
      refine rtake 7 rfl (by rfl) (by kernel_rfl) (by kernel_rfl) (by kernel_rfl) (fun _ _ _ h => h) hHeld (fun wx hwx => by go_simp; try with_reducible rfl) ?_
      try simp only [Act.put, List.setIfInBounds_toArray, List.set_cons_zero, List.set_cons_succ]
      refine wpAnyH_done (by kernel_rfl) ?_ _
      have e1 : Op.bytesLess A A = false := Hlt.out
      have e2 : (A == A) = true := Hsm.out
      go_wp2_with fail
      refine (awake04_any _).mono ?_
      rintro e w25 ⟨rfl, hbel⟩
      replace hbW := bnext hbW hbel
      clear hbel e1 e2
      go_wp2_with fail
      go_ret
      exact ⟨rfl, bnext hbw hbW⟩

set_option maxRecDepth 100000 in
set_option maxHeartbeats 4000000 in
theorem identOrder_5 (a a' b b' c c' y : Int) (ha : Hid (0 ≤ a ∧ a < 18446744073709551616)) (hb : Hid (0 ≤ b ∧ b < 18446744073709551616)) (EX : Hid (cmpP a a' b b' = -1)) (ER : Hid (cmpP b b' a a' = 1)) (EY : Hid (cmpP b b' c c' = y)) (EZ : Hid (cmpP a a' c c' = -1)) (hab : a ≠ b) (hy : y ≤ 0) (w : World) :
    Calls Try.prog 5 #[portV a a', portV b b', portV c c'] w fun e w' => e = .returned (.bool true) ∧ Below w.heap.size w w' := by
  go_enter Try.func5, Try.ntmps5
  go_wp2_with fail
  obtain ⟨W, hWe, hbw, HX, HY, HZ, HU, HV, HT⟩ := boxes3 w (.int .u64 a) (.int .i64 a') (.int .u64 b) (.int .i64 b') (.int .u64 c) (.int .i64 c') 25
  rw [← hWe]
  clear hWe
  refine wp_region_held_drew (S := fun w' => Below W.drew.heap.size W.drew w') (by kernel_rfl) (Below.refl _ _) ?_
  intro hHeld
  have hbW := Below.drew (Below.refl W.heap.size W)
  generalize W.drew = wd at *
  have hcX := fun wx h => HX.out wx (bnext hbW h)
  have hcY := fun wx h => HY.out wx (bnext hbW h)
  have hcZ := fun wx h => HZ.out wx (bnext hbW h)
  have hcU := fun wx h => HU.out wx (bnext hbW h)
  have hcV := fun wx h => HV.out wx (bnext hbW h)
  have hcT := fun wx h => HT.out wx (bnext hbW h)
  refine rtake 0 rfl (by rfl) (by kernel_rfl) (by kernel_rfl) (by kernel_rfl) (fun _ _ _ h => h) hHeld (fun wx hwx => by go_simp; try with_reducible rfl) ?_
  try simp only [Act.put, List.setIfInBounds_toArray, List.set_cons_zero, List.set_cons_succ]
  refine rtake 1 rfl (by rfl) (by kernel_rfl) (by kernel_rfl) (by kernel_rfl) (fun _ _ _ h => h) hHeld (fun wx hwx => by go_simp; try with_reducible rfl) ?_
  try simp only [Act.put, List.setIfInBounds_toArray, List.set_cons_zero, List.set_cons_succ]
  refine rtake 3 rfl (by rfl) (by kernel_rfl) (by kernel_rfl) (by kernel_rfl) (fun _ _ _ h => h) hHeld (fun wx hwx => by go_simp; try with_reducible rfl) ?_
  try simp only [Act.put, List.setIfInBounds_toArray, List.set_cons_zero, List.set_cons_succ]
  refine rtake 4 rfl (by rfl) (by kernel_rfl) (by kernel_rfl) (by kernel_rfl) (fun _ _ _ h => h) hHeld (fun wx hwx => by go_simp; try with_reducible rfl) ?_
  try simp only [Act.put, List.setIfInBounds_toArray, List.set_cons_zero, List.set_cons_succ]
  refine rtake 6 rfl (by rfl) (by kernel_rfl) (by kernel_rfl) (by kernel_rfl) (fun _ _ _ h => h) hHeld (fun wx hwx => by go_simp; try with_reducible rfl) ?_
  try simp only [Act.put, List.setIfInBounds_toArray, List.set_cons_zero, List.set_cons_succ]
  refine rtake 7 rfl (by rfl) (by kernel_rfl) (by kernel_rfl) (by kernel_rfl) (fun _ _ _ h => h) hHeld (fun wx hwx => by go_simp; try with_reducible rfl) ?_
  try simp only [Act.put, List.setIfInBounds_toArray, List.set_cons_zero, List.set_cons_succ]
  -- CALL 2: some 14 := Op.call { callee := Callee.value (Operand.func 19), args := #[Operand.tmp 12, Operand.tmp 13], argTypes := #[25, 25] }
  refine rcall 2 rfl (by kernel_rfl) (by rfl) (fun K hK => ?_)
  go_simp
  refine (compare_is EX _).mono ?_
  rintro e wx2 ⟨rfl, hbel⟩
  refine hK.out _ _ hbel ?_
  clear hK K
  refine wpAnyH_mono (S' := fun w' => Below wx2.heap.size wx2 w') (fun w' h => bnext hbel h) _ _ _ _ ?_
  have hH := Below.refl wx2.heap.size wx2
  have hW := bnext hbW hbel
  clear hbel hbW hHeld
  have hHeld := hH
  have hbW := hW
  clear hH hW
  have hsz2 := hbW.size
  replace hcX := fun wx h => HX.out wx (bnext hbW h)
  replace hcY := fun wx h => HY.out wx (bnext hbW h)
  replace hcZ := fun wx h => HZ.out wx (bnext hbW h)
  replace hcU := fun wx h => HU.out wx (bnext hbW h)
  replace hcV := fun wx h => HV.out wx (bnext hbW h)
  replace hcT := fun wx h => HT.out wx (bnext hbW h)
  try simp only [Act.put, List.setIfInBounds_toArray, List.set_cons_zero, List.set_cons_succ]
  -- CALL 5: some 17 := Op.call { callee := Callee.value (Operand.func 19), args := #[Operand.tmp 15, Operand.tmp 16], argTypes := #[25, 25] }
  refine rcall 5 rfl (by kernel_rfl) (by rfl) (fun K hK => ?_)
  go_simp
  refine (compare_is EY _).mono ?_
  rintro e wx5 ⟨rfl, hbel⟩
  refine hK.out _ _ hbel ?_
  clear hK K
  refine wpAnyH_mono (S' := fun w' => Below wx5.heap.size wx5 w') (fun w' h => bnext hbel h) _ _ _ _ ?_
  have hH := Below.refl wx5.heap.size wx5
  have hW := bnext hbW hbel
  clear hbel hbW hHeld
  have hHeld := hH
  have hbW := hW
  clear hH hW
  have hsz5 := hbW.size
  replace hcX := fun wx h => HX.out wx (bnext hbW h)
  replace hcY := fun wx h => HY.out wx (bnext hbW h)
  replace hcZ := fun wx h => HZ.out wx (bnext hbW h)
  replace hcU := fun wx h => HU.out wx (bnext hbW h)
  replace hcV := fun wx h => HV.out wx (bnext hbW h)
  replace hcT := fun wx h => HT.out wx (bnext hbW h)
  try simp only [Act.put, List.setIfInBounds_toArray, List.set_cons_zero, List.set_cons_succ]
  -- CALL 8: some 20 := Op.call { callee := Callee.value (Operand.func 19), args := #[Operand.tmp 18, Operand.tmp 19], argTypes := #[25, 25] }
  refine rcall 8 rfl (by kernel_rfl) (by rfl) (fun K hK => ?_)
  go_simp
  refine (compare_is EZ _).mono ?_
  rintro e wx8 ⟨rfl, hbel⟩
  refine hK.out _ _ hbel ?_
  clear hK K
  refine wpAnyH_mono (S' := fun w' => Below wx8.heap.size wx8 w') (fun w' h => bnext hbel h) _ _ _ _ ?_
  have hH := Below.refl wx8.heap.size wx8
  have hW := bnext hbW hbel
  clear hbel hbW hHeld
  have hHeld := hH
  have hbW := hW
  clear hH hW
  have hsz8 := hbW.size
  replace hcX := fun wx h => HX.out wx (bnext hbW h)
  replace hcY := fun wx h => HY.out wx (bnext hbW h)
  replace hcZ := fun wx h => HZ.out wx (bnext hbW h)
  replace hcU := fun wx h => HU.out wx (bnext hbW h)
  replace hcV := fun wx h => HV.out wx (bnext hbW h)
  replace hcT := fun wx h => HT.out wx (bnext hbW h)
  try simp only [Act.put, List.setIfInBounds_toArray, List.set_cons_zero, List.set_cons_succ]
  refine rtake 9 rfl (by rfl) (by kernel_rfl) (by kernel_rfl) (by kernel_rfl) (fun _ _ _ h => h) hHeld (fun wx hwx => by go_simp; try with_reducible rfl) ?_
  try simp only [Act.put, List.setIfInBounds_toArray, List.set_cons_zero, List.set_cons_succ]
  refine rtake 10 rfl (by rfl) (by kernel_rfl) (by kernel_rfl) (by kernel_rfl) (fun _ _ _ h => h) hHeld (fun wx hwx => by go_simp; try with_reducible rfl) ?_
  try simp only [Act.put, List.setIfInBounds_toArray, List.set_cons_zero, List.set_cons_succ]
  refine rtake 11 rfl (by rfl) (by kernel_rfl) (by kernel_rfl) (by kernel_rfl) (fun _ _ _ h => h) hHeld (fun wx hwx => by go_simp; try with_reducible rfl) ?_
  try simp only [Act.put, List.setIfInBounds_toArray, List.set_cons_zero, List.set_cons_succ]
  refine wpAnyH_done (by kernel_rfl) ?_ _
  have cX := HX.out _ hbW
  have cY := HY.out _ hbW
  have cZ := HZ.out _ hbW
  have cU := HU.out _ hbW
  have cV := HV.out _ hbW
  have cT := HT.out _ hbW
  clear hcX hcY hcZ hcU hcV hcT
  go_wp2_with fail
  refine (compare_is ER _).mono ?_
  rintro e w20 ⟨rfl, hbel⟩
  replace hbW := bnext hbW hbel
  clear hbel
  replace cX := HX.out _ hbW
  replace cY := HY.out _ hbW
  replace cZ := HZ.out _ hbW
  replace cU := HU.out _ hbW
  replace cV := HV.out _ hbW
  replace cT := HT.out _ hbW
  go_wp2_with fail
  refine (identMay_any _ _ _).mono ?_
  rintro e w21 ⟨rfl, hbel⟩
  replace hbW := bnext hbW hbel
  clear hbel
  replace cX := HX.out _ hbW
  replace cY := HY.out _ hbW
  replace cZ := HZ.out _ hbW
  replace cU := HU.out _ hbW
  replace cV := HV.out _ hbW
  replace cT := HT.out _ hbW
  cases ma : mayP a'
  · go_wp2_with fail
    refine (awake04_any _).mono ?_
    rintro e w22 ⟨rfl, hbel⟩
    replace hbW := bnext hbW hbel
    clear hbel
    replace cX := HX.out _ hbW
    replace cY := HY.out _ hbW
    replace cZ := HZ.out _ hbW
    replace cU := HU.out _ hbW
    replace cV := HV.out _ hbW
    replace cT := HT.out _ hbW
    go_wp2_with fail
    go_ret
    exact ⟨rfl, bnext hbw hbW⟩
  · go_wp2_with fail
    refine (identMay_any _ _ _).mono ?_
    rintro e w23 ⟨rfl, hbel⟩
    replace hbW := bnext hbW hbel
    clear hbel
    replace cX := HX.out _ hbW
    replace cY := HY.out _ hbW
    replace cZ := HZ.out _ hbW
    replace cU := HU.out _ hbW
    replace cV := HV.out _ hbW
    replace cT := HT.out _ hbW
    cases mb : mayP b'
    · go_wp2_with fail
      refine (awake04_any _).mono ?_
      rintro e w24 ⟨rfl, hbel⟩
      replace hbW := bnext hbW hbel
      clear hbel
      replace cX := HX.out _ hbW
      replace cY := HY.out _ hbW
      replace cZ := HZ.out _ hbW
      replace cU := HU.out _ hbW
      replace cV := HV.out _ hbW
      replace cT := HT.out _ hbW
      go_wp2_with fail
      go_ret
      exact ⟨rfl, bnext hbw hbW⟩
    · have hlt := less_portS ha.out.1 ha.out.2 hb.out.1 hb.out.2 ma mb
      have hsm := same_portS ha.out.1 ha.out.2 hb.out.1 hb.out.2 ma mb
      rw [EX.out] at hlt hsm
      generalize hsa : portS a a' = A at *
      generalize hsb : portS b b' = B at *
      have hA0 := ha.out.1
      have hB0 := hb.out.1
      have Hlt := hid hlt
      have Hsm := hid hsm
      have Hsa := hid hsa
      have Hsb := hid hsb
      clear hlt hsm hsa hsb
      have hbW23 := hbW
      clear hbW
      go_wp2_with fail
      refine wp_region_held_drew (S := fun w' => Below w23.drew.heap.size w23.drew w') (by kernel_rfl) (Below.refl _ _) ?_
      intro hHeld
      have hbW := bnext hbW23 <| Below.drew (Below.refl w23.heap.size w23)
      generalize w23.drew = wd at *
      clear cX cY cZ cU cV cT
      have hcX := fun wx h => HX.out wx (bnext hbW h)
      have hcY := fun wx h => HY.out wx (bnext hbW h)
      have hcZ := fun wx h => HZ.out wx (bnext hbW h)
      have hcU := fun wx h => HU.out wx (bnext hbW h)
      refine rtake 0 rfl (by rfl) (by kernel_rfl) (by kernel_rfl) (by kernel_rfl) (fun _ _ _ h => h) hHeld (fun wx hwx => by go_simp; try with_reducible rfl) ?_
      try simp only [Act.put, List.setIfInBounds_toArray, List.set_cons_zero, List.set_cons_succ]
      refine rtake 3 rfl (by rfl) (by kernel_rfl) (by kernel_rfl) (by kernel_rfl) (fun _ _ _ h => h) hHeld (fun wx hwx => by go_simp; try with_reducible rfl) ?_
      try simp only [Act.put, List.setIfInBounds_toArray, List.set_cons_zero, List.set_cons_succ]
      -- CALL 1: some 69 := Op.call { callee := Callee.value (Operand.func 14), args := #[Operand.const (Value.slice none 0 0), Operand.tmp 68], argTypes := #[22, 25] }
      refine rcall 1 rfl (by kernel_rfl) (by rfl) (fun K hK => ?_)
      go_simp
      refine (identPut_any _ [] a a' _ (Bytes.nil _) (by decide) hA0).mono ?_
      rintro e wx1 ⟨x1, rfl, own1, hbel⟩
      rw [List.nil_append, Hsa.out] at own1
      have hst1 := own1.bytes.strs
      refine hK.out _ _ hbel ?_
      clear hK K
      refine wpAnyH_mono (S' := fun w' => Below wx1.heap.size wx1 w') (fun w' h => bnext hbel h) _ _ _ _ ?_
      have hH := Below.refl wx1.heap.size wx1
      have hW := bnext hbW hbel
      clear hbel hbW hHeld
      have hHeld := hH
      have hbW := hW
      clear hH hW
      have hsz1 := hbW.size
      replace hcX := fun wx h => HX.out wx (bnext hbW h)
      replace hcY := fun wx h => HY.out wx (bnext hbW h)
      replace hcZ := fun wx h => HZ.out wx (bnext hbW h)
      replace hcU := fun wx h => HU.out wx (bnext hbW h)
      try simp only [Act.put, List.setIfInBounds_toArray, List.set_cons_zero, List.set_cons_succ]
      refine rtake 2 rfl (by rfl) (by kernel_rfl) (by kernel_rfl) (by kernel_rfl) (fun _ _ _ h => h) hHeld (fun wx hwx => by go_simp; try with_reducible rfl) ?_
      try simp only [Act.put, List.setIfInBounds_toArray, List.set_cons_zero, List.set_cons_succ]
      -- CALL 4: some 72 := Op.call { callee := Callee.value (Operand.func 14), args := #[Operand.const (Value.slice none 0 0), Operand.tmp 71], argTypes := #[22, 25] }
      refine rcall 4 rfl (by kernel_rfl) (by rfl) (fun K hK => ?_)
      go_simp
      refine (identPut_any _ [] b b' _ (Bytes.nil _) (by decide) hB0).mono ?_
      rintro e wx4 ⟨x4, rfl, own4, hbel⟩
      rw [List.nil_append, Hsb.out] at own4
      have hst4 := own4.bytes.strs
      refine hK.out _ _ hbel ?_
      clear hK K
      refine wpAnyH_mono (S' := fun w' => Below wx4.heap.size wx4 w') (fun w' h => bnext hbel h) _ _ _ _ ?_
      have hH := Below.refl wx4.heap.size wx4
      have hW := bnext hbW hbel
      clear hbel hbW hHeld
      have hHeld := hH
      have hbW := hW
      clear hH hW
      have hsz4 := hbW.size
      replace hcX := fun wx h => HX.out wx (bnext hbW h)
      replace hcY := fun wx h => HY.out wx (bnext hbW h)
      replace hcZ := fun wx h => HZ.out wx (bnext hbW h)
      replace hcU := fun wx h => HU.out wx (bnext hbW h)
      try simp only [Act.put, List.setIfInBounds_toArray, List.set_cons_zero, List.set_cons_succ]
      refine rtake 5 rfl (by rfl) (by kernel_rfl) (by kernel_rfl) (by kernel_rfl) (fun _ _ _ h => h) hHeld (fun wx hwx => by go_simp; try with_reducible rfl) ?_
      try simp only [Act.put, List.setIfInBounds_toArray, List.set_cons_zero, List.set_cons_succ]
      refine rtake 6 rfl (by rfl) (by kernel_rfl) (by kernel_rfl) (by kernel_rfl) (fun _ _ _ h => h) hHeld (fun wx hwx => by go_simp; try with_reducible rfl) ?_
      try simp only [Act.put, List.setIfInBounds_toArray, List.set_cons_zero, List.set_cons_succ]
      refine rtake 7 rfl (by rfl) (by kernel_rfl) (by kernel_rfl) (by kernel_rfl) (fun _ _ _ h => h) hHeld (fun wx hwx => by go_simp; try with_reducible rfl) ?_
      try simp only [Act.put, List.setIfInBounds_toArray, List.set_cons_zero, List.set_cons_succ]
      refine wpAnyH_done (by kernel_rfl) ?_ _
      have e1 : Op.bytesLess A B = true := Hlt.out
      have e2 : (A == B) = false := Hsm.out
      go_wp2_with fail
      refine (awake04_any _).mono ?_
      rintro e w25 ⟨rfl, hbel⟩
      replace hbW := bnext hbW hbel
      clear hbel e1 e2
      go_wp2_with fail
      go_ret
      exact ⟨rfl, bnext hbw hbW⟩

set_option maxRecDepth 100000 in
set_option maxHeartbeats 4000000 in
theorem identOrder_6 (a a' b' c c' y : Int) (ha : Hid (0 ≤ a ∧ a < 18446744073709551616)) (hb : Hid (0 ≤ a ∧ a < 18446744073709551616)) (EX : Hid (cmpP a a' a b' = -1)) (ER : Hid (cmpP a b' a a' = 1)) (EY : Hid (cmpP a b' c c' = y)) (EZ : Hid (cmpP a a' c c' = -1)) (hab : a' ≠ b') (hy : y ≤ 0) (w : World) :
    Calls Try.prog 5 #[portV a a', portV a b', portV c c'] w fun e w' => e = .returned (.bool true) ∧ Below w.heap.size w w' := by
  go_enter Try.func5, Try.ntmps5
  go_wp2_with fail
  obtain ⟨W, hWe, hbw, HX, HY, HZ, HU, HV, HT⟩ := boxes3 w (.int .u64 a) (.int .i64 a') (.int .u64 a) (.int .i64 b') (.int .u64 c) (.int .i64 c') 25
  rw [← hWe]
  clear hWe
  refine wp_region_held_drew (S := fun w' => Below W.drew.heap.size W.drew w') (by kernel_rfl) (Below.refl _ _) ?_
  intro hHeld
  have hbW := Below.drew (Below.refl W.heap.size W)
  generalize W.drew = wd at *
  have hcX := fun wx h => HX.out wx (bnext hbW h)
  have hcY := fun wx h => HY.out wx (bnext hbW h)
  have hcZ := fun wx h => HZ.out wx (bnext hbW h)
  have hcU := fun wx h => HU.out wx (bnext hbW h)
  have hcV := fun wx h => HV.out wx (bnext hbW h)
  have hcT := fun wx h => HT.out wx (bnext hbW h)
  refine rtake 0 rfl (by rfl) (by kernel_rfl) (by kernel_rfl) (by kernel_rfl) (fun _ _ _ h => h) hHeld (fun wx hwx => by go_simp; try with_reducible rfl) ?_
  try simp only [Act.put, List.setIfInBounds_toArray, List.set_cons_zero, List.set_cons_succ]
  refine rtake 1 rfl (by rfl) (by kernel_rfl) (by kernel_rfl) (by kernel_rfl) (fun _ _ _ h => h) hHeld (fun wx hwx => by go_simp; try with_reducible rfl) ?_
  try simp only [Act.put, List.setIfInBounds_toArray, List.set_cons_zero, List.set_cons_succ]
  refine rtake 3 rfl (by rfl) (by kernel_rfl) (by kernel_rfl) (by kernel_rfl) (fun _ _ _ h => h) hHeld (fun wx hwx => by go_simp; try with_reducible rfl) ?_
  try simp only [Act.put, List.setIfInBounds_toArray, List.set_cons_zero, List.set_cons_succ]
  refine rtake 4 rfl (by rfl) (by kernel_rfl) (by kernel_rfl) (by kernel_rfl) (fun _ _ _ h => h) hHeld (fun wx hwx => by go_simp; try with_reducible rfl) ?_
  try simp only [Act.put, List.setIfInBounds_toArray, List.set_cons_zero, List.set_cons_succ]
  refine rtake 6 rfl (by rfl) (by kernel_rfl) (by kernel_rfl) (by kernel_rfl) (fun _ _ _ h => h) hHeld (fun wx hwx => by go_simp; try with_reducible rfl) ?_
  try simp only [Act.put, List.setIfInBounds_toArray, List.set_cons_zero, List.set_cons_succ]
  refine rtake 7 rfl (by rfl) (by kernel_rfl) (by kernel_rfl) (by kernel_rfl) (fun _ _ _ h => h) hHeld (fun wx hwx => by go_simp; try with_reducible rfl) ?_
  try simp only [Act.put, List.setIfInBounds_toArray, List.set_cons_zero, List.set_cons_succ]
  -- CALL 2: some 14 := Op.call { callee := Callee.value (Operand.func 19), args := #[Operand.tmp 12, Operand.tmp 13], argTypes := #[25, 25] }
  refine rcall 2 rfl (by kernel_rfl) (by rfl) (fun K hK => ?_)
  go_simp
  refine (compare_is EX _).mono ?_
  rintro e wx2 ⟨rfl, hbel⟩
  refine hK.out _ _ hbel ?_
  clear hK K
  refine wpAnyH_mono (S' := fun w' => Below wx2.heap.size wx2 w') (fun w' h => bnext hbel h) _ _ _ _ ?_
  have hH := Below.refl wx2.heap.size wx2
  have hW := bnext hbW hbel
  clear hbel hbW hHeld
  have hHeld := hH
  have hbW := hW
  clear hH hW
  have hsz2 := hbW.size
  replace hcX := fun wx h => HX.out wx (bnext hbW h)
  replace hcY := fun wx h => HY.out wx (bnext hbW h)
  replace hcZ := fun wx h => HZ.out wx (bnext hbW h)
  replace hcU := fun wx h => HU.out wx (bnext hbW h)
  replace hcV := fun wx h => HV.out wx (bnext hbW h)
  replace hcT := fun wx h => HT.out wx (bnext hbW h)
  try simp only [Act.put, List.setIfInBounds_toArray, List.set_cons_zero, List.set_cons_succ]
  -- CALL 5: some 17 := Op.call { callee := Callee.value (Operand.func 19), args := #[Operand.tmp 15, Operand.tmp 16], argTypes := #[25, 25] }
  refine rcall 5 rfl (by kernel_rfl) (by rfl) (fun K hK => ?_)
  go_simp
  refine (compare_is EY _).mono ?_
  rintro e wx5 ⟨rfl, hbel⟩
  refine hK.out _ _ hbel ?_
  clear hK K
  refine wpAnyH_mono (S' := fun w' => Below wx5.heap.size wx5 w') (fun w' h => bnext hbel h) _ _ _ _ ?_
  have hH := Below.refl wx5.heap.size wx5
  have hW := bnext hbW hbel
  clear hbel hbW hHeld
  have hHeld := hH
  have hbW := hW
  clear hH hW
  have hsz5 := hbW.size
  replace hcX := fun wx h => HX.out wx (bnext hbW h)
  replace hcY := fun wx h => HY.out wx (bnext hbW h)
  replace hcZ := fun wx h => HZ.out wx (bnext hbW h)
  replace hcU := fun wx h => HU.out wx (bnext hbW h)
  replace hcV := fun wx h => HV.out wx (bnext hbW h)
  replace hcT := fun wx h => HT.out wx (bnext hbW h)
  try simp only [Act.put, List.setIfInBounds_toArray, List.set_cons_zero, List.set_cons_succ]
  -- CALL 8: some 20 := Op.call { callee := Callee.value (Operand.func 19), args := #[Operand.tmp 18, Operand.tmp 19], argTypes := #[25, 25] }
  refine rcall 8 rfl (by kernel_rfl) (by rfl) (fun K hK => ?_)
  go_simp
  refine (compare_is EZ _).mono ?_
  rintro e wx8 ⟨rfl, hbel⟩
  refine hK.out _ _ hbel ?_
  clear hK K
  refine wpAnyH_mono (S' := fun w' => Below wx8.heap.size wx8 w') (fun w' h => bnext hbel h) _ _ _ _ ?_
  have hH := Below.refl wx8.heap.size wx8
  have hW := bnext hbW hbel
  clear hbel hbW hHeld
  have hHeld := hH
  have hbW := hW
  clear hH hW
  have hsz8 := hbW.size
  replace hcX := fun wx h => HX.out wx (bnext hbW h)
  replace hcY := fun wx h => HY.out wx (bnext hbW h)
  replace hcZ := fun wx h => HZ.out wx (bnext hbW h)
  replace hcU := fun wx h => HU.out wx (bnext hbW h)
  replace hcV := fun wx h => HV.out wx (bnext hbW h)
  replace hcT := fun wx h => HT.out wx (bnext hbW h)
  try simp only [Act.put, List.setIfInBounds_toArray, List.set_cons_zero, List.set_cons_succ]
  refine rtake 9 rfl (by rfl) (by kernel_rfl) (by kernel_rfl) (by kernel_rfl) (fun _ _ _ h => h) hHeld (fun wx hwx => by go_simp; try with_reducible rfl) ?_
  try simp only [Act.put, List.setIfInBounds_toArray, List.set_cons_zero, List.set_cons_succ]
  refine rtake 10 rfl (by rfl) (by kernel_rfl) (by kernel_rfl) (by kernel_rfl) (fun _ _ _ h => h) hHeld (fun wx hwx => by go_simp; try with_reducible rfl) ?_
  try simp only [Act.put, List.setIfInBounds_toArray, List.set_cons_zero, List.set_cons_succ]
  refine rtake 11 rfl (by rfl) (by kernel_rfl) (by kernel_rfl) (by kernel_rfl) (fun _ _ _ h => h) hHeld (fun wx hwx => by go_simp; try with_reducible rfl) ?_
  try simp only [Act.put, List.setIfInBounds_toArray, List.set_cons_zero, List.set_cons_succ]
  refine wpAnyH_done (by kernel_rfl) ?_ _
  have cX := HX.out _ hbW
  have cY := HY.out _ hbW
  have cZ := HZ.out _ hbW
  have cU := HU.out _ hbW
  have cV := HV.out _ hbW
  have cT := HT.out _ hbW
  clear hcX hcY hcZ hcU hcV hcT
  go_wp2_with fail
  refine (compare_is ER _).mono ?_
  rintro e w20 ⟨rfl, hbel⟩
  replace hbW := bnext hbW hbel
  clear hbel
  replace cX := HX.out _ hbW
  replace cY := HY.out _ hbW
  replace cZ := HZ.out _ hbW
  replace cU := HU.out _ hbW
  replace cV := HV.out _ hbW
  replace cT := HT.out _ hbW
  go_wp2_with fail
  refine (identMay_any _ _ _).mono ?_
  rintro e w21 ⟨rfl, hbel⟩
  replace hbW := bnext hbW hbel
  clear hbel
  replace cX := HX.out _ hbW
  replace cY := HY.out _ hbW
  replace cZ := HZ.out _ hbW
  replace cU := HU.out _ hbW
  replace cV := HV.out _ hbW
  replace cT := HT.out _ hbW
  cases ma : mayP a'
  · go_wp2_with fail
    refine (awake04_any _).mono ?_
    rintro e w22 ⟨rfl, hbel⟩
    replace hbW := bnext hbW hbel
    clear hbel
    replace cX := HX.out _ hbW
    replace cY := HY.out _ hbW
    replace cZ := HZ.out _ hbW
    replace cU := HU.out _ hbW
    replace cV := HV.out _ hbW
    replace cT := HT.out _ hbW
    go_wp2_with fail
    go_ret
    exact ⟨rfl, bnext hbw hbW⟩
  · go_wp2_with fail
    refine (identMay_any _ _ _).mono ?_
    rintro e w23 ⟨rfl, hbel⟩
    replace hbW := bnext hbW hbel
    clear hbel
    replace cX := HX.out _ hbW
    replace cY := HY.out _ hbW
    replace cZ := HZ.out _ hbW
    replace cU := HU.out _ hbW
    replace cV := HV.out _ hbW
    replace cT := HT.out _ hbW
    cases mb : mayP b'
    · go_wp2_with fail
      refine (awake04_any _).mono ?_
      rintro e w24 ⟨rfl, hbel⟩
      replace hbW := bnext hbW hbel
      clear hbel
      replace cX := HX.out _ hbW
      replace cY := HY.out _ hbW
      replace cZ := HZ.out _ hbW
      replace cU := HU.out _ hbW
      replace cV := HV.out _ hbW
      replace cT := HT.out _ hbW
      go_wp2_with fail
      go_ret
      exact ⟨rfl, bnext hbw hbW⟩
    · have hlt := less_portS ha.out.1 ha.out.2 hb.out.1 hb.out.2 ma mb
      have hsm := same_portS ha.out.1 ha.out.2 hb.out.1 hb.out.2 ma mb
      rw [EX.out] at hlt hsm
      generalize hsa : portS a a' = A at *
      generalize hsb : portS a b' = B at *
      have hA0 := ha.out.1
      have hB0 := hb.out.1
      have Hlt := hid hlt
      have Hsm := hid hsm
      have Hsa := hid hsa
      have Hsb := hid hsb
      clear hlt hsm hsa hsb
      have hbW23 := hbW
      clear hbW
      go_wp2_with fail
      refine wp_region_held_drew (S := fun w' => Below w23.drew.heap.size w23.drew w') (by kernel_rfl) (Below.refl _ _) ?_
      intro hHeld
      have hbW := bnext hbW23 <| Below.drew (Below.refl w23.heap.size w23)
      generalize w23.drew = wd at *
      clear cX cY cZ cU cV cT
      have hcX := fun wx h => HX.out wx (bnext hbW h)
      have hcY := fun wx h => HY.out wx (bnext hbW h)
      have hcZ := fun wx h => HZ.out wx (bnext hbW h)
      have hcU := fun wx h => HU.out wx (bnext hbW h)
      refine rtake 0 rfl (by rfl) (by kernel_rfl) (by kernel_rfl) (by kernel_rfl) (fun _ _ _ h => h) hHeld (fun wx hwx => by go_simp; try with_reducible rfl) ?_
      try simp only [Act.put, List.setIfInBounds_toArray, List.set_cons_zero, List.set_cons_succ]
      refine rtake 3 rfl (by rfl) (by kernel_rfl) (by kernel_rfl) (by kernel_rfl) (fun _ _ _ h => h) hHeld (fun wx hwx => by go_simp; try with_reducible rfl) ?_
      try simp only [Act.put, List.setIfInBounds_toArray, List.set_cons_zero, List.set_cons_succ]
      -- CALL 1: some 69 := Op.call { callee := Callee.value (Operand.func 14), args := #[Operand.const (Value.slice none 0 0), Operand.tmp 68], argTypes := #[22, 25] }
      refine rcall 1 rfl (by kernel_rfl) (by rfl) (fun K hK => ?_)
      go_simp
      refine (identPut_any _ [] a a' _ (Bytes.nil _) (by decide) hA0).mono ?_
      rintro e wx1 ⟨x1, rfl, own1, hbel⟩
      rw [List.nil_append, Hsa.out] at own1
      have hst1 := own1.bytes.strs
      refine hK.out _ _ hbel ?_
      clear hK K
      refine wpAnyH_mono (S' := fun w' => Below wx1.heap.size wx1 w') (fun w' h => bnext hbel h) _ _ _ _ ?_
      have hH := Below.refl wx1.heap.size wx1
      have hW := bnext hbW hbel
      clear hbel hbW hHeld
      have hHeld := hH
      have hbW := hW
      clear hH hW
      have hsz1 := hbW.size
      replace hcX := fun wx h => HX.out wx (bnext hbW h)
      replace hcY := fun wx h => HY.out wx (bnext hbW h)
      replace hcZ := fun wx h => HZ.out wx (bnext hbW h)
      replace hcU := fun wx h => HU.out wx (bnext hbW h)
      try simp only [Act.put, List.setIfInBounds_toArray, List.set_cons_zero, List.set_cons_succ]
      refine rtake 2 rfl (by rfl) (by kernel_rfl) (by kernel_rfl) (by kernel_rfl) (fun _ _ _ h => h) hHeld (fun wx hwx => by go_simp; try with_reducible rfl) ?_
      try simp only [Act.put, List.setIfInBounds_toArray, List.set_cons_zero, List.set_cons_succ]
      -- CALL 4: some 72 := Op.call { callee := Callee.value (Operand.func 14), args := #[Operand.const (Value.slice none 0 0), Operand.tmp 71], argTypes := #[22, 25] }
      refine rcall 4 rfl (by kernel_rfl) (by rfl) (fun K hK => ?_)
      go_simp
      refine (identPut_any _ [] a b' _ (Bytes.nil _) (by decide) hB0).mono ?_
      rintro e wx4 ⟨x4, rfl, own4, hbel⟩
      rw [List.nil_append, Hsb.out] at own4
      have hst4 := own4.bytes.strs
      refine hK.out _ _ hbel ?_
      clear hK K
      refine wpAnyH_mono (S' := fun w' => Below wx4.heap.size wx4 w') (fun w' h => bnext hbel h) _ _ _ _ ?_
      have hH := Below.refl wx4.heap.size wx4
      have hW := bnext hbW hbel
      clear hbel hbW hHeld
      have hHeld := hH
      have hbW := hW
      clear hH hW
      have hsz4 := hbW.size
      replace hcX := fun wx h => HX.out wx (bnext hbW h)
      replace hcY := fun wx h => HY.out wx (bnext hbW h)
      replace hcZ := fun wx h => HZ.out wx (bnext hbW h)
      replace hcU := fun wx h => HU.out wx (bnext hbW h)
      try simp only [Act.put, List.setIfInBounds_toArray, List.set_cons_zero, List.set_cons_succ]
      refine rtake 5 rfl (by rfl) (by kernel_rfl) (by kernel_rfl) (by kernel_rfl) (fun _ _ _ h => h) hHeld (fun wx hwx => by go_simp; try with_reducible rfl) ?_
      try simp only [Act.put, List.setIfInBounds_toArray, List.set_cons_zero, List.set_cons_succ]
      refine rtake 6 rfl (by rfl) (by kernel_rfl) (by kernel_rfl) (by kernel_rfl) (fun _ _ _ h => h) hHeld (fun wx hwx => by go_simp; try with_reducible rfl) ?_
      try simp only [Act.put, List.setIfInBounds_toArray, List.set_cons_zero, List.set_cons_succ]
      refine rtake 7 rfl (by rfl) (by kernel_rfl) (by kernel_rfl) (by kernel_rfl) (fun _ _ _ h => h) hHeld (fun wx hwx => by go_simp; try with_reducible rfl) ?_
      try simp only [Act.put, List.setIfInBounds_toArray, List.set_cons_zero, List.set_cons_succ]
      refine wpAnyH_done (by kernel_rfl) ?_ _
      have e1 : Op.bytesLess A B = true := Hlt.out
      have e2 : (A == B) = false := Hsm.out
      go_wp2_with fail
      refine (awake04_any _).mono ?_
      rintro e w25 ⟨rfl, hbel⟩
      replace hbW := bnext hbW hbel
      clear hbel e1 e2
      go_wp2_with fail
      go_ret
      exact ⟨rfl, bnext hbw hbW⟩

set_option maxRecDepth 100000 in
set_option maxHeartbeats 4000000 in
theorem identOrder_7 (a a' b b' c c' y z : Int) (ha : Hid (0 ≤ a ∧ a < 18446744073709551616)) (hb : Hid (0 ≤ b ∧ b < 18446744073709551616)) (EX : Hid (cmpP a a' b b' = -1)) (ER : Hid (cmpP b b' a a' = 1)) (EY : Hid (cmpP b b' c c' = y)) (EZ : Hid (cmpP a a' c c' = z)) (hab : a ≠ b) (hy : ¬ y ≤ 0) (w : World) :
    Calls Try.prog 5 #[portV a a', portV b b', portV c c'] w fun e w' => e = .returned (.bool true) ∧ Below w.heap.size w w' := by
  go_enter Try.func5, Try.ntmps5
  go_wp2_with fail
  obtain ⟨W, hWe, hbw, HX, HY, HZ, HU, HV, HT⟩ := boxes3 w (.int .u64 a) (.int .i64 a') (.int .u64 b) (.int .i64 b') (.int .u64 c) (.int .i64 c') 25
  rw [← hWe]
  clear hWe
  refine wp_region_held_drew (S := fun w' => Below W.drew.heap.size W.drew w') (by kernel_rfl) (Below.refl _ _) ?_
  intro hHeld
  have hbW := Below.drew (Below.refl W.heap.size W)
  generalize W.drew = wd at *
  have hcX := fun wx h => HX.out wx (bnext hbW h)
  have hcY := fun wx h => HY.out wx (bnext hbW h)
  have hcZ := fun wx h => HZ.out wx (bnext hbW h)
  have hcU := fun wx h => HU.out wx (bnext hbW h)
  have hcV := fun wx h => HV.out wx (bnext hbW h)
  have hcT := fun wx h => HT.out wx (bnext hbW h)
  refine rtake 0 rfl (by rfl) (by kernel_rfl) (by kernel_rfl) (by kernel_rfl) (fun _ _ _ h => h) hHeld (fun wx hwx => by go_simp; try with_reducible rfl) ?_
  try simp only [Act.put, List.setIfInBounds_toArray, List.set_cons_zero, List.set_cons_succ]
  refine rtake 1 rfl (by rfl) (by kernel_rfl) (by kernel_rfl) (by kernel_rfl) (fun _ _ _ h => h) hHeld (fun wx hwx => by go_simp; try with_reducible rfl) ?_
  try simp only [Act.put, List.setIfInBounds_toArray, List.set_cons_zero, List.set_cons_succ]
  refine rtake 3 rfl (by rfl) (by kernel_rfl) (by kernel_rfl) (by kernel_rfl) (fun _ _ _ h => h) hHeld (fun wx hwx => by go_simp; try with_reducible rfl) ?_
  try simp only [Act.put, List.setIfInBounds_toArray, List.set_cons_zero, List.set_cons_succ]
  refine rtake 4 rfl (by rfl) (by kernel_rfl) (by kernel_rfl) (by kernel_rfl) (fun _ _ _ h => h) hHeld (fun wx hwx => by go_simp; try with_reducible rfl) ?_
  try simp only [Act.put, List.setIfInBounds_toArray, List.set_cons_zero, List.set_cons_succ]
  refine rtake 6 rfl (by rfl) (by kernel_rfl) (by kernel_rfl) (by kernel_rfl) (fun _ _ _ h => h) hHeld (fun wx hwx => by go_simp; try with_reducible rfl) ?_
  try simp only [Act.put, List.setIfInBounds_toArray, List.set_cons_zero, List.set_cons_succ]
  refine rtake 7 rfl (by rfl) (by kernel_rfl) (by kernel_rfl) (by kernel_rfl) (fun _ _ _ h => h) hHeld (fun wx hwx => by go_simp; try with_reducible rfl) ?_
  try simp only [Act.put, List.setIfInBounds_toArray, List.set_cons_zero, List.set_cons_succ]
  -- CALL 2: some 14 := Op.call { callee := Callee.value (Operand.func 19), args := #[Operand.tmp 12, Operand.tmp 13], argTypes := #[25, 25] }
  refine rcall 2 rfl (by kernel_rfl) (by rfl) (fun K hK => ?_)
  go_simp
  refine (compare_is EX _).mono ?_
  rintro e wx2 ⟨rfl, hbel⟩
  refine hK.out _ _ hbel ?_
  clear hK K
  refine wpAnyH_mono (S' := fun w' => Below wx2.heap.size wx2 w') (fun w' h => bnext hbel h) _ _ _ _ ?_
  have hH := Below.refl wx2.heap.size wx2
  have hW := bnext hbW hbel
  clear hbel hbW hHeld
  have hHeld := hH
  have hbW := hW
  clear hH hW
  have hsz2 := hbW.size
  replace hcX := fun wx h => HX.out wx (bnext hbW h)
  replace hcY := fun wx h => HY.out wx (bnext hbW h)
  replace hcZ := fun wx h => HZ.out wx (bnext hbW h)
  replace hcU := fun wx h => HU.out wx (bnext hbW h)
  replace hcV := fun wx h => HV.out wx (bnext hbW h)
  replace hcT := fun wx h => HT.out wx (bnext hbW h)
  try simp only [Act.put, List.setIfInBounds_toArray, List.set_cons_zero, List.set_cons_succ]
  -- CALL 5: some 17 := Op.call { callee := Callee.value (Operand.func 19), args := #[Operand.tmp 15, Operand.tmp 16], argTypes := #[25, 25] }
  refine rcall 5 rfl (by kernel_rfl) (by rfl) (fun K hK => ?_)
  go_simp
  refine (compare_is EY _).mono ?_
  rintro e wx5 ⟨rfl, hbel⟩
  refine hK.out _ _ hbel ?_
  clear hK K
  refine wpAnyH_mono (S' := fun w' => Below wx5.heap.size wx5 w') (fun w' h => bnext hbel h) _ _ _ _ ?_
  have hH := Below.refl wx5.heap.size wx5
  have hW := bnext hbW hbel
  clear hbel hbW hHeld
  have hHeld := hH
  have hbW := hW
  clear hH hW
  have hsz5 := hbW.size
  replace hcX := fun wx h => HX.out wx (bnext hbW h)
  replace hcY := fun wx h => HY.out wx (bnext hbW h)
  replace hcZ := fun wx h => HZ.out wx (bnext hbW h)
  replace hcU := fun wx h => HU.out wx (bnext hbW h)
  replace hcV := fun wx h => HV.out wx (bnext hbW h)
  replace hcT := fun wx h => HT.out wx (bnext hbW h)
  try simp only [Act.put, List.setIfInBounds_toArray, List.set_cons_zero, List.set_cons_succ]
  -- CALL 8: some 20 := Op.call { callee := Callee.value (Operand.func 19), args := #[Operand.tmp 18, Operand.tmp 19], argTypes := #[25, 25] }
  refine rcall 8 rfl (by kernel_rfl) (by rfl) (fun K hK => ?_)
  go_simp
  refine (compare_is EZ _).mono ?_
  rintro e wx8 ⟨rfl, hbel⟩
  refine hK.out _ _ hbel ?_
  clear hK K
  refine wpAnyH_mono (S' := fun w' => Below wx8.heap.size wx8 w') (fun w' h => bnext hbel h) _ _ _ _ ?_
  have hH := Below.refl wx8.heap.size wx8
  have hW := bnext hbW hbel
  clear hbel hbW hHeld
  have hHeld := hH
  have hbW := hW
  clear hH hW
  have hsz8 := hbW.size
  replace hcX := fun wx h => HX.out wx (bnext hbW h)
  replace hcY := fun wx h => HY.out wx (bnext hbW h)
  replace hcZ := fun wx h => HZ.out wx (bnext hbW h)
  replace hcU := fun wx h => HU.out wx (bnext hbW h)
  replace hcV := fun wx h => HV.out wx (bnext hbW h)
  replace hcT := fun wx h => HT.out wx (bnext hbW h)
  try simp only [Act.put, List.setIfInBounds_toArray, List.set_cons_zero, List.set_cons_succ]
  refine rtake 9 rfl (by rfl) (by kernel_rfl) (by kernel_rfl) (by kernel_rfl) (fun _ _ _ h => h) hHeld (fun wx hwx => by go_simp; try with_reducible rfl) ?_
  try simp only [Act.put, List.setIfInBounds_toArray, List.set_cons_zero, List.set_cons_succ]
  refine rtake 10 rfl (by rfl) (by kernel_rfl) (by kernel_rfl) (by kernel_rfl) (fun _ _ _ h => h) hHeld (fun wx hwx => by go_simp; try with_reducible rfl) ?_
  try simp only [Act.put, List.setIfInBounds_toArray, List.set_cons_zero, List.set_cons_succ]
  refine rtake 11 rfl (by rfl) (by kernel_rfl) (by kernel_rfl) (by kernel_rfl) (fun _ _ _ h => h) hHeld (fun wx hwx => by go_simp; try with_reducible rfl) ?_
  try simp only [Act.put, List.setIfInBounds_toArray, List.set_cons_zero, List.set_cons_succ]
  refine wpAnyH_done (by kernel_rfl) ?_ _
  have cX := HX.out _ hbW
  have cY := HY.out _ hbW
  have cZ := HZ.out _ hbW
  have cU := HU.out _ hbW
  have cV := HV.out _ hbW
  have cT := HT.out _ hbW
  clear hcX hcY hcZ hcU hcV hcT
  go_wp2_with fail
  refine (compare_is ER _).mono ?_
  rintro e w20 ⟨rfl, hbel⟩
  replace hbW := bnext hbW hbel
  clear hbel
  replace cX := HX.out _ hbW
  replace cY := HY.out _ hbW
  replace cZ := HZ.out _ hbW
  replace cU := HU.out _ hbW
  replace cV := HV.out _ hbW
  replace cT := HT.out _ hbW
  go_wp2_with fail
  refine (identMay_any _ _ _).mono ?_
  rintro e w21 ⟨rfl, hbel⟩
  replace hbW := bnext hbW hbel
  clear hbel
  replace cX := HX.out _ hbW
  replace cY := HY.out _ hbW
  replace cZ := HZ.out _ hbW
  replace cU := HU.out _ hbW
  replace cV := HV.out _ hbW
  replace cT := HT.out _ hbW
  cases ma : mayP a'
  · go_wp2_with fail
    refine (awake04_any _).mono ?_
    rintro e w22 ⟨rfl, hbel⟩
    replace hbW := bnext hbW hbel
    clear hbel
    replace cX := HX.out _ hbW
    replace cY := HY.out _ hbW
    replace cZ := HZ.out _ hbW
    replace cU := HU.out _ hbW
    replace cV := HV.out _ hbW
    replace cT := HT.out _ hbW
    go_wp2_with fail
    go_ret
    exact ⟨rfl, bnext hbw hbW⟩
  · go_wp2_with fail
    refine (identMay_any _ _ _).mono ?_
    rintro e w23 ⟨rfl, hbel⟩
    replace hbW := bnext hbW hbel
    clear hbel
    replace cX := HX.out _ hbW
    replace cY := HY.out _ hbW
    replace cZ := HZ.out _ hbW
    replace cU := HU.out _ hbW
    replace cV := HV.out _ hbW
    replace cT := HT.out _ hbW
    cases mb : mayP b'
    · go_wp2_with fail
      refine (awake04_any _).mono ?_
      rintro e w24 ⟨rfl, hbel⟩
      replace hbW := bnext hbW hbel
      clear hbel
      replace cX := HX.out _ hbW
      replace cY := HY.out _ hbW
      replace cZ := HZ.out _ hbW
      replace cU := HU.out _ hbW
      replace cV := HV.out _ hbW
      replace cT := HT.out _ hbW
      go_wp2_with fail
      go_ret
      exact ⟨rfl, bnext hbw hbW⟩
    · have hlt := less_portS ha.out.1 ha.out.2 hb.out.1 hb.out.2 ma mb
      have hsm := same_portS ha.out.1 ha.out.2 hb.out.1 hb.out.2 ma mb
      rw [EX.out] at hlt hsm
      generalize hsa : portS a a' = A at *
      generalize hsb : portS b b' = B at *
      have hA0 := ha.out.1
      have hB0 := hb.out.1
      have Hlt := hid hlt
      have Hsm := hid hsm
      have Hsa := hid hsa
      have Hsb := hid hsb
      clear hlt hsm hsa hsb
      have hbW23 := hbW
      clear hbW
      go_wp2_with fail
      refine wp_region_held_drew (S := fun w' => Below w23.drew.heap.size w23.drew w') (by kernel_rfl) (Below.refl _ _) ?_
      intro hHeld
      have hbW := bnext hbW23 <| Below.drew (Below.refl w23.heap.size w23)
      generalize w23.drew = wd at *
      clear cX cY cZ cU cV cT
      have hcX := fun wx h => HX.out wx (bnext hbW h)
      have hcY := fun wx h => HY.out wx (bnext hbW h)
      have hcZ := fun wx h => HZ.out wx (bnext hbW h)
      have hcU := fun wx h => HU.out wx (bnext hbW h)
      refine rtake 0 rfl (by rfl) (by kernel_rfl) (by kernel_rfl) (by kernel_rfl) (fun _ _ _ h => h) hHeld (fun wx hwx => by go_simp; try with_reducible rfl) ?_
      try simp only [Act.put, List.setIfInBounds_toArray, List.set_cons_zero, List.set_cons_succ]
      refine rtake 3 rfl (by rfl) (by kernel_rfl) (by kernel_rfl) (by kernel_rfl) (fun _ _ _ h => h) hHeld (fun wx hwx => by go_simp; try with_reducible rfl) ?_
      try simp only [Act.put, List.setIfInBounds_toArray, List.set_cons_zero, List.set_cons_succ]
      -- CALL 1: some 69 := Op.call { callee := Callee.value (Operand.func 14), args := #[Operand.const (Value.slice none 0 0), Operand.tmp 68], argTypes := #[22, 25] }
      refine rcall 1 rfl (by kernel_rfl) (by rfl) (fun K hK => ?_)
      go_simp
      refine (identPut_any _ [] a a' _ (Bytes.nil _) (by decide) hA0).mono ?_
      rintro e wx1 ⟨x1, rfl, own1, hbel⟩
      rw [List.nil_append, Hsa.out] at own1
      have hst1 := own1.bytes.strs
      refine hK.out _ _ hbel ?_
      clear hK K
      refine wpAnyH_mono (S' := fun w' => Below wx1.heap.size wx1 w') (fun w' h => bnext hbel h) _ _ _ _ ?_
      have hH := Below.refl wx1.heap.size wx1
      have hW := bnext hbW hbel
      clear hbel hbW hHeld
      have hHeld := hH
      have hbW := hW
      clear hH hW
      have hsz1 := hbW.size
      replace hcX := fun wx h => HX.out wx (bnext hbW h)
      replace hcY := fun wx h => HY.out wx (bnext hbW h)
      replace hcZ := fun wx h => HZ.out wx (bnext hbW h)
      replace hcU := fun wx h => HU.out wx (bnext hbW h)
      try simp only [Act.put, List.setIfInBounds_toArray, List.set_cons_zero, List.set_cons_succ]
      refine rtake 2 rfl (by rfl) (by kernel_rfl) (by kernel_rfl) (by kernel_rfl) (fun _ _ _ h => h) hHeld (fun wx hwx => by go_simp; try with_reducible rfl) ?_
      try simp only [Act.put, List.setIfInBounds_toArray, List.set_cons_zero, List.set_cons_succ]
      -- CALL 4: some 72 := Op.call { callee := Callee.value (Operand.func 14), args := #[Operand.const (Value.slice none 0 0), Operand.tmp 71], argTypes := #[22, 25] }
      refine rcall 4 rfl (by kernel_rfl) (by rfl) (fun K hK => ?_)
      go_simp
      refine (identPut_any _ [] b b' _ (Bytes.nil _) (by decide) hB0).mono ?_
      rintro e wx4 ⟨x4, rfl, own4, hbel⟩
      rw [List.nil_append, Hsb.out] at own4
      have hst4 := own4.bytes.strs
      refine hK.out _ _ hbel ?_
      clear hK K
      refine wpAnyH_mono (S' := fun w' => Below wx4.heap.size wx4 w') (fun w' h => bnext hbel h) _ _ _ _ ?_
      have hH := Below.refl wx4.heap.size wx4
      have hW := bnext hbW hbel
      clear hbel hbW hHeld
      have hHeld := hH
      have hbW := hW
      clear hH hW
      have hsz4 := hbW.size
      replace hcX := fun wx h => HX.out wx (bnext hbW h)
      replace hcY := fun wx h => HY.out wx (bnext hbW h)
      replace hcZ := fun wx h => HZ.out wx (bnext hbW h)
      replace hcU := fun wx h => HU.out wx (bnext hbW h)
      try simp only [Act.put, List.setIfInBounds_toArray, List.set_cons_zero, List.set_cons_succ]
      refine rtake 5 rfl (by rfl) (by kernel_rfl) (by kernel_rfl) (by kernel_rfl) (fun _ _ _ h => h) hHeld (fun wx hwx => by go_simp; try with_reducible rfl) ?_
      try simp only [Act.put, List.setIfInBounds_toArray, List.set_cons_zero, List.set_cons_succ]
      refine rtake 6 rfl (by rfl) (by kernel_rfl) (by kernel_rfl) (by kernel_rfl) (fun _ _ _ h => h) hHeld (fun wx hwx => by go_simp; try with_reducible rfl) ?_
      try simp only [Act.put, List.setIfInBounds_toArray, List.set_cons_zero, List.set_cons_succ]
      refine rtake 7 rfl (by rfl) (by kernel_rfl) (by kernel_rfl) (by kernel_rfl) (fun _ _ _ h => h) hHeld (fun wx hwx => by go_simp; try with_reducible rfl) ?_
      try simp only [Act.put, List.setIfInBounds_toArray, List.set_cons_zero, List.set_cons_succ]
      refine wpAnyH_done (by kernel_rfl) ?_ _
      have e1 : Op.bytesLess A B = true := Hlt.out
      have e2 : (A == B) = false := Hsm.out
      go_wp2_with fail
      refine (awake04_any _).mono ?_
      rintro e w25 ⟨rfl, hbel⟩
      replace hbW := bnext hbW hbel
      clear hbel e1 e2
      go_wp2_with fail
      go_ret
      exact ⟨rfl, bnext hbw hbW⟩

set_option maxRecDepth 100000 in
set_option maxHeartbeats 4000000 in
theorem identOrder_8 (a a' b' c c' y z : Int) (ha : Hid (0 ≤ a ∧ a < 18446744073709551616)) (hb : Hid (0 ≤ a ∧ a < 18446744073709551616)) (EX : Hid (cmpP a a' a b' = -1)) (ER : Hid (cmpP a b' a a' = 1)) (EY : Hid (cmpP a b' c c' = y)) (EZ : Hid (cmpP a a' c c' = z)) (hab : a' ≠ b') (hy : ¬ y ≤ 0) (w : World) :
    Calls Try.prog 5 #[portV a a', portV a b', portV c c'] w fun e w' => e = .returned (.bool true) ∧ Below w.heap.size w w' := by
  go_enter Try.func5, Try.ntmps5
  go_wp2_with fail
  obtain ⟨W, hWe, hbw, HX, HY, HZ, HU, HV, HT⟩ := boxes3 w (.int .u64 a) (.int .i64 a') (.int .u64 a) (.int .i64 b') (.int .u64 c) (.int .i64 c') 25
  rw [← hWe]
  clear hWe
  refine wp_region_held_drew (S := fun w' => Below W.drew.heap.size W.drew w') (by kernel_rfl) (Below.refl _ _) ?_
  intro hHeld
  have hbW := Below.drew (Below.refl W.heap.size W)
  generalize W.drew = wd at *
  have hcX := fun wx h => HX.out wx (bnext hbW h)
  have hcY := fun wx h => HY.out wx (bnext hbW h)
  have hcZ := fun wx h => HZ.out wx (bnext hbW h)
  have hcU := fun wx h => HU.out wx (bnext hbW h)
  have hcV := fun wx h => HV.out wx (bnext hbW h)
  have hcT := fun wx h => HT.out wx (bnext hbW h)
  refine rtake 0 rfl (by rfl) (by kernel_rfl) (by kernel_rfl) (by kernel_rfl) (fun _ _ _ h => h) hHeld (fun wx hwx => by go_simp; try with_reducible rfl) ?_
  try simp only [Act.put, List.setIfInBounds_toArray, List.set_cons_zero, List.set_cons_succ]
  refine rtake 1 rfl (by rfl) (by kernel_rfl) (by kernel_rfl) (by kernel_rfl) (fun _ _ _ h => h) hHeld (fun wx hwx => by go_simp; try with_reducible rfl) ?_
  try simp only [Act.put, List.setIfInBounds_toArray, List.set_cons_zero, List.set_cons_succ]
  refine rtake 3 rfl (by rfl) (by kernel_rfl) (by kernel_rfl) (by kernel_rfl) (fun _ _ _ h => h) hHeld (fun wx hwx => by go_simp; try with_reducible rfl) ?_
  try simp only [Act.put, List.setIfInBounds_toArray, List.set_cons_zero, List.set_cons_succ]
  refine rtake 4 rfl (by rfl) (by kernel_rfl) (by kernel_rfl) (by kernel_rfl) (fun _ _ _ h => h) hHeld (fun wx hwx => by go_simp; try with_reducible rfl) ?_
  try simp only [Act.put, List.setIfInBounds_toArray, List.set_cons_zero, List.set_cons_succ]
  refine rtake 6 rfl (by rfl) (by kernel_rfl) (by kernel_rfl) (by kernel_rfl) (fun _ _ _ h => h) hHeld (fun wx hwx => by go_simp; try with_reducible rfl) ?_
  try simp only [Act.put, List.setIfInBounds_toArray, List.set_cons_zero, List.set_cons_succ]
  refine rtake 7 rfl (by rfl) (by kernel_rfl) (by kernel_rfl) (by kernel_rfl) (fun _ _ _ h => h) hHeld (fun wx hwx => by go_simp; try with_reducible rfl) ?_
  try simp only [Act.put, List.setIfInBounds_toArray, List.set_cons_zero, List.set_cons_succ]
  -- CALL 2: some 14 := Op.call { callee := Callee.value (Operand.func 19), args := #[Operand.tmp 12, Operand.tmp 13], argTypes := #[25, 25] }
  refine rcall 2 rfl (by kernel_rfl) (by rfl) (fun K hK => ?_)
  go_simp
  refine (compare_is EX _).mono ?_
  rintro e wx2 ⟨rfl, hbel⟩
  refine hK.out _ _ hbel ?_
  clear hK K
  refine wpAnyH_mono (S' := fun w' => Below wx2.heap.size wx2 w') (fun w' h => bnext hbel h) _ _ _ _ ?_
  have hH := Below.refl wx2.heap.size wx2
  have hW := bnext hbW hbel
  clear hbel hbW hHeld
  have hHeld := hH
  have hbW := hW
  clear hH hW
  have hsz2 := hbW.size
  replace hcX := fun wx h => HX.out wx (bnext hbW h)
  replace hcY := fun wx h => HY.out wx (bnext hbW h)
  replace hcZ := fun wx h => HZ.out wx (bnext hbW h)
  replace hcU := fun wx h => HU.out wx (bnext hbW h)
  replace hcV := fun wx h => HV.out wx (bnext hbW h)
  replace hcT := fun wx h => HT.out wx (bnext hbW h)
  try simp only [Act.put, List.setIfInBounds_toArray, List.set_cons_zero, List.set_cons_succ]
  -- CALL 5: some 17 := Op.call { callee := Callee.value (Operand.func 19), args := #[Operand.tmp 15, Operand.tmp 16], argTypes := #[25, 25] }
  refine rcall 5 rfl (by kernel_rfl) (by rfl) (fun K hK => ?_)
  go_simp
  refine (compare_is EY _).mono ?_
  rintro e wx5 ⟨rfl, hbel⟩
  refine hK.out _ _ hbel ?_
  clear hK K
  refine wpAnyH_mono (S' := fun w' => Below wx5.heap.size wx5 w') (fun w' h => bnext hbel h) _ _ _ _ ?_
  have hH := Below.refl wx5.heap.size wx5
  have hW := bnext hbW hbel
  clear hbel hbW hHeld
  have hHeld := hH
  have hbW := hW
  clear hH hW
  have hsz5 := hbW.size
  replace hcX := fun wx h => HX.out wx (bnext hbW h)
  replace hcY := fun wx h => HY.out wx (bnext hbW h)
  replace hcZ := fun wx h => HZ.out wx (bnext hbW h)
  replace hcU := fun wx h => HU.out wx (bnext hbW h)
  replace hcV := fun wx h => HV.out wx (bnext hbW h)
  replace hcT := fun wx h => HT.out wx (bnext hbW h)
  try simp only [Act.put, List.setIfInBounds_toArray, List.set_cons_zero, List.set_cons_succ]
  -- CALL 8: some 20 := Op.call { callee := Callee.value (Operand.func 19), args := #[Operand.tmp 18, Operand.tmp 19], argTypes := #[25, 25] }
  refine rcall 8 rfl (by kernel_rfl) (by rfl) (fun K hK => ?_)
  go_simp
  refine (compare_is EZ _).mono ?_
  rintro e wx8 ⟨rfl, hbel⟩
  refine hK.out _ _ hbel ?_
  clear hK K
  refine wpAnyH_mono (S' := fun w' => Below wx8.heap.size wx8 w') (fun w' h => bnext hbel h) _ _ _ _ ?_
  have hH := Below.refl wx8.heap.size wx8
  have hW := bnext hbW hbel
  clear hbel hbW hHeld
  have hHeld := hH
  have hbW := hW
  clear hH hW
  have hsz8 := hbW.size
  replace hcX := fun wx h => HX.out wx (bnext hbW h)
  replace hcY := fun wx h => HY.out wx (bnext hbW h)
  replace hcZ := fun wx h => HZ.out wx (bnext hbW h)
  replace hcU := fun wx h => HU.out wx (bnext hbW h)
  replace hcV := fun wx h => HV.out wx (bnext hbW h)
  replace hcT := fun wx h => HT.out wx (bnext hbW h)
  try simp only [Act.put, List.setIfInBounds_toArray, List.set_cons_zero, List.set_cons_succ]
  refine rtake 9 rfl (by rfl) (by kernel_rfl) (by kernel_rfl) (by kernel_rfl) (fun _ _ _ h => h) hHeld (fun wx hwx => by go_simp; try with_reducible rfl) ?_
  try simp only [Act.put, List.setIfInBounds_toArray, List.set_cons_zero, List.set_cons_succ]
  refine rtake 10 rfl (by rfl) (by kernel_rfl) (by kernel_rfl) (by kernel_rfl) (fun _ _ _ h => h) hHeld (fun wx hwx => by go_simp; try with_reducible rfl) ?_
  try simp only [Act.put, List.setIfInBounds_toArray, List.set_cons_zero, List.set_cons_succ]
  refine rtake 11 rfl (by rfl) (by kernel_rfl) (by kernel_rfl) (by kernel_rfl) (fun _ _ _ h => h) hHeld (fun wx hwx => by go_simp; try with_reducible rfl) ?_
  try simp only [Act.put, List.setIfInBounds_toArray, List.set_cons_zero, List.set_cons_succ]
  refine wpAnyH_done (by kernel_rfl) ?_ _
  have cX := HX.out _ hbW
  have cY := HY.out _ hbW
  have cZ := HZ.out _ hbW
  have cU := HU.out _ hbW
  have cV := HV.out _ hbW
  have cT := HT.out _ hbW
  clear hcX hcY hcZ hcU hcV hcT
  go_wp2_with fail
  refine (compare_is ER _).mono ?_
  rintro e w20 ⟨rfl, hbel⟩
  replace hbW := bnext hbW hbel
  clear hbel
  replace cX := HX.out _ hbW
  replace cY := HY.out _ hbW
  replace cZ := HZ.out _ hbW
  replace cU := HU.out _ hbW
  replace cV := HV.out _ hbW
  replace cT := HT.out _ hbW
  go_wp2_with fail
  refine (identMay_any _ _ _).mono ?_
  rintro e w21 ⟨rfl, hbel⟩
  replace hbW := bnext hbW hbel
  clear hbel
  replace cX := HX.out _ hbW
  replace cY := HY.out _ hbW
  replace cZ := HZ.out _ hbW
  replace cU := HU.out _ hbW
  replace cV := HV.out _ hbW
  replace cT := HT.out _ hbW
  cases ma : mayP a'
  · go_wp2_with fail
    refine (awake04_any _).mono ?_
    rintro e w22 ⟨rfl, hbel⟩
    replace hbW := bnext hbW hbel
    clear hbel
    replace cX := HX.out _ hbW
    replace cY := HY.out _ hbW
    replace cZ := HZ.out _ hbW
    replace cU := HU.out _ hbW
    replace cV := HV.out _ hbW
    replace cT := HT.out _ hbW
    go_wp2_with fail
    go_ret
    exact ⟨rfl, bnext hbw hbW⟩
  · go_wp2_with fail
    refine (identMay_any _ _ _).mono ?_
    rintro e w23 ⟨rfl, hbel⟩
    replace hbW := bnext hbW hbel
    clear hbel
    replace cX := HX.out _ hbW
    replace cY := HY.out _ hbW
    replace cZ := HZ.out _ hbW
    replace cU := HU.out _ hbW
    replace cV := HV.out _ hbW
    replace cT := HT.out _ hbW
    cases mb : mayP b'
    · go_wp2_with fail
      refine (awake04_any _).mono ?_
      rintro e w24 ⟨rfl, hbel⟩
      replace hbW := bnext hbW hbel
      clear hbel
      replace cX := HX.out _ hbW
      replace cY := HY.out _ hbW
      replace cZ := HZ.out _ hbW
      replace cU := HU.out _ hbW
      replace cV := HV.out _ hbW
      replace cT := HT.out _ hbW
      go_wp2_with fail
      go_ret
      exact ⟨rfl, bnext hbw hbW⟩
    · have hlt := less_portS ha.out.1 ha.out.2 hb.out.1 hb.out.2 ma mb
      have hsm := same_portS ha.out.1 ha.out.2 hb.out.1 hb.out.2 ma mb
      rw [EX.out] at hlt hsm
      generalize hsa : portS a a' = A at *
      generalize hsb : portS a b' = B at *
      have hA0 := ha.out.1
      have hB0 := hb.out.1
      have Hlt := hid hlt
      have Hsm := hid hsm
      have Hsa := hid hsa
      have Hsb := hid hsb
      clear hlt hsm hsa hsb
      have hbW23 := hbW
      clear hbW
      go_wp2_with fail
      refine wp_region_held_drew (S := fun w' => Below w23.drew.heap.size w23.drew w') (by kernel_rfl) (Below.refl _ _) ?_
      intro hHeld
      have hbW := bnext hbW23 <| Below.drew (Below.refl w23.heap.size w23)
      generalize w23.drew = wd at *
      clear cX cY cZ cU cV cT
      have hcX := fun wx h => HX.out wx (bnext hbW h)
      have hcY := fun wx h => HY.out wx (bnext hbW h)
      have hcZ := fun wx h => HZ.out wx (bnext hbW h)
      have hcU := fun wx h => HU.out wx (bnext hbW h)
      refine rtake 0 rfl (by rfl) (by kernel_rfl) (by kernel_rfl) (by kernel_rfl) (fun _ _ _ h => h) hHeld (fun wx hwx => by go_simp; try with_reducible rfl) ?_
      try simp only [Act.put, List.setIfInBounds_toArray, List.set_cons_zero, List.set_cons_succ]
      refine rtake 3 rfl (by rfl) (by kernel_rfl) (by kernel_rfl) (by kernel_rfl) (fun _ _ _ h => h) hHeld (fun wx hwx => by go_simp; try with_reducible rfl) ?_
      try simp only [Act.put, List.setIfInBounds_toArray, List.set_cons_zero, List.set_cons_succ]
      -- CALL 1: some 69 := Op.call { callee := Callee.value (Operand.func 14), args := #[Operand.const (Value.slice none 0 0), Operand.tmp 68], argTypes := #[22, 25] }
      refine rcall 1 rfl (by kernel_rfl) (by rfl) (fun K hK => ?_)
      go_simp
      refine (identPut_any _ [] a a' _ (Bytes.nil _) (by decide) hA0).mono ?_
      rintro e wx1 ⟨x1, rfl, own1, hbel⟩
      rw [List.nil_append, Hsa.out] at own1
      have hst1 := own1.bytes.strs
      refine hK.out _ _ hbel ?_
      clear hK K
      refine wpAnyH_mono (S' := fun w' => Below wx1.heap.size wx1 w') (fun w' h => bnext hbel h) _ _ _ _ ?_
      have hH := Below.refl wx1.heap.size wx1
      have hW := bnext hbW hbel
      clear hbel hbW hHeld
      have hHeld := hH
      have hbW := hW
      clear hH hW
      have hsz1 := hbW.size
      replace hcX := fun wx h => HX.out wx (bnext hbW h)
      replace hcY := fun wx h => HY.out wx (bnext hbW h)
      replace hcZ := fun wx h => HZ.out wx (bnext hbW h)
      replace hcU := fun wx h => HU.out wx (bnext hbW h)
      try simp only [Act.put, List.setIfInBounds_toArray, List.set_cons_zero, List.set_cons_succ]
      refine rtake 2 rfl (by rfl) (by kernel_rfl) (by kernel_rfl) (by kernel_rfl) (fun _ _ _ h => h) hHeld (fun wx hwx => by go_simp; try with_reducible rfl) ?_
      try simp only [Act.put, List.setIfInBounds_toArray, List.set_cons_zero, List.set_cons_succ]
      -- CALL 4: some 72 := Op.call { callee := Callee.value (Operand.func 14), args := #[Operand.const (Value.slice none 0 0), Operand.tmp 71], argTypes := #[22, 25] }
      refine rcall 4 rfl (by kernel_rfl) (by rfl) (fun K hK => ?_)
      go_simp
      refine (identPut_any _ [] a b' _ (Bytes.nil _) (by decide) hB0).mono ?_
      rintro e wx4 ⟨x4, rfl, own4, hbel⟩
      rw [List.nil_append, Hsb.out] at own4
      have hst4 := own4.bytes.strs
      refine hK.out _ _ hbel ?_
      clear hK K
      refine wpAnyH_mono (S' := fun w' => Below wx4.heap.size wx4 w') (fun w' h => bnext hbel h) _ _ _ _ ?_
      have hH := Below.refl wx4.heap.size wx4
      have hW := bnext hbW hbel
      clear hbel hbW hHeld
      have hHeld := hH
      have hbW := hW
      clear hH hW
      have hsz4 := hbW.size
      replace hcX := fun wx h => HX.out wx (bnext hbW h)
      replace hcY := fun wx h => HY.out wx (bnext hbW h)
      replace hcZ := fun wx h => HZ.out wx (bnext hbW h)
      replace hcU := fun wx h => HU.out wx (bnext hbW h)
      try simp only [Act.put, List.setIfInBounds_toArray, List.set_cons_zero, List.set_cons_succ]
      refine rtake 5 rfl (by rfl) (by kernel_rfl) (by kernel_rfl) (by kernel_rfl) (fun _ _ _ h => h) hHeld (fun wx hwx => by go_simp; try with_reducible rfl) ?_
      try simp only [Act.put, List.setIfInBounds_toArray, List.set_cons_zero, List.set_cons_succ]
      refine rtake 6 rfl (by rfl) (by kernel_rfl) (by kernel_rfl) (by kernel_rfl) (fun _ _ _ h => h) hHeld (fun wx hwx => by go_simp; try with_reducible rfl) ?_
      try simp only [Act.put, List.setIfInBounds_toArray, List.set_cons_zero, List.set_cons_succ]
      refine rtake 7 rfl (by rfl) (by kernel_rfl) (by kernel_rfl) (by kernel_rfl) (fun _ _ _ h => h) hHeld (fun wx hwx => by go_simp; try with_reducible rfl) ?_
      try simp only [Act.put, List.setIfInBounds_toArray, List.set_cons_zero, List.set_cons_succ]
      refine wpAnyH_done (by kernel_rfl) ?_ _
      have e1 : Op.bytesLess A B = true := Hlt.out
      have e2 : (A == B) = false := Hsm.out
      go_wp2_with fail
      refine (awake04_any _).mono ?_
      rintro e w25 ⟨rfl, hbel⟩
      replace hbW := bnext hbW hbel
      clear hbel e1 e2
      go_wp2_with fail
      go_ret
      exact ⟨rfl, bnext hbw hbW⟩
-- END ORDER
theorem identOrder_walk (a : Int) (w0 : (Lit.int .u64 a).wf = true) (a' : Int) (w0' : (Lit.int .i64 a').wf = true) (b : Int) (w1 : (Lit.int .u64 b).wf = true) (b' : Int) (w1' : (Lit.int .i64 b').wf = true) (c : Int) (w2 : (Lit.int .u64 c).wf = true) (c' : Int) (w2' : (Lit.int .i64 c').wf = true) (w : World) :
    Calls Try.prog 5 #[portV a a', portV b b', portV c c'] w fun e w' => e = .returned (.bool true) ∧ Below w.heap.size w w' := by
  have ha := hid (u64_of_wf w0)
  have hb := hid (u64_of_wf w1)
  have hx := cmpP_range a a' b b'
  have hr := cmpP_range b b' a a'
  have hy := cmpP_range b b' c c'
  have hz := cmpP_range a a' c c'
  rcases hx with ⟨h, h2⟩ | ⟨h, rfl, rfl⟩ | ⟨h, h2⟩
  · by_cases y0 : cmpP b b' c c' ≤ 0
    · by_cases hab : a = b
      · subst hab
        exact identOrder_6 a a' b' c c' _ ha hb (hid h) (hid (by omega)) (hid rfl) (hid (by omega)) (by omega) y0 w
      · exact identOrder_5 a a' b b' c c' _ ha hb (hid h) (hid (by omega)) (hid rfl) (hid (by omega)) hab y0 w
    · by_cases hab : a = b
      · subst hab
        exact identOrder_8 a a' b' c c' _ _ ha hb (hid h) (hid (by omega)) (hid rfl) (hid rfl) (by omega) y0 w
      · exact identOrder_7 a a' b b' c c' _ _ ha hb (hid h) (hid (by omega)) (hid rfl) (hid rfl) hab y0 w
  · by_cases y0 : cmpP a a' c c' ≤ 0
    · exact identOrder_3 a a' c c' _ _ ha hb (hid h) (hid h) (hid rfl) (hid rfl) y0 (by omega) w
    · exact identOrder_4 a a' c c' _ _ ha hb (hid h) (hid h) (hid rfl) (hid rfl) y0 w
  · by_cases hab : a = b
    · subst hab
      exact identOrder_2 a a' b' c c' _ _ ha hb (hid h) (hid (by omega)) (hid rfl) (hid rfl) (by omega) w
    · exact identOrder_1 a a' b b' c c' _ _ ha hb (hid h) (hid (by omega)) (hid rfl) (hid rfl) hab w
end Go.Proofs.Ytkjkjhlcdhdbaaa
