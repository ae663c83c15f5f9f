/- The walk of the law QualityOrder (its cases: gen_quality.py), first part. -/
import Derived.Test.YtknbflipockegaaQualLaws
import Derived.Test.YtknbflipockegaaQualOrd
namespace Go.Proofs.Ytknbflipockegaa
open Go.RowKit Go.Proofs
set_option linter.unusedVariables false
set_option linter.unusedSimpArgs false

-- ORDER

set_option maxRecDepth 100000 in
set_option maxHeartbeats 4000000 in
theorem order_p1 (c a v c' a' v' d e f y z : Int) (EX : Hid (cmpQ c a v c' a' v' = 1)) (ER : Hid (cmpQ c' a' v' c a v = -1)) (EY : Hid (cmpQ c' a' v' d e f = y)) (EZ : Hid (cmpQ c a v d e f = z)) (h1 : ¬ c = c') (w : World) :
    Calls Try.prog 5 #[qualV c a v, qualV c' a' v', qualV d e f] w fun e w' => e = .returned (.bool true) ∧ Below w.heap.size w w' := by
  go_enter Try.func5, Try.ntmps5
  go_wp2_with fail
  obtain ⟨W, hWe, hbw, HX, HY, HZ, HU, HV, HT, HR, HS, HN⟩ := qbox3 w c a v c' a' v' d e f
  rw [← hWe]
  clear hWe
  refine wp_region_held_drew (S := fun w' => Below W.drew.heap.size W.drew w') (by kernel_rfl) (Below.refl _ _) ?_
  intro hHeld
  have hbW := Below.drew (Below.refl W.heap.size W)
  generalize W.drew = wd at *
  have hcX := fun wx h => HX.out wx (bnext hbW h)
  have hcY := fun wx h => HY.out wx (bnext hbW h)
  have hcZ := fun wx h => HZ.out wx (bnext hbW h)
  have hcU := fun wx h => HU.out wx (bnext hbW h)
  have hcV := fun wx h => HV.out wx (bnext hbW h)
  have hcT := fun wx h => HT.out wx (bnext hbW h)
  have hcR := fun wx h => HR.out wx (bnext hbW h)
  have hcS := fun wx h => HS.out wx (bnext hbW h)
  have hcN := fun wx h => HN.out wx (bnext hbW h)
  refine rtake 0 rfl (by rfl) (by kernel_rfl) (by kernel_rfl) (by kernel_rfl) (fun _ _ _ h => h) hHeld (fun wx hwx => by go_simp; try with_reducible rfl) ?_
  try simp only [Act.put, List.setIfInBounds_toArray, List.set_cons_zero, List.set_cons_succ]
  refine rtake 1 rfl (by rfl) (by kernel_rfl) (by kernel_rfl) (by kernel_rfl) (fun _ _ _ h => h) hHeld (fun wx hwx => by go_simp; try with_reducible rfl) ?_
  try simp only [Act.put, List.setIfInBounds_toArray, List.set_cons_zero, List.set_cons_succ]
  refine rtake 3 rfl (by rfl) (by kernel_rfl) (by kernel_rfl) (by kernel_rfl) (fun _ _ _ h => h) hHeld (fun wx hwx => by go_simp; try with_reducible rfl) ?_
  try simp only [Act.put, List.setIfInBounds_toArray, List.set_cons_zero, List.set_cons_succ]
  refine rtake 4 rfl (by rfl) (by kernel_rfl) (by kernel_rfl) (by kernel_rfl) (fun _ _ _ h => h) hHeld (fun wx hwx => by go_simp; try with_reducible rfl) ?_
  try simp only [Act.put, List.setIfInBounds_toArray, List.set_cons_zero, List.set_cons_succ]
  refine rtake 6 rfl (by rfl) (by kernel_rfl) (by kernel_rfl) (by kernel_rfl) (fun _ _ _ h => h) hHeld (fun wx hwx => by go_simp; try with_reducible rfl) ?_
  try simp only [Act.put, List.setIfInBounds_toArray, List.set_cons_zero, List.set_cons_succ]
  refine rtake 7 rfl (by rfl) (by kernel_rfl) (by kernel_rfl) (by kernel_rfl) (fun _ _ _ h => h) hHeld (fun wx hwx => by go_simp; try with_reducible rfl) ?_
  try simp only [Act.put, List.setIfInBounds_toArray, List.set_cons_zero, List.set_cons_succ]
  -- CALL 2: some 14 := Op.call { callee := Callee.value (Operand.func 17), args := #[Operand.tmp 12, Operand.tmp 13], argTypes := #[24, 24] }
  refine rcall 2 rfl (by kernel_rfl) (by rfl) (fun K hK => ?_)
  go_simp
  refine (compareQ_is EX _).mono ?_
  rintro e wx2 ⟨rfl, hbel⟩
  refine hK.out _ _ hbel ?_
  clear hK K
  refine wpAnyH_mono (S' := fun w' => Below wx2.heap.size wx2 w') (fun w' h => bnext hbel h) _ _ _ _ ?_
  have hH := Below.refl wx2.heap.size wx2
  have hW := bnext hbW hbel
  clear hbel hbW hHeld
  have hHeld := hH
  have hbW := hW
  clear hH hW
  have hsz2 := hbW.size
  replace hcX := fun wx h => HX.out wx (bnext hbW h)
  replace hcY := fun wx h => HY.out wx (bnext hbW h)
  replace hcZ := fun wx h => HZ.out wx (bnext hbW h)
  replace hcU := fun wx h => HU.out wx (bnext hbW h)
  replace hcV := fun wx h => HV.out wx (bnext hbW h)
  replace hcT := fun wx h => HT.out wx (bnext hbW h)
  replace hcR := fun wx h => HR.out wx (bnext hbW h)
  replace hcS := fun wx h => HS.out wx (bnext hbW h)
  replace hcN := fun wx h => HN.out wx (bnext hbW h)
  try simp only [Act.put, List.setIfInBounds_toArray, List.set_cons_zero, List.set_cons_succ]
  -- CALL 5: some 17 := Op.call { callee := Callee.value (Operand.func 17), args := #[Operand.tmp 15, Operand.tmp 16], argTypes := #[24, 24] }
  refine rcall 5 rfl (by kernel_rfl) (by rfl) (fun K hK => ?_)
  go_simp
  refine (compareQ_is EY _).mono ?_
  rintro e wx5 ⟨rfl, hbel⟩
  refine hK.out _ _ hbel ?_
  clear hK K
  refine wpAnyH_mono (S' := fun w' => Below wx5.heap.size wx5 w') (fun w' h => bnext hbel h) _ _ _ _ ?_
  have hH := Below.refl wx5.heap.size wx5
  have hW := bnext hbW hbel
  clear hbel hbW hHeld
  have hHeld := hH
  have hbW := hW
  clear hH hW
  have hsz5 := hbW.size
  replace hcX := fun wx h => HX.out wx (bnext hbW h)
  replace hcY := fun wx h => HY.out wx (bnext hbW h)
  replace hcZ := fun wx h => HZ.out wx (bnext hbW h)
  replace hcU := fun wx h => HU.out wx (bnext hbW h)
  replace hcV := fun wx h => HV.out wx (bnext hbW h)
  replace hcT := fun wx h => HT.out wx (bnext hbW h)
  replace hcR := fun wx h => HR.out wx (bnext hbW h)
  replace hcS := fun wx h => HS.out wx (bnext hbW h)
  replace hcN := fun wx h => HN.out wx (bnext hbW h)
  try simp only [Act.put, List.setIfInBounds_toArray, List.set_cons_zero, List.set_cons_succ]
  -- CALL 8: some 20 := Op.call { callee := Callee.value (Operand.func 17), args := #[Operand.tmp 18, Operand.tmp 19], argTypes := #[24, 24] }
  refine rcall 8 rfl (by kernel_rfl) (by rfl) (fun K hK => ?_)
  go_simp
  refine (compareQ_is EZ _).mono ?_
  rintro e wx8 ⟨rfl, hbel⟩
  refine hK.out _ _ hbel ?_
  clear hK K
  refine wpAnyH_mono (S' := fun w' => Below wx8.heap.size wx8 w') (fun w' h => bnext hbel h) _ _ _ _ ?_
  have hH := Below.refl wx8.heap.size wx8
  have hW := bnext hbW hbel
  clear hbel hbW hHeld
  have hHeld := hH
  have hbW := hW
  clear hH hW
  have hsz8 := hbW.size
  replace hcX := fun wx h => HX.out wx (bnext hbW h)
  replace hcY := fun wx h => HY.out wx (bnext hbW h)
  replace hcZ := fun wx h => HZ.out wx (bnext hbW h)
  replace hcU := fun wx h => HU.out wx (bnext hbW h)
  replace hcV := fun wx h => HV.out wx (bnext hbW h)
  replace hcT := fun wx h => HT.out wx (bnext hbW h)
  replace hcR := fun wx h => HR.out wx (bnext hbW h)
  replace hcS := fun wx h => HS.out wx (bnext hbW h)
  replace hcN := fun wx h => HN.out wx (bnext hbW h)
  try simp only [Act.put, List.setIfInBounds_toArray, List.set_cons_zero, List.set_cons_succ]
  refine rtake 9 rfl (by rfl) (by kernel_rfl) (by kernel_rfl) (by kernel_rfl) (fun _ _ _ h => h) hHeld (fun wx hwx => by go_simp; try with_reducible rfl) ?_
  try simp only [Act.put, List.setIfInBounds_toArray, List.set_cons_zero, List.set_cons_succ]
  refine rtake 10 rfl (by rfl) (by kernel_rfl) (by kernel_rfl) (by kernel_rfl) (fun _ _ _ h => h) hHeld (fun wx hwx => by go_simp; try with_reducible rfl) ?_
  try simp only [Act.put, List.setIfInBounds_toArray, List.set_cons_zero, List.set_cons_succ]
  refine rtake 11 rfl (by rfl) (by kernel_rfl) (by kernel_rfl) (by kernel_rfl) (fun _ _ _ h => h) hHeld (fun wx hwx => by go_simp; try with_reducible rfl) ?_
  try simp only [Act.put, List.setIfInBounds_toArray, List.set_cons_zero, List.set_cons_succ]
  refine wpAnyH_done (by kernel_rfl) ?_ _
  have cX := HX.out _ hbW
  have cY := HY.out _ hbW
  have cZ := HZ.out _ hbW
  have cU := HU.out _ hbW
  have cV := HV.out _ hbW
  have cT := HT.out _ hbW
  have cR := HR.out _ hbW
  have cS := HS.out _ hbW
  have cN := HN.out _ hbW
  clear hcX hcY hcZ hcU hcV hcT hcR hcS hcN
  go_wp2_with fail
  refine (compareQ_is ER _).mono ?_
  rintro e w20 ⟨rfl, hbel⟩
  replace hbW := bnext hbW hbel
  clear hbel
  replace cX := HX.out _ hbW
  replace cY := HY.out _ hbW
  replace cZ := HZ.out _ hbW
  replace cU := HU.out _ hbW
  replace cV := HV.out _ hbW
  replace cT := HT.out _ hbW
  replace cR := HR.out _ hbW
  replace cS := HS.out _ hbW
  replace cN := HN.out _ hbW
  go_wp2_with fail
  refine (mayQ_any _ _ _ _).mono ?_
  rintro e w21 ⟨rfl, hbel⟩
  replace hbW := bnext hbW hbel
  clear hbel
  replace cX := HX.out _ hbW
  replace cY := HY.out _ hbW
  replace cZ := HZ.out _ hbW
  replace cU := HU.out _ hbW
  replace cV := HV.out _ hbW
  replace cT := HT.out _ hbW
  replace cR := HR.out _ hbW
  replace cS := HS.out _ hbW
  replace cN := HN.out _ hbW
  cases ma : mayQ c a v
  · go_wp2_with fail
    refine (awake05_any _).mono ?_
    rintro e w22 ⟨rfl, hbel⟩
    replace hbW := bnext hbW hbel
    clear hbel
    replace cX := HX.out _ hbW
    replace cY := HY.out _ hbW
    replace cZ := HZ.out _ hbW
    replace cU := HU.out _ hbW
    replace cV := HV.out _ hbW
    replace cT := HT.out _ hbW
    replace cR := HR.out _ hbW
    replace cS := HS.out _ hbW
    replace cN := HN.out _ hbW
    go_wp2_with fail
    go_ret
    exact ⟨rfl, bnext hbw hbW⟩
  · go_wp2_with fail
    refine (mayQ_any _ _ _ _).mono ?_
    rintro e w23 ⟨rfl, hbel⟩
    replace hbW := bnext hbW hbel
    clear hbel
    replace cX := HX.out _ hbW
    replace cY := HY.out _ hbW
    replace cZ := HZ.out _ hbW
    replace cU := HU.out _ hbW
    replace cV := HV.out _ hbW
    replace cT := HT.out _ hbW
    replace cR := HR.out _ hbW
    replace cS := HS.out _ hbW
    replace cN := HN.out _ hbW
    cases mb : mayQ c' a' v'
    · go_wp2_with fail
      refine (awake05_any _).mono ?_
      rintro e w24 ⟨rfl, hbel⟩
      replace hbW := bnext hbW hbel
      clear hbel
      replace cX := HX.out _ hbW
      replace cY := HY.out _ hbW
      replace cZ := HZ.out _ hbW
      replace cU := HU.out _ hbW
      replace cV := HV.out _ hbW
      replace cT := HT.out _ hbW
      replace cR := HR.out _ hbW
      replace cS := HS.out _ hbW
      replace cN := HN.out _ hbW
      go_wp2_with fail
      go_ret
      exact ⟨rfl, bnext hbw hbW⟩
    · have hlt := less_qualS ma mb
      have hsm := same_qualS ma mb
      rw [EX.out] at hlt hsm
      generalize hsa : qualS c a v = A at *
      generalize hsb : qualS c' a' v' = B at *
      have Hsb := hid hsb
      clear hsb
      have Hlt := hid hlt
      have Hsm := hid hsm
      have Hsa := hid hsa
      clear hlt hsm hsa
      have hbW23 := hbW
      clear hbW
      go_wp2_with fail
      refine wp_region_held_drew (S := fun w' => Below w23.drew.heap.size w23.drew w') (by kernel_rfl) (Below.refl _ _) ?_
      intro hHeld
      have hbW := bnext hbW23 <| Below.drew (Below.refl w23.heap.size w23)
      generalize w23.drew = wd at *
      clear cX cY cZ cU cV cT cR cS cN
      have hcX := fun wx h => HX.out wx (bnext hbW h)
      have hcY := fun wx h => HY.out wx (bnext hbW h)
      have hcZ := fun wx h => HZ.out wx (bnext hbW h)
      have hcU := fun wx h => HU.out wx (bnext hbW h)
      have hcV := fun wx h => HV.out wx (bnext hbW h)
      have hcT := fun wx h => HT.out wx (bnext hbW h)
      refine rtake 0 rfl (by rfl) (by kernel_rfl) (by kernel_rfl) (by kernel_rfl) (fun _ _ _ h => h) hHeld (fun wx hwx => by go_simp; try with_reducible rfl) ?_
      try simp only [Act.put, List.setIfInBounds_toArray, List.set_cons_zero, List.set_cons_succ]
      refine rtake 3 rfl (by rfl) (by kernel_rfl) (by kernel_rfl) (by kernel_rfl) (fun _ _ _ h => h) hHeld (fun wx hwx => by go_simp; try with_reducible rfl) ?_
      try simp only [Act.put, List.setIfInBounds_toArray, List.set_cons_zero, List.set_cons_succ]
      -- CALL 1: some 57 := Op.call { callee := Callee.value (Operand.func 11), args := #[Operand.const (Value.slice none 0 0), Operand.tmp 56], argTypes := #[22, 24] }
      refine rcall 1 rfl (by kernel_rfl) (by rfl) (fun K hK => ?_)
      go_simp
      refine (qualPut_any _ [] c a v _ (Bytes.nil _) (by decide)).mono ?_
      rintro e wx1 ⟨x1, rfl, own1, hbel⟩
      rw [List.nil_append, Hsa.out] at own1
      have hst1 := own1.bytes.strs
      refine hK.out _ _ hbel ?_
      clear hK K
      refine wpAnyH_mono (S' := fun w' => Below wx1.heap.size wx1 w') (fun w' h => bnext hbel h) _ _ _ _ ?_
      have hH := Below.refl wx1.heap.size wx1
      have hW := bnext hbW hbel
      clear hbel hbW hHeld
      have hHeld := hH
      have hbW := hW
      clear hH hW
      have hsz1 := hbW.size
      replace hcX := fun wx h => HX.out wx (bnext hbW h)
      replace hcY := fun wx h => HY.out wx (bnext hbW h)
      replace hcZ := fun wx h => HZ.out wx (bnext hbW h)
      replace hcU := fun wx h => HU.out wx (bnext hbW h)
      replace hcV := fun wx h => HV.out wx (bnext hbW h)
      replace hcT := fun wx h => HT.out wx (bnext hbW h)
      try simp only [Act.put, List.setIfInBounds_toArray, List.set_cons_zero, List.set_cons_succ]
      refine rtake 2 rfl (by rfl) (by kernel_rfl) (by kernel_rfl) (by kernel_rfl) (fun _ _ _ h => h) hHeld (fun wx hwx => by go_simp; try with_reducible rfl) ?_
      try simp only [Act.put, List.setIfInBounds_toArray, List.set_cons_zero, List.set_cons_succ]
      -- CALL 4: some 60 := Op.call { callee := Callee.value (Operand.func 11), args := #[Operand.const (Value.slice none 0 0), Operand.tmp 59], argTypes := #[22, 24] }
      refine rcall 4 rfl (by kernel_rfl) (by rfl) (fun K hK => ?_)
      go_simp
      refine (qualPut_any _ [] c' a' v' _ (Bytes.nil _) (by decide)).mono ?_
      rintro e wx4 ⟨x4, rfl, own4, hbel⟩
      rw [List.nil_append, Hsb.out] at own4
      have hst4 := own4.bytes.strs
      refine hK.out _ _ hbel ?_
      clear hK K
      refine wpAnyH_mono (S' := fun w' => Below wx4.heap.size wx4 w') (fun w' h => bnext hbel h) _ _ _ _ ?_
      have hH := Below.refl wx4.heap.size wx4
      have hW := bnext hbW hbel
      clear hbel hbW hHeld
      have hHeld := hH
      have hbW := hW
      clear hH hW
      have hsz4 := hbW.size
      replace hcX := fun wx h => HX.out wx (bnext hbW h)
      replace hcY := fun wx h => HY.out wx (bnext hbW h)
      replace hcZ := fun wx h => HZ.out wx (bnext hbW h)
      replace hcU := fun wx h => HU.out wx (bnext hbW h)
      replace hcV := fun wx h => HV.out wx (bnext hbW h)
      replace hcT := fun wx h => HT.out wx (bnext hbW h)
      try simp only [Act.put, List.setIfInBounds_toArray, List.set_cons_zero, List.set_cons_succ]
      refine rtake 5 rfl (by rfl) (by kernel_rfl) (by kernel_rfl) (by kernel_rfl) (fun _ _ _ h => h) hHeld (fun wx hwx => by go_simp; try with_reducible rfl) ?_
      try simp only [Act.put, List.setIfInBounds_toArray, List.set_cons_zero, List.set_cons_succ]
      refine rtake 6 rfl (by rfl) (by kernel_rfl) (by kernel_rfl) (by kernel_rfl) (fun _ _ _ h => h) hHeld (fun wx hwx => by go_simp; try with_reducible rfl) ?_
      try simp only [Act.put, List.setIfInBounds_toArray, List.set_cons_zero, List.set_cons_succ]
      refine rtake 7 rfl (by rfl) (by kernel_rfl) (by kernel_rfl) (by kernel_rfl) (fun _ _ _ h => h) hHeld (fun wx hwx => by go_simp; try with_reducible rfl) ?_
      try simp only [Act.put, List.setIfInBounds_toArray, List.set_cons_zero, List.set_cons_succ]
      refine wpAnyH_done (by kernel_rfl) ?_ _
      have e1 : Op.bytesLess A B = false := Hlt.out
      have e2 : (A == B) = false := Hsm.out
      go_wp2_with fail
      refine (awake05_any _).mono ?_
      rintro e w25 ⟨rfl, hbel⟩
      replace hbW := bnext hbW hbel
      clear hbel e1 e2
      go_wp2_with fail
      go_ret
      exact ⟨rfl, bnext hbw hbW⟩

set_option maxRecDepth 100000 in
set_option maxHeartbeats 4000000 in
theorem order_p2 (c a v a' v' d e f y z : Int) (EX : Hid (cmpQ c a v c a' v' = 1)) (ER : Hid (cmpQ c a' v' c a v = -1)) (EY : Hid (cmpQ c a' v' d e f = y)) (EZ : Hid (cmpQ c a v d e f = z)) (h2 : ¬ a = a') (w : World) :
    Calls Try.prog 5 #[qualV c a v, qualV c a' v', qualV d e f] w fun e w' => e = .returned (.bool true) ∧ Below w.heap.size w w' := by
  go_enter Try.func5, Try.ntmps5
  go_wp2_with fail
  obtain ⟨W, hWe, hbw, HX, HY, HZ, HU, HV, HT, HR, HS, HN⟩ := qbox3 w c a v c a' v' d e f
  rw [← hWe]
  clear hWe
  refine wp_region_held_drew (S := fun w' => Below W.drew.heap.size W.drew w') (by kernel_rfl) (Below.refl _ _) ?_
  intro hHeld
  have hbW := Below.drew (Below.refl W.heap.size W)
  generalize W.drew = wd at *
  have hcX := fun wx h => HX.out wx (bnext hbW h)
  have hcY := fun wx h => HY.out wx (bnext hbW h)
  have hcZ := fun wx h => HZ.out wx (bnext hbW h)
  have hcU := fun wx h => HU.out wx (bnext hbW h)
  have hcV := fun wx h => HV.out wx (bnext hbW h)
  have hcT := fun wx h => HT.out wx (bnext hbW h)
  have hcR := fun wx h => HR.out wx (bnext hbW h)
  have hcS := fun wx h => HS.out wx (bnext hbW h)
  have hcN := fun wx h => HN.out wx (bnext hbW h)
  refine rtake 0 rfl (by rfl) (by kernel_rfl) (by kernel_rfl) (by kernel_rfl) (fun _ _ _ h => h) hHeld (fun wx hwx => by go_simp; try with_reducible rfl) ?_
  try simp only [Act.put, List.setIfInBounds_toArray, List.set_cons_zero, List.set_cons_succ]
  refine rtake 1 rfl (by rfl) (by kernel_rfl) (by kernel_rfl) (by kernel_rfl) (fun _ _ _ h => h) hHeld (fun wx hwx => by go_simp; try with_reducible rfl) ?_
  try simp only [Act.put, List.setIfInBounds_toArray, List.set_cons_zero, List.set_cons_succ]
  refine rtake 3 rfl (by rfl) (by kernel_rfl) (by kernel_rfl) (by kernel_rfl) (fun _ _ _ h => h) hHeld (fun wx hwx => by go_simp; try with_reducible rfl) ?_
  try simp only [Act.put, List.setIfInBounds_toArray, List.set_cons_zero, List.set_cons_succ]
  refine rtake 4 rfl (by rfl) (by kernel_rfl) (by kernel_rfl) (by kernel_rfl) (fun _ _ _ h => h) hHeld (fun wx hwx => by go_simp; try with_reducible rfl) ?_
  try simp only [Act.put, List.setIfInBounds_toArray, List.set_cons_zero, List.set_cons_succ]
  refine rtake 6 rfl (by rfl) (by kernel_rfl) (by kernel_rfl) (by kernel_rfl) (fun _ _ _ h => h) hHeld (fun wx hwx => by go_simp; try with_reducible rfl) ?_
  try simp only [Act.put, List.setIfInBounds_toArray, List.set_cons_zero, List.set_cons_succ]
  refine rtake 7 rfl (by rfl) (by kernel_rfl) (by kernel_rfl) (by kernel_rfl) (fun _ _ _ h => h) hHeld (fun wx hwx => by go_simp; try with_reducible rfl) ?_
  try simp only [Act.put, List.setIfInBounds_toArray, List.set_cons_zero, List.set_cons_succ]
  -- CALL 2: some 14 := Op.call { callee := Callee.value (Operand.func 17), args := #[Operand.tmp 12, Operand.tmp 13], argTypes := #[24, 24] }
  refine rcall 2 rfl (by kernel_rfl) (by rfl) (fun K hK => ?_)
  go_simp
  refine (compareQ_is EX _).mono ?_
  rintro e wx2 ⟨rfl, hbel⟩
  refine hK.out _ _ hbel ?_
  clear hK K
  refine wpAnyH_mono (S' := fun w' => Below wx2.heap.size wx2 w') (fun w' h => bnext hbel h) _ _ _ _ ?_
  have hH := Below.refl wx2.heap.size wx2
  have hW := bnext hbW hbel
  clear hbel hbW hHeld
  have hHeld := hH
  have hbW := hW
  clear hH hW
  have hsz2 := hbW.size
  replace hcX := fun wx h => HX.out wx (bnext hbW h)
  replace hcY := fun wx h => HY.out wx (bnext hbW h)
  replace hcZ := fun wx h => HZ.out wx (bnext hbW h)
  replace hcU := fun wx h => HU.out wx (bnext hbW h)
  replace hcV := fun wx h => HV.out wx (bnext hbW h)
  replace hcT := fun wx h => HT.out wx (bnext hbW h)
  replace hcR := fun wx h => HR.out wx (bnext hbW h)
  replace hcS := fun wx h => HS.out wx (bnext hbW h)
  replace hcN := fun wx h => HN.out wx (bnext hbW h)
  try simp only [Act.put, List.setIfInBounds_toArray, List.set_cons_zero, List.set_cons_succ]
  -- CALL 5: some 17 := Op.call { callee := Callee.value (Operand.func 17), args := #[Operand.tmp 15, Operand.tmp 16], argTypes := #[24, 24] }
  refine rcall 5 rfl (by kernel_rfl) (by rfl) (fun K hK => ?_)
  go_simp
  refine (compareQ_is EY _).mono ?_
  rintro e wx5 ⟨rfl, hbel⟩
  refine hK.out _ _ hbel ?_
  clear hK K
  refine wpAnyH_mono (S' := fun w' => Below wx5.heap.size wx5 w') (fun w' h => bnext hbel h) _ _ _ _ ?_
  have hH := Below.refl wx5.heap.size wx5
  have hW := bnext hbW hbel
  clear hbel hbW hHeld
  have hHeld := hH
  have hbW := hW
  clear hH hW
  have hsz5 := hbW.size
  replace hcX := fun wx h => HX.out wx (bnext hbW h)
  replace hcY := fun wx h => HY.out wx (bnext hbW h)
  replace hcZ := fun wx h => HZ.out wx (bnext hbW h)
  replace hcU := fun wx h => HU.out wx (bnext hbW h)
  replace hcV := fun wx h => HV.out wx (bnext hbW h)
  replace hcT := fun wx h => HT.out wx (bnext hbW h)
  replace hcR := fun wx h => HR.out wx (bnext hbW h)
  replace hcS := fun wx h => HS.out wx (bnext hbW h)
  replace hcN := fun wx h => HN.out wx (bnext hbW h)
  try simp only [Act.put, List.setIfInBounds_toArray, List.set_cons_zero, List.set_cons_succ]
  -- CALL 8: some 20 := Op.call { callee := Callee.value (Operand.func 17), args := #[Operand.tmp 18, Operand.tmp 19], argTypes := #[24, 24] }
  refine rcall 8 rfl (by kernel_rfl) (by rfl) (fun K hK => ?_)
  go_simp
  refine (compareQ_is EZ _).mono ?_
  rintro e wx8 ⟨rfl, hbel⟩
  refine hK.out _ _ hbel ?_
  clear hK K
  refine wpAnyH_mono (S' := fun w' => Below wx8.heap.size wx8 w') (fun w' h => bnext hbel h) _ _ _ _ ?_
  have hH := Below.refl wx8.heap.size wx8
  have hW := bnext hbW hbel
  clear hbel hbW hHeld
  have hHeld := hH
  have hbW := hW
  clear hH hW
  have hsz8 := hbW.size
  replace hcX := fun wx h => HX.out wx (bnext hbW h)
  replace hcY := fun wx h => HY.out wx (bnext hbW h)
  replace hcZ := fun wx h => HZ.out wx (bnext hbW h)
  replace hcU := fun wx h => HU.out wx (bnext hbW h)
  replace hcV := fun wx h => HV.out wx (bnext hbW h)
  replace hcT := fun wx h => HT.out wx (bnext hbW h)
  replace hcR := fun wx h => HR.out wx (bnext hbW h)
  replace hcS := fun wx h => HS.out wx (bnext hbW h)
  replace hcN := fun wx h => HN.out wx (bnext hbW h)
  try simp only [Act.put, List.setIfInBounds_toArray, List.set_cons_zero, List.set_cons_succ]
  refine rtake 9 rfl (by rfl) (by kernel_rfl) (by kernel_rfl) (by kernel_rfl) (fun _ _ _ h => h) hHeld (fun wx hwx => by go_simp; try with_reducible rfl) ?_
  try simp only [Act.put, List.setIfInBounds_toArray, List.set_cons_zero, List.set_cons_succ]
  refine rtake 10 rfl (by rfl) (by kernel_rfl) (by kernel_rfl) (by kernel_rfl) (fun _ _ _ h => h) hHeld (fun wx hwx => by go_simp; try with_reducible rfl) ?_
  try simp only [Act.put, List.setIfInBounds_toArray, List.set_cons_zero, List.set_cons_succ]
  refine rtake 11 rfl (by rfl) (by kernel_rfl) (by kernel_rfl) (by kernel_rfl) (fun _ _ _ h => h) hHeld (fun wx hwx => by go_simp; try with_reducible rfl) ?_
  try simp only [Act.put, List.setIfInBounds_toArray, List.set_cons_zero, List.set_cons_succ]
  refine wpAnyH_done (by kernel_rfl) ?_ _
  have cX := HX.out _ hbW
  have cY := HY.out _ hbW
  have cZ := HZ.out _ hbW
  have cU := HU.out _ hbW
  have cV := HV.out _ hbW
  have cT := HT.out _ hbW
  have cR := HR.out _ hbW
  have cS := HS.out _ hbW
  have cN := HN.out _ hbW
  clear hcX hcY hcZ hcU hcV hcT hcR hcS hcN
  go_wp2_with fail
  refine (compareQ_is ER _).mono ?_
  rintro e w20 ⟨rfl, hbel⟩
  replace hbW := bnext hbW hbel
  clear hbel
  replace cX := HX.out _ hbW
  replace cY := HY.out _ hbW
  replace cZ := HZ.out _ hbW
  replace cU := HU.out _ hbW
  replace cV := HV.out _ hbW
  replace cT := HT.out _ hbW
  replace cR := HR.out _ hbW
  replace cS := HS.out _ hbW
  replace cN := HN.out _ hbW
  go_wp2_with fail
  refine (mayQ_any _ _ _ _).mono ?_
  rintro e w21 ⟨rfl, hbel⟩
  replace hbW := bnext hbW hbel
  clear hbel
  replace cX := HX.out _ hbW
  replace cY := HY.out _ hbW
  replace cZ := HZ.out _ hbW
  replace cU := HU.out _ hbW
  replace cV := HV.out _ hbW
  replace cT := HT.out _ hbW
  replace cR := HR.out _ hbW
  replace cS := HS.out _ hbW
  replace cN := HN.out _ hbW
  cases ma : mayQ c a v
  · go_wp2_with fail
    refine (awake05_any _).mono ?_
    rintro e w22 ⟨rfl, hbel⟩
    replace hbW := bnext hbW hbel
    clear hbel
    replace cX := HX.out _ hbW
    replace cY := HY.out _ hbW
    replace cZ := HZ.out _ hbW
    replace cU := HU.out _ hbW
    replace cV := HV.out _ hbW
    replace cT := HT.out _ hbW
    replace cR := HR.out _ hbW
    replace cS := HS.out _ hbW
    replace cN := HN.out _ hbW
    go_wp2_with fail
    go_ret
    exact ⟨rfl, bnext hbw hbW⟩
  · go_wp2_with fail
    refine (mayQ_any _ _ _ _).mono ?_
    rintro e w23 ⟨rfl, hbel⟩
    replace hbW := bnext hbW hbel
    clear hbel
    replace cX := HX.out _ hbW
    replace cY := HY.out _ hbW
    replace cZ := HZ.out _ hbW
    replace cU := HU.out _ hbW
    replace cV := HV.out _ hbW
    replace cT := HT.out _ hbW
    replace cR := HR.out _ hbW
    replace cS := HS.out _ hbW
    replace cN := HN.out _ hbW
    cases mb : mayQ c a' v'
    · go_wp2_with fail
      refine (awake05_any _).mono ?_
      rintro e w24 ⟨rfl, hbel⟩
      replace hbW := bnext hbW hbel
      clear hbel
      replace cX := HX.out _ hbW
      replace cY := HY.out _ hbW
      replace cZ := HZ.out _ hbW
      replace cU := HU.out _ hbW
      replace cV := HV.out _ hbW
      replace cT := HT.out _ hbW
      replace cR := HR.out _ hbW
      replace cS := HS.out _ hbW
      replace cN := HN.out _ hbW
      go_wp2_with fail
      go_ret
      exact ⟨rfl, bnext hbw hbW⟩
    · have hlt := less_qualS ma mb
      have hsm := same_qualS ma mb
      rw [EX.out] at hlt hsm
      generalize hsa : qualS c a v = A at *
      generalize hsb : qualS c a' v' = B at *
      have Hsb := hid hsb
      clear hsb
      have Hlt := hid hlt
      have Hsm := hid hsm
      have Hsa := hid hsa
      clear hlt hsm hsa
      have hbW23 := hbW
      clear hbW
      go_wp2_with fail
      refine wp_region_held_drew (S := fun w' => Below w23.drew.heap.size w23.drew w') (by kernel_rfl) (Below.refl _ _) ?_
      intro hHeld
      have hbW := bnext hbW23 <| Below.drew (Below.refl w23.heap.size w23)
      generalize w23.drew = wd at *
      clear cX cY cZ cU cV cT cR cS cN
      have hcX := fun wx h => HX.out wx (bnext hbW h)
      have hcY := fun wx h => HY.out wx (bnext hbW h)
      have hcZ := fun wx h => HZ.out wx (bnext hbW h)
      have hcU := fun wx h => HU.out wx (bnext hbW h)
      have hcV := fun wx h => HV.out wx (bnext hbW h)
      have hcT := fun wx h => HT.out wx (bnext hbW h)
      refine rtake 0 rfl (by rfl) (by kernel_rfl) (by kernel_rfl) (by kernel_rfl) (fun _ _ _ h => h) hHeld (fun wx hwx => by go_simp; try with_reducible rfl) ?_
      try simp only [Act.put, List.setIfInBounds_toArray, List.set_cons_zero, List.set_cons_succ]
      refine rtake 3 rfl (by rfl) (by kernel_rfl) (by kernel_rfl) (by kernel_rfl) (fun _ _ _ h => h) hHeld (fun wx hwx => by go_simp; try with_reducible rfl) ?_
      try simp only [Act.put, List.setIfInBounds_toArray, List.set_cons_zero, List.set_cons_succ]
      -- CALL 1: some 57 := Op.call { callee := Callee.value (Operand.func 11), args := #[Operand.const (Value.slice none 0 0), Operand.tmp 56], argTypes := #[22, 24] }
      refine rcall 1 rfl (by kernel_rfl) (by rfl) (fun K hK => ?_)
      go_simp
      refine (qualPut_any _ [] c a v _ (Bytes.nil _) (by decide)).mono ?_
      rintro e wx1 ⟨x1, rfl, own1, hbel⟩
      rw [List.nil_append, Hsa.out] at own1
      have hst1 := own1.bytes.strs
      refine hK.out _ _ hbel ?_
      clear hK K
      refine wpAnyH_mono (S' := fun w' => Below wx1.heap.size wx1 w') (fun w' h => bnext hbel h) _ _ _ _ ?_
      have hH := Below.refl wx1.heap.size wx1
      have hW := bnext hbW hbel
      clear hbel hbW hHeld
      have hHeld := hH
      have hbW := hW
      clear hH hW
      have hsz1 := hbW.size
      replace hcX := fun wx h => HX.out wx (bnext hbW h)
      replace hcY := fun wx h => HY.out wx (bnext hbW h)
      replace hcZ := fun wx h => HZ.out wx (bnext hbW h)
      replace hcU := fun wx h => HU.out wx (bnext hbW h)
      replace hcV := fun wx h => HV.out wx (bnext hbW h)
      replace hcT := fun wx h => HT.out wx (bnext hbW h)
      try simp only [Act.put, List.setIfInBounds_toArray, List.set_cons_zero, List.set_cons_succ]
      refine rtake 2 rfl (by rfl) (by kernel_rfl) (by kernel_rfl) (by kernel_rfl) (fun _ _ _ h => h) hHeld (fun wx hwx => by go_simp; try with_reducible rfl) ?_
      try simp only [Act.put, List.setIfInBounds_toArray, List.set_cons_zero, List.set_cons_succ]
      -- CALL 4: some 60 := Op.call { callee := Callee.value (Operand.func 11), args := #[Operand.const (Value.slice none 0 0), Operand.tmp 59], argTypes := #[22, 24] }
      refine rcall 4 rfl (by kernel_rfl) (by rfl) (fun K hK => ?_)
      go_simp
      refine (qualPut_any _ [] c a' v' _ (Bytes.nil _) (by decide)).mono ?_
      rintro e wx4 ⟨x4, rfl, own4, hbel⟩
      rw [List.nil_append, Hsb.out] at own4
      have hst4 := own4.bytes.strs
      refine hK.out _ _ hbel ?_
      clear hK K
      refine wpAnyH_mono (S' := fun w' => Below wx4.heap.size wx4 w') (fun w' h => bnext hbel h) _ _ _ _ ?_
      have hH := Below.refl wx4.heap.size wx4
      have hW := bnext hbW hbel
      clear hbel hbW hHeld
      have hHeld := hH
      have hbW := hW
      clear hH hW
      have hsz4 := hbW.size
      replace hcX := fun wx h => HX.out wx (bnext hbW h)
      replace hcY := fun wx h => HY.out wx (bnext hbW h)
      replace hcZ := fun wx h => HZ.out wx (bnext hbW h)
      replace hcU := fun wx h => HU.out wx (bnext hbW h)
      replace hcV := fun wx h => HV.out wx (bnext hbW h)
      replace hcT := fun wx h => HT.out wx (bnext hbW h)
      try simp only [Act.put, List.setIfInBounds_toArray, List.set_cons_zero, List.set_cons_succ]
      refine rtake 5 rfl (by rfl) (by kernel_rfl) (by kernel_rfl) (by kernel_rfl) (fun _ _ _ h => h) hHeld (fun wx hwx => by go_simp; try with_reducible rfl) ?_
      try simp only [Act.put, List.setIfInBounds_toArray, List.set_cons_zero, List.set_cons_succ]
      refine rtake 6 rfl (by rfl) (by kernel_rfl) (by kernel_rfl) (by kernel_rfl) (fun _ _ _ h => h) hHeld (fun wx hwx => by go_simp; try with_reducible rfl) ?_
      try simp only [Act.put, List.setIfInBounds_toArray, List.set_cons_zero, List.set_cons_succ]
      refine rtake 7 rfl (by rfl) (by kernel_rfl) (by kernel_rfl) (by kernel_rfl) (fun _ _ _ h => h) hHeld (fun wx hwx => by go_simp; try with_reducible rfl) ?_
      try simp only [Act.put, List.setIfInBounds_toArray, List.set_cons_zero, List.set_cons_succ]
      refine wpAnyH_done (by kernel_rfl) ?_ _
      have e1 : Op.bytesLess A B = false := Hlt.out
      have e2 : (A == B) = false := Hsm.out
      go_wp2_with fail
      refine (awake05_any _).mono ?_
      rintro e w25 ⟨rfl, hbel⟩
      replace hbW := bnext hbW hbel
      clear hbel e1 e2
      go_wp2_with fail
      go_ret
      exact ⟨rfl, bnext hbw hbW⟩

set_option maxRecDepth 100000 in
set_option maxHeartbeats 4000000 in
theorem order_p3 (c a v v' d e f y z : Int) (EX : Hid (cmpQ c a v c a v' = 1)) (ER : Hid (cmpQ c a v' c a v = -1)) (EY : Hid (cmpQ c a v' d e f = y)) (EZ : Hid (cmpQ c a v d e f = z)) (h3 : ¬ v = v') (w : World) :
    Calls Try.prog 5 #[qualV c a v, qualV c a v', qualV d e f] w fun e w' => e = .returned (.bool true) ∧ Below w.heap.size w w' := by
  go_enter Try.func5, Try.ntmps5
  go_wp2_with fail
  obtain ⟨W, hWe, hbw, HX, HY, HZ, HU, HV, HT, HR, HS, HN⟩ := qbox3 w c a v c a v' d e f
  rw [← hWe]
  clear hWe
  refine wp_region_held_drew (S := fun w' => Below W.drew.heap.size W.drew w') (by kernel_rfl) (Below.refl _ _) ?_
  intro hHeld
  have hbW := Below.drew (Below.refl W.heap.size W)
  generalize W.drew = wd at *
  have hcX := fun wx h => HX.out wx (bnext hbW h)
  have hcY := fun wx h => HY.out wx (bnext hbW h)
  have hcZ := fun wx h => HZ.out wx (bnext hbW h)
  have hcU := fun wx h => HU.out wx (bnext hbW h)
  have hcV := fun wx h => HV.out wx (bnext hbW h)
  have hcT := fun wx h => HT.out wx (bnext hbW h)
  have hcR := fun wx h => HR.out wx (bnext hbW h)
  have hcS := fun wx h => HS.out wx (bnext hbW h)
  have hcN := fun wx h => HN.out wx (bnext hbW h)
  refine rtake 0 rfl (by rfl) (by kernel_rfl) (by kernel_rfl) (by kernel_rfl) (fun _ _ _ h => h) hHeld (fun wx hwx => by go_simp; try with_reducible rfl) ?_
  try simp only [Act.put, List.setIfInBounds_toArray, List.set_cons_zero, List.set_cons_succ]
  refine rtake 1 rfl (by rfl) (by kernel_rfl) (by kernel_rfl) (by kernel_rfl) (fun _ _ _ h => h) hHeld (fun wx hwx => by go_simp; try with_reducible rfl) ?_
  try simp only [Act.put, List.setIfInBounds_toArray, List.set_cons_zero, List.set_cons_succ]
  refine rtake 3 rfl (by rfl) (by kernel_rfl) (by kernel_rfl) (by kernel_rfl) (fun _ _ _ h => h) hHeld (fun wx hwx => by go_simp; try with_reducible rfl) ?_
  try simp only [Act.put, List.setIfInBounds_toArray, List.set_cons_zero, List.set_cons_succ]
  refine rtake 4 rfl (by rfl) (by kernel_rfl) (by kernel_rfl) (by kernel_rfl) (fun _ _ _ h => h) hHeld (fun wx hwx => by go_simp; try with_reducible rfl) ?_
  try simp only [Act.put, List.setIfInBounds_toArray, List.set_cons_zero, List.set_cons_succ]
  refine rtake 6 rfl (by rfl) (by kernel_rfl) (by kernel_rfl) (by kernel_rfl) (fun _ _ _ h => h) hHeld (fun wx hwx => by go_simp; try with_reducible rfl) ?_
  try simp only [Act.put, List.setIfInBounds_toArray, List.set_cons_zero, List.set_cons_succ]
  refine rtake 7 rfl (by rfl) (by kernel_rfl) (by kernel_rfl) (by kernel_rfl) (fun _ _ _ h => h) hHeld (fun wx hwx => by go_simp; try with_reducible rfl) ?_
  try simp only [Act.put, List.setIfInBounds_toArray, List.set_cons_zero, List.set_cons_succ]
  -- CALL 2: some 14 := Op.call { callee := Callee.value (Operand.func 17), args := #[Operand.tmp 12, Operand.tmp 13], argTypes := #[24, 24] }
  refine rcall 2 rfl (by kernel_rfl) (by rfl) (fun K hK => ?_)
  go_simp
  refine (compareQ_is EX _).mono ?_
  rintro e wx2 ⟨rfl, hbel⟩
  refine hK.out _ _ hbel ?_
  clear hK K
  refine wpAnyH_mono (S' := fun w' => Below wx2.heap.size wx2 w') (fun w' h => bnext hbel h) _ _ _ _ ?_
  have hH := Below.refl wx2.heap.size wx2
  have hW := bnext hbW hbel
  clear hbel hbW hHeld
  have hHeld := hH
  have hbW := hW
  clear hH hW
  have hsz2 := hbW.size
  replace hcX := fun wx h => HX.out wx (bnext hbW h)
  replace hcY := fun wx h => HY.out wx (bnext hbW h)
  replace hcZ := fun wx h => HZ.out wx (bnext hbW h)
  replace hcU := fun wx h => HU.out wx (bnext hbW h)
  replace hcV := fun wx h => HV.out wx (bnext hbW h)
  replace hcT := fun wx h => HT.out wx (bnext hbW h)
  replace hcR := fun wx h => HR.out wx (bnext hbW h)
  replace hcS := fun wx h => HS.out wx (bnext hbW h)
  replace hcN := fun wx h => HN.out wx (bnext hbW h)
  try simp only [Act.put, List.setIfInBounds_toArray, List.set_cons_zero, List.set_cons_succ]
  -- CALL 5: some 17 := Op.call { callee := Callee.value (Operand.func 17), args := #[Operand.tmp 15, Operand.tmp 16], argTypes := #[24, 24] }
  refine rcall 5 rfl (by kernel_rfl) (by rfl) (fun K hK => ?_)
  go_simp
  refine (compareQ_is EY _).mono ?_
  rintro e wx5 ⟨rfl, hbel⟩
  refine hK.out _ _ hbel ?_
  clear hK K
  refine wpAnyH_mono (S' := fun w' => Below wx5.heap.size wx5 w') (fun w' h => bnext hbel h) _ _ _ _ ?_
  have hH := Below.refl wx5.heap.size wx5
  have hW := bnext hbW hbel
  clear hbel hbW hHeld
  have hHeld := hH
  have hbW := hW
  clear hH hW
  have hsz5 := hbW.size
  replace hcX := fun wx h => HX.out wx (bnext hbW h)
  replace hcY := fun wx h => HY.out wx (bnext hbW h)
  replace hcZ := fun wx h => HZ.out wx (bnext hbW h)
  replace hcU := fun wx h => HU.out wx (bnext hbW h)
  replace hcV := fun wx h => HV.out wx (bnext hbW h)
  replace hcT := fun wx h => HT.out wx (bnext hbW h)
  replace hcR := fun wx h => HR.out wx (bnext hbW h)
  replace hcS := fun wx h => HS.out wx (bnext hbW h)
  replace hcN := fun wx h => HN.out wx (bnext hbW h)
  try simp only [Act.put, List.setIfInBounds_toArray, List.set_cons_zero, List.set_cons_succ]
  -- CALL 8: some 20 := Op.call { callee := Callee.value (Operand.func 17), args := #[Operand.tmp 18, Operand.tmp 19], argTypes := #[24, 24] }
  refine rcall 8 rfl (by kernel_rfl) (by rfl) (fun K hK => ?_)
  go_simp
  refine (compareQ_is EZ _).mono ?_
  rintro e wx8 ⟨rfl, hbel⟩
  refine hK.out _ _ hbel ?_
  clear hK K
  refine wpAnyH_mono (S' := fun w' => Below wx8.heap.size wx8 w') (fun w' h => bnext hbel h) _ _ _ _ ?_
  have hH := Below.refl wx8.heap.size wx8
  have hW := bnext hbW hbel
  clear hbel hbW hHeld
  have hHeld := hH
  have hbW := hW
  clear hH hW
  have hsz8 := hbW.size
  replace hcX := fun wx h => HX.out wx (bnext hbW h)
  replace hcY := fun wx h => HY.out wx (bnext hbW h)
  replace hcZ := fun wx h => HZ.out wx (bnext hbW h)
  replace hcU := fun wx h => HU.out wx (bnext hbW h)
  replace hcV := fun wx h => HV.out wx (bnext hbW h)
  replace hcT := fun wx h => HT.out wx (bnext hbW h)
  replace hcR := fun wx h => HR.out wx (bnext hbW h)
  replace hcS := fun wx h => HS.out wx (bnext hbW h)
  replace hcN := fun wx h => HN.out wx (bnext hbW h)
  try simp only [Act.put, List.setIfInBounds_toArray, List.set_cons_zero, List.set_cons_succ]
  refine rtake 9 rfl (by rfl) (by kernel_rfl) (by kernel_rfl) (by kernel_rfl) (fun _ _ _ h => h) hHeld (fun wx hwx => by go_simp; try with_reducible rfl) ?_
  try simp only [Act.put, List.setIfInBounds_toArray, List.set_cons_zero, List.set_cons_succ]
  refine rtake 10 rfl (by rfl) (by kernel_rfl) (by kernel_rfl) (by kernel_rfl) (fun _ _ _ h => h) hHeld (fun wx hwx => by go_simp; try with_reducible rfl) ?_
  try simp only [Act.put, List.setIfInBounds_toArray, List.set_cons_zero, List.set_cons_succ]
  refine rtake 11 rfl (by rfl) (by kernel_rfl) (by kernel_rfl) (by kernel_rfl) (fun _ _ _ h => h) hHeld (fun wx hwx => by go_simp; try with_reducible rfl) ?_
  try simp only [Act.put, List.setIfInBounds_toArray, List.set_cons_zero, List.set_cons_succ]
  refine wpAnyH_done (by kernel_rfl) ?_ _
  have cX := HX.out _ hbW
  have cY := HY.out _ hbW
  have cZ := HZ.out _ hbW
  have cU := HU.out _ hbW
  have cV := HV.out _ hbW
  have cT := HT.out _ hbW
  have cR := HR.out _ hbW
  have cS := HS.out _ hbW
  have cN := HN.out _ hbW
  clear hcX hcY hcZ hcU hcV hcT hcR hcS hcN
  go_wp2_with fail
  refine (compareQ_is ER _).mono ?_
  rintro e w20 ⟨rfl, hbel⟩
  replace hbW := bnext hbW hbel
  clear hbel
  replace cX := HX.out _ hbW
  replace cY := HY.out _ hbW
  replace cZ := HZ.out _ hbW
  replace cU := HU.out _ hbW
  replace cV := HV.out _ hbW
  replace cT := HT.out _ hbW
  replace cR := HR.out _ hbW
  replace cS := HS.out _ hbW
  replace cN := HN.out _ hbW
  go_wp2_with fail
  refine (mayQ_any _ _ _ _).mono ?_
  rintro e w21 ⟨rfl, hbel⟩
  replace hbW := bnext hbW hbel
  clear hbel
  replace cX := HX.out _ hbW
  replace cY := HY.out _ hbW
  replace cZ := HZ.out _ hbW
  replace cU := HU.out _ hbW
  replace cV := HV.out _ hbW
  replace cT := HT.out _ hbW
  replace cR := HR.out _ hbW
  replace cS := HS.out _ hbW
  replace cN := HN.out _ hbW
  cases ma : mayQ c a v
  · go_wp2_with fail
    refine (awake05_any _).mono ?_
    rintro e w22 ⟨rfl, hbel⟩
    replace hbW := bnext hbW hbel
    clear hbel
    replace cX := HX.out _ hbW
    replace cY := HY.out _ hbW
    replace cZ := HZ.out _ hbW
    replace cU := HU.out _ hbW
    replace cV := HV.out _ hbW
    replace cT := HT.out _ hbW
    replace cR := HR.out _ hbW
    replace cS := HS.out _ hbW
    replace cN := HN.out _ hbW
    go_wp2_with fail
    go_ret
    exact ⟨rfl, bnext hbw hbW⟩
  · go_wp2_with fail
    refine (mayQ_any _ _ _ _).mono ?_
    rintro e w23 ⟨rfl, hbel⟩
    replace hbW := bnext hbW hbel
    clear hbel
    replace cX := HX.out _ hbW
    replace cY := HY.out _ hbW
    replace cZ := HZ.out _ hbW
    replace cU := HU.out _ hbW
    replace cV := HV.out _ hbW
    replace cT := HT.out _ hbW
    replace cR := HR.out _ hbW
    replace cS := HS.out _ hbW
    replace cN := HN.out _ hbW
    cases mb : mayQ c a v'
    · go_wp2_with fail
      refine (awake05_any _).mono ?_
      rintro e w24 ⟨rfl, hbel⟩
      replace hbW := bnext hbW hbel
      clear hbel
      replace cX := HX.out _ hbW
      replace cY := HY.out _ hbW
      replace cZ := HZ.out _ hbW
      replace cU := HU.out _ hbW
      replace cV := HV.out _ hbW
      replace cT := HT.out _ hbW
      replace cR := HR.out _ hbW
      replace cS := HS.out _ hbW
      replace cN := HN.out _ hbW
      go_wp2_with fail
      go_ret
      exact ⟨rfl, bnext hbw hbW⟩
    · have hlt := less_qualS ma mb
      have hsm := same_qualS ma mb
      rw [EX.out] at hlt hsm
      generalize hsa : qualS c a v = A at *
      generalize hsb : qualS c a v' = B at *
      have Hsb := hid hsb
      clear hsb
      have Hlt := hid hlt
      have Hsm := hid hsm
      have Hsa := hid hsa
      clear hlt hsm hsa
      have hbW23 := hbW
      clear hbW
      go_wp2_with fail
      refine wp_region_held_drew (S := fun w' => Below w23.drew.heap.size w23.drew w') (by kernel_rfl) (Below.refl _ _) ?_
      intro hHeld
      have hbW := bnext hbW23 <| Below.drew (Below.refl w23.heap.size w23)
      generalize w23.drew = wd at *
      clear cX cY cZ cU cV cT cR cS cN
      have hcX := fun wx h => HX.out wx (bnext hbW h)
      have hcY := fun wx h => HY.out wx (bnext hbW h)
      have hcZ := fun wx h => HZ.out wx (bnext hbW h)
      have hcU := fun wx h => HU.out wx (bnext hbW h)
      have hcV := fun wx h => HV.out wx (bnext hbW h)
      have hcT := fun wx h => HT.out wx (bnext hbW h)
      refine rtake 0 rfl (by rfl) (by kernel_rfl) (by kernel_rfl) (by kernel_rfl) (fun _ _ _ h => h) hHeld (fun wx hwx => by go_simp; try with_reducible rfl) ?_
      try simp only [Act.put, List.setIfInBounds_toArray, List.set_cons_zero, List.set_cons_succ]
      refine rtake 3 rfl (by rfl) (by kernel_rfl) (by kernel_rfl) (by kernel_rfl) (fun _ _ _ h => h) hHeld (fun wx hwx => by go_simp; try with_reducible rfl) ?_
      try simp only [Act.put, List.setIfInBounds_toArray, List.set_cons_zero, List.set_cons_succ]
      -- CALL 1: some 57 := Op.call { callee := Callee.value (Operand.func 11), args := #[Operand.const (Value.slice none 0 0), Operand.tmp 56], argTypes := #[22, 24] }
      refine rcall 1 rfl (by kernel_rfl) (by rfl) (fun K hK => ?_)
      go_simp
      refine (qualPut_any _ [] c a v _ (Bytes.nil _) (by decide)).mono ?_
      rintro e wx1 ⟨x1, rfl, own1, hbel⟩
      rw [List.nil_append, Hsa.out] at own1
      have hst1 := own1.bytes.strs
      refine hK.out _ _ hbel ?_
      clear hK K
      refine wpAnyH_mono (S' := fun w' => Below wx1.heap.size wx1 w') (fun w' h => bnext hbel h) _ _ _ _ ?_
      have hH := Below.refl wx1.heap.size wx1
      have hW := bnext hbW hbel
      clear hbel hbW hHeld
      have hHeld := hH
      have hbW := hW
      clear hH hW
      have hsz1 := hbW.size
      replace hcX := fun wx h => HX.out wx (bnext hbW h)
      replace hcY := fun wx h => HY.out wx (bnext hbW h)
      replace hcZ := fun wx h => HZ.out wx (bnext hbW h)
      replace hcU := fun wx h => HU.out wx (bnext hbW h)
      replace hcV := fun wx h => HV.out wx (bnext hbW h)
      replace hcT := fun wx h => HT.out wx (bnext hbW h)
      try simp only [Act.put, List.setIfInBounds_toArray, List.set_cons_zero, List.set_cons_succ]
      refine rtake 2 rfl (by rfl) (by kernel_rfl) (by kernel_rfl) (by kernel_rfl) (fun _ _ _ h => h) hHeld (fun wx hwx => by go_simp; try with_reducible rfl) ?_
      try simp only [Act.put, List.setIfInBounds_toArray, List.set_cons_zero, List.set_cons_succ]
      -- CALL 4: some 60 := Op.call { callee := Callee.value (Operand.func 11), args := #[Operand.const (Value.slice none 0 0), Operand.tmp 59], argTypes := #[22, 24] }
      refine rcall 4 rfl (by kernel_rfl) (by rfl) (fun K hK => ?_)
      go_simp
      refine (qualPut_any _ [] c a v' _ (Bytes.nil _) (by decide)).mono ?_
      rintro e wx4 ⟨x4, rfl, own4, hbel⟩
      rw [List.nil_append, Hsb.out] at own4
      have hst4 := own4.bytes.strs
      refine hK.out _ _ hbel ?_
      clear hK K
      refine wpAnyH_mono (S' := fun w' => Below wx4.heap.size wx4 w') (fun w' h => bnext hbel h) _ _ _ _ ?_
      have hH := Below.refl wx4.heap.size wx4
      have hW := bnext hbW hbel
      clear hbel hbW hHeld
      have hHeld := hH
      have hbW := hW
      clear hH hW
      have hsz4 := hbW.size
      replace hcX := fun wx h => HX.out wx (bnext hbW h)
      replace hcY := fun wx h => HY.out wx (bnext hbW h)
      replace hcZ := fun wx h => HZ.out wx (bnext hbW h)
      replace hcU := fun wx h => HU.out wx (bnext hbW h)
      replace hcV := fun wx h => HV.out wx (bnext hbW h)
      replace hcT := fun wx h => HT.out wx (bnext hbW h)
      try simp only [Act.put, List.setIfInBounds_toArray, List.set_cons_zero, List.set_cons_succ]
      refine rtake 5 rfl (by rfl) (by kernel_rfl) (by kernel_rfl) (by kernel_rfl) (fun _ _ _ h => h) hHeld (fun wx hwx => by go_simp; try with_reducible rfl) ?_
      try simp only [Act.put, List.setIfInBounds_toArray, List.set_cons_zero, List.set_cons_succ]
      refine rtake 6 rfl (by rfl) (by kernel_rfl) (by kernel_rfl) (by kernel_rfl) (fun _ _ _ h => h) hHeld (fun wx hwx => by go_simp; try with_reducible rfl) ?_
      try simp only [Act.put, List.setIfInBounds_toArray, List.set_cons_zero, List.set_cons_succ]
      refine rtake 7 rfl (by rfl) (by kernel_rfl) (by kernel_rfl) (by kernel_rfl) (fun _ _ _ h => h) hHeld (fun wx hwx => by go_simp; try with_reducible rfl) ?_
      try simp only [Act.put, List.setIfInBounds_toArray, List.set_cons_zero, List.set_cons_succ]
      refine wpAnyH_done (by kernel_rfl) ?_ _
      have e1 : Op.bytesLess A B = false := Hlt.out
      have e2 : (A == B) = false := Hsm.out
      go_wp2_with fail
      refine (awake05_any _).mono ?_
      rintro e w25 ⟨rfl, hbel⟩
      replace hbW := bnext hbW hbel
      clear hbel e1 e2
      go_wp2_with fail
      go_ret
      exact ⟨rfl, bnext hbw hbW⟩

set_option maxRecDepth 100000 in
set_option maxHeartbeats 4000000 in
theorem order_s1 (c a v d e f y z : Int) (EX : Hid (cmpQ c a v c a v = 0)) (ER : Hid (cmpQ c a v c a v = 0)) (EY : Hid (cmpQ c a v d e f = y)) (EZ : Hid (cmpQ c a v d e f = z)) (hy : y ≤ 0) (hz : ¬ 0 < z) (w : World) :
    Calls Try.prog 5 #[qualV c a v, qualV c a v, qualV d e f] w fun e w' => e = .returned (.bool true) ∧ Below w.heap.size w w' := by
  go_enter Try.func5, Try.ntmps5
  go_wp2_with fail
  obtain ⟨W, hWe, hbw, HX, HY, HZ, HU, HV, HT, HR, HS, HN⟩ := qbox3 w c a v c a v d e f
  rw [← hWe]
  clear hWe
  refine wp_region_held_drew (S := fun w' => Below W.drew.heap.size W.drew w') (by kernel_rfl) (Below.refl _ _) ?_
  intro hHeld
  have hbW := Below.drew (Below.refl W.heap.size W)
  generalize W.drew = wd at *
  have hcX := fun wx h => HX.out wx (bnext hbW h)
  have hcY := fun wx h => HY.out wx (bnext hbW h)
  have hcZ := fun wx h => HZ.out wx (bnext hbW h)
  have hcU := fun wx h => HU.out wx (bnext hbW h)
  have hcV := fun wx h => HV.out wx (bnext hbW h)
  have hcT := fun wx h => HT.out wx (bnext hbW h)
  have hcR := fun wx h => HR.out wx (bnext hbW h)
  have hcS := fun wx h => HS.out wx (bnext hbW h)
  have hcN := fun wx h => HN.out wx (bnext hbW h)
  refine rtake 0 rfl (by rfl) (by kernel_rfl) (by kernel_rfl) (by kernel_rfl) (fun _ _ _ h => h) hHeld (fun wx hwx => by go_simp; try with_reducible rfl) ?_
  try simp only [Act.put, List.setIfInBounds_toArray, List.set_cons_zero, List.set_cons_succ]
  refine rtake 1 rfl (by rfl) (by kernel_rfl) (by kernel_rfl) (by kernel_rfl) (fun _ _ _ h => h) hHeld (fun wx hwx => by go_simp; try with_reducible rfl) ?_
  try simp only [Act.put, List.setIfInBounds_toArray, List.set_cons_zero, List.set_cons_succ]
  refine rtake 3 rfl (by rfl) (by kernel_rfl) (by kernel_rfl) (by kernel_rfl) (fun _ _ _ h => h) hHeld (fun wx hwx => by go_simp; try with_reducible rfl) ?_
  try simp only [Act.put, List.setIfInBounds_toArray, List.set_cons_zero, List.set_cons_succ]
  refine rtake 4 rfl (by rfl) (by kernel_rfl) (by kernel_rfl) (by kernel_rfl) (fun _ _ _ h => h) hHeld (fun wx hwx => by go_simp; try with_reducible rfl) ?_
  try simp only [Act.put, List.setIfInBounds_toArray, List.set_cons_zero, List.set_cons_succ]
  refine rtake 6 rfl (by rfl) (by kernel_rfl) (by kernel_rfl) (by kernel_rfl) (fun _ _ _ h => h) hHeld (fun wx hwx => by go_simp; try with_reducible rfl) ?_
  try simp only [Act.put, List.setIfInBounds_toArray, List.set_cons_zero, List.set_cons_succ]
  refine rtake 7 rfl (by rfl) (by kernel_rfl) (by kernel_rfl) (by kernel_rfl) (fun _ _ _ h => h) hHeld (fun wx hwx => by go_simp; try with_reducible rfl) ?_
  try simp only [Act.put, List.setIfInBounds_toArray, List.set_cons_zero, List.set_cons_succ]
  -- CALL 2: some 14 := Op.call { callee := Callee.value (Operand.func 17), args := #[Operand.tmp 12, Operand.tmp 13], argTypes := #[24, 24] }
  refine rcall 2 rfl (by kernel_rfl) (by rfl) (fun K hK => ?_)
  go_simp
  refine (compareQ_is EX _).mono ?_
  rintro e wx2 ⟨rfl, hbel⟩
  refine hK.out _ _ hbel ?_
  clear hK K
  refine wpAnyH_mono (S' := fun w' => Below wx2.heap.size wx2 w') (fun w' h => bnext hbel h) _ _ _ _ ?_
  have hH := Below.refl wx2.heap.size wx2
  have hW := bnext hbW hbel
  clear hbel hbW hHeld
  have hHeld := hH
  have hbW := hW
  clear hH hW
  have hsz2 := hbW.size
  replace hcX := fun wx h => HX.out wx (bnext hbW h)
  replace hcY := fun wx h => HY.out wx (bnext hbW h)
  replace hcZ := fun wx h => HZ.out wx (bnext hbW h)
  replace hcU := fun wx h => HU.out wx (bnext hbW h)
  replace hcV := fun wx h => HV.out wx (bnext hbW h)
  replace hcT := fun wx h => HT.out wx (bnext hbW h)
  replace hcR := fun wx h => HR.out wx (bnext hbW h)
  replace hcS := fun wx h => HS.out wx (bnext hbW h)
  replace hcN := fun wx h => HN.out wx (bnext hbW h)
  try simp only [Act.put, List.setIfInBounds_toArray, List.set_cons_zero, List.set_cons_succ]
  -- CALL 5: some 17 := Op.call { callee := Callee.value (Operand.func 17), args := #[Operand.tmp 15, Operand.tmp 16], argTypes := #[24, 24] }
  refine rcall 5 rfl (by kernel_rfl) (by rfl) (fun K hK => ?_)
  go_simp
  refine (compareQ_is EY _).mono ?_
  rintro e wx5 ⟨rfl, hbel⟩
  refine hK.out _ _ hbel ?_
  clear hK K
  refine wpAnyH_mono (S' := fun w' => Below wx5.heap.size wx5 w') (fun w' h => bnext hbel h) _ _ _ _ ?_
  have hH := Below.refl wx5.heap.size wx5
  have hW := bnext hbW hbel
  clear hbel hbW hHeld
  have hHeld := hH
  have hbW := hW
  clear hH hW
  have hsz5 := hbW.size
  replace hcX := fun wx h => HX.out wx (bnext hbW h)
  replace hcY := fun wx h => HY.out wx (bnext hbW h)
  replace hcZ := fun wx h => HZ.out wx (bnext hbW h)
  replace hcU := fun wx h => HU.out wx (bnext hbW h)
  replace hcV := fun wx h => HV.out wx (bnext hbW h)
  replace hcT := fun wx h => HT.out wx (bnext hbW h)
  replace hcR := fun wx h => HR.out wx (bnext hbW h)
  replace hcS := fun wx h => HS.out wx (bnext hbW h)
  replace hcN := fun wx h => HN.out wx (bnext hbW h)
  try simp only [Act.put, List.setIfInBounds_toArray, List.set_cons_zero, List.set_cons_succ]
  -- CALL 8: some 20 := Op.call { callee := Callee.value (Operand.func 17), args := #[Operand.tmp 18, Operand.tmp 19], argTypes := #[24, 24] }
  refine rcall 8 rfl (by kernel_rfl) (by rfl) (fun K hK => ?_)
  go_simp
  refine (compareQ_is EZ _).mono ?_
  rintro e wx8 ⟨rfl, hbel⟩
  refine hK.out _ _ hbel ?_
  clear hK K
  refine wpAnyH_mono (S' := fun w' => Below wx8.heap.size wx8 w') (fun w' h => bnext hbel h) _ _ _ _ ?_
  have hH := Below.refl wx8.heap.size wx8
  have hW := bnext hbW hbel
  clear hbel hbW hHeld
  have hHeld := hH
  have hbW := hW
  clear hH hW
  have hsz8 := hbW.size
  replace hcX := fun wx h => HX.out wx (bnext hbW h)
  replace hcY := fun wx h => HY.out wx (bnext hbW h)
  replace hcZ := fun wx h => HZ.out wx (bnext hbW h)
  replace hcU := fun wx h => HU.out wx (bnext hbW h)
  replace hcV := fun wx h => HV.out wx (bnext hbW h)
  replace hcT := fun wx h => HT.out wx (bnext hbW h)
  replace hcR := fun wx h => HR.out wx (bnext hbW h)
  replace hcS := fun wx h => HS.out wx (bnext hbW h)
  replace hcN := fun wx h => HN.out wx (bnext hbW h)
  try simp only [Act.put, List.setIfInBounds_toArray, List.set_cons_zero, List.set_cons_succ]
  refine rtake 9 rfl (by rfl) (by kernel_rfl) (by kernel_rfl) (by kernel_rfl) (fun _ _ _ h => h) hHeld (fun wx hwx => by go_simp; try with_reducible rfl) ?_
  try simp only [Act.put, List.setIfInBounds_toArray, List.set_cons_zero, List.set_cons_succ]
  refine rtake 10 rfl (by rfl) (by kernel_rfl) (by kernel_rfl) (by kernel_rfl) (fun _ _ _ h => h) hHeld (fun wx hwx => by go_simp; try with_reducible rfl) ?_
  try simp only [Act.put, List.setIfInBounds_toArray, List.set_cons_zero, List.set_cons_succ]
  refine rtake 11 rfl (by rfl) (by kernel_rfl) (by kernel_rfl) (by kernel_rfl) (fun _ _ _ h => h) hHeld (fun wx hwx => by go_simp; try with_reducible rfl) ?_
  try simp only [Act.put, List.setIfInBounds_toArray, List.set_cons_zero, List.set_cons_succ]
  refine wpAnyH_done (by kernel_rfl) ?_ _
  have cX := HX.out _ hbW
  have cY := HY.out _ hbW
  have cZ := HZ.out _ hbW
  have cU := HU.out _ hbW
  have cV := HV.out _ hbW
  have cT := HT.out _ hbW
  have cR := HR.out _ hbW
  have cS := HS.out _ hbW
  have cN := HN.out _ hbW
  clear hcX hcY hcZ hcU hcV hcT hcR hcS hcN
  go_wp2_with fail
  refine (compareQ_is ER _).mono ?_
  rintro e w20 ⟨rfl, hbel⟩
  replace hbW := bnext hbW hbel
  clear hbel
  replace cX := HX.out _ hbW
  replace cY := HY.out _ hbW
  replace cZ := HZ.out _ hbW
  replace cU := HU.out _ hbW
  replace cV := HV.out _ hbW
  replace cT := HT.out _ hbW
  replace cR := HR.out _ hbW
  replace cS := HS.out _ hbW
  replace cN := HN.out _ hbW
  go_wp2_with fail
  refine (mayQ_any _ _ _ _).mono ?_
  rintro e w21 ⟨rfl, hbel⟩
  replace hbW := bnext hbW hbel
  clear hbel
  replace cX := HX.out _ hbW
  replace cY := HY.out _ hbW
  replace cZ := HZ.out _ hbW
  replace cU := HU.out _ hbW
  replace cV := HV.out _ hbW
  replace cT := HT.out _ hbW
  replace cR := HR.out _ hbW
  replace cS := HS.out _ hbW
  replace cN := HN.out _ hbW
  cases ma : mayQ c a v
  · go_wp2_with fail
    refine (awake05_any _).mono ?_
    rintro e w22 ⟨rfl, hbel⟩
    replace hbW := bnext hbW hbel
    clear hbel
    replace cX := HX.out _ hbW
    replace cY := HY.out _ hbW
    replace cZ := HZ.out _ hbW
    replace cU := HU.out _ hbW
    replace cV := HV.out _ hbW
    replace cT := HT.out _ hbW
    replace cR := HR.out _ hbW
    replace cS := HS.out _ hbW
    replace cN := HN.out _ hbW
    go_wp2_with fail
    go_ret
    exact ⟨rfl, bnext hbw hbW⟩
  · go_wp2_with fail
    refine (mayQ_any _ _ _ _).mono ?_
    rintro e w23 ⟨rfl, hbel⟩
    replace hbW := bnext hbW hbel
    clear hbel
    replace cX := HX.out _ hbW
    replace cY := HY.out _ hbW
    replace cZ := HZ.out _ hbW
    replace cU := HU.out _ hbW
    replace cV := HV.out _ hbW
    replace cT := HT.out _ hbW
    replace cR := HR.out _ hbW
    replace cS := HS.out _ hbW
    replace cN := HN.out _ hbW
    rw [ma]
    · have hlt := less_qualS ma ma
      have hsm := same_qualS ma ma
      rw [EX.out] at hlt hsm
      generalize hsa : qualS c a v = A at *
      have Hlt := hid hlt
      have Hsm := hid hsm
      have Hsa := hid hsa
      clear hlt hsm hsa
      have hbW23 := hbW
      clear hbW
      go_wp2_with fail
      refine wp_region_held_drew (S := fun w' => Below w23.drew.heap.size w23.drew w') (by kernel_rfl) (Below.refl _ _) ?_
      intro hHeld
      have hbW := bnext hbW23 <| Below.drew (Below.refl w23.heap.size w23)
      generalize w23.drew = wd at *
      clear cX cY cZ cU cV cT cR cS cN
      have hcX := fun wx h => HX.out wx (bnext hbW h)
      have hcY := fun wx h => HY.out wx (bnext hbW h)
      have hcZ := fun wx h => HZ.out wx (bnext hbW h)
      have hcU := fun wx h => HU.out wx (bnext hbW h)
      have hcV := fun wx h => HV.out wx (bnext hbW h)
      have hcT := fun wx h => HT.out wx (bnext hbW h)
      refine rtake 0 rfl (by rfl) (by kernel_rfl) (by kernel_rfl) (by kernel_rfl) (fun _ _ _ h => h) hHeld (fun wx hwx => by go_simp; try with_reducible rfl) ?_
      try simp only [Act.put, List.setIfInBounds_toArray, List.set_cons_zero, List.set_cons_succ]
      refine rtake 3 rfl (by rfl) (by kernel_rfl) (by kernel_rfl) (by kernel_rfl) (fun _ _ _ h => h) hHeld (fun wx hwx => by go_simp; try with_reducible rfl) ?_
      try simp only [Act.put, List.setIfInBounds_toArray, List.set_cons_zero, List.set_cons_succ]
      -- CALL 1: some 57 := Op.call { callee := Callee.value (Operand.func 11), args := #[Operand.const (Value.slice none 0 0), Operand.tmp 56], argTypes := #[22, 24] }
      refine rcall 1 rfl (by kernel_rfl) (by rfl) (fun K hK => ?_)
      go_simp
      refine (qualPut_any _ [] c a v _ (Bytes.nil _) (by decide)).mono ?_
      rintro e wx1 ⟨x1, rfl, own1, hbel⟩
      rw [List.nil_append, Hsa.out] at own1
      have hst1 := own1.bytes.strs
      refine hK.out _ _ hbel ?_
      clear hK K
      refine wpAnyH_mono (S' := fun w' => Below wx1.heap.size wx1 w') (fun w' h => bnext hbel h) _ _ _ _ ?_
      have hH := Below.refl wx1.heap.size wx1
      have hW := bnext hbW hbel
      clear hbel hbW hHeld
      have hHeld := hH
      have hbW := hW
      clear hH hW
      have hsz1 := hbW.size
      replace hcX := fun wx h => HX.out wx (bnext hbW h)
      replace hcY := fun wx h => HY.out wx (bnext hbW h)
      replace hcZ := fun wx h => HZ.out wx (bnext hbW h)
      replace hcU := fun wx h => HU.out wx (bnext hbW h)
      replace hcV := fun wx h => HV.out wx (bnext hbW h)
      replace hcT := fun wx h => HT.out wx (bnext hbW h)
      try simp only [Act.put, List.setIfInBounds_toArray, List.set_cons_zero, List.set_cons_succ]
      refine rtake 2 rfl (by rfl) (by kernel_rfl) (by kernel_rfl) (by kernel_rfl) (fun _ _ _ h => h) hHeld (fun wx hwx => by go_simp; try with_reducible rfl) ?_
      try simp only [Act.put, List.setIfInBounds_toArray, List.set_cons_zero, List.set_cons_succ]
      -- CALL 4: some 60 := Op.call { callee := Callee.value (Operand.func 11), args := #[Operand.const (Value.slice none 0 0), Operand.tmp 59], argTypes := #[22, 24] }
      refine rcall 4 rfl (by kernel_rfl) (by rfl) (fun K hK => ?_)
      go_simp
      refine (qualPut_any _ [] c a v _ (Bytes.nil _) (by decide)).mono ?_
      rintro e wx4 ⟨x4, rfl, own4, hbel⟩
      rw [List.nil_append, Hsa.out] at own4
      have hst4 := own4.bytes.strs
      refine hK.out _ _ hbel ?_
      clear hK K
      refine wpAnyH_mono (S' := fun w' => Below wx4.heap.size wx4 w') (fun w' h => bnext hbel h) _ _ _ _ ?_
      have hH := Below.refl wx4.heap.size wx4
      have hW := bnext hbW hbel
      clear hbel hbW hHeld
      have hHeld := hH
      have hbW := hW
      clear hH hW
      have hsz4 := hbW.size
      replace hcX := fun wx h => HX.out wx (bnext hbW h)
      replace hcY := fun wx h => HY.out wx (bnext hbW h)
      replace hcZ := fun wx h => HZ.out wx (bnext hbW h)
      replace hcU := fun wx h => HU.out wx (bnext hbW h)
      replace hcV := fun wx h => HV.out wx (bnext hbW h)
      replace hcT := fun wx h => HT.out wx (bnext hbW h)
      try simp only [Act.put, List.setIfInBounds_toArray, List.set_cons_zero, List.set_cons_succ]
      refine rtake 5 rfl (by rfl) (by kernel_rfl) (by kernel_rfl) (by kernel_rfl) (fun _ _ _ h => h) hHeld (fun wx hwx => by go_simp; try with_reducible rfl) ?_
      try simp only [Act.put, List.setIfInBounds_toArray, List.set_cons_zero, List.set_cons_succ]
      refine rtake 6 rfl (by rfl) (by kernel_rfl) (by kernel_rfl) (by kernel_rfl) (fun _ _ _ h => h) hHeld (fun wx hwx => by go_simp; try with_reducible rfl) ?_
      try simp only [Act.put, List.setIfInBounds_toArray, List.set_cons_zero, List.set_cons_succ]
      refine rtake 7 rfl (by rfl) (by kernel_rfl) (by kernel_rfl) (by kernel_rfl) (fun _ _ _ h => h) hHeld (fun wx hwx => by go_simp; try with_reducible rfl) ?_
      try simp only [Act.put, List.setIfInBounds_toArray, List.set_cons_zero, List.set_cons_succ]
      refine wpAnyH_done (by kernel_rfl) ?_ _
      have e1 : Op.bytesLess A A = false := Hlt.out
      have e2 : (A == A) = true := Hsm.out
      go_wp2_with fail
      refine (awake05_any _).mono ?_
      rintro e w25 ⟨rfl, hbel⟩
      replace hbW := bnext hbW hbel
      clear hbel e1 e2
      go_wp2_with fail
      go_ret
      exact ⟨rfl, bnext hbw hbW⟩

set_option maxRecDepth 100000 in
set_option maxHeartbeats 4000000 in
theorem order_s2 (c a v d e f y z : Int) (EX : Hid (cmpQ c a v c a v = 0)) (ER : Hid (cmpQ c a v c a v = 0)) (EY : Hid (cmpQ c a v d e f = y)) (EZ : Hid (cmpQ c a v d e f = z)) (hy : ¬ y ≤ 0) (w : World) :
    Calls Try.prog 5 #[qualV c a v, qualV c a v, qualV d e f] w fun e w' => e = .returned (.bool true) ∧ Below w.heap.size w w' := by
  go_enter Try.func5, Try.ntmps5
  go_wp2_with fail
  obtain ⟨W, hWe, hbw, HX, HY, HZ, HU, HV, HT, HR, HS, HN⟩ := qbox3 w c a v c a v d e f
  rw [← hWe]
  clear hWe
  refine wp_region_held_drew (S := fun w' => Below W.drew.heap.size W.drew w') (by kernel_rfl) (Below.refl _ _) ?_
  intro hHeld
  have hbW := Below.drew (Below.refl W.heap.size W)
  generalize W.drew = wd at *
  have hcX := fun wx h => HX.out wx (bnext hbW h)
  have hcY := fun wx h => HY.out wx (bnext hbW h)
  have hcZ := fun wx h => HZ.out wx (bnext hbW h)
  have hcU := fun wx h => HU.out wx (bnext hbW h)
  have hcV := fun wx h => HV.out wx (bnext hbW h)
  have hcT := fun wx h => HT.out wx (bnext hbW h)
  have hcR := fun wx h => HR.out wx (bnext hbW h)
  have hcS := fun wx h => HS.out wx (bnext hbW h)
  have hcN := fun wx h => HN.out wx (bnext hbW h)
  refine rtake 0 rfl (by rfl) (by kernel_rfl) (by kernel_rfl) (by kernel_rfl) (fun _ _ _ h => h) hHeld (fun wx hwx => by go_simp; try with_reducible rfl) ?_
  try simp only [Act.put, List.setIfInBounds_toArray, List.set_cons_zero, List.set_cons_succ]
  refine rtake 1 rfl (by rfl) (by kernel_rfl) (by kernel_rfl) (by kernel_rfl) (fun _ _ _ h => h) hHeld (fun wx hwx => by go_simp; try with_reducible rfl) ?_
  try simp only [Act.put, List.setIfInBounds_toArray, List.set_cons_zero, List.set_cons_succ]
  refine rtake 3 rfl (by rfl) (by kernel_rfl) (by kernel_rfl) (by kernel_rfl) (fun _ _ _ h => h) hHeld (fun wx hwx => by go_simp; try with_reducible rfl) ?_
  try simp only [Act.put, List.setIfInBounds_toArray, List.set_cons_zero, List.set_cons_succ]
  refine rtake 4 rfl (by rfl) (by kernel_rfl) (by kernel_rfl) (by kernel_rfl) (fun _ _ _ h => h) hHeld (fun wx hwx => by go_simp; try with_reducible rfl) ?_
  try simp only [Act.put, List.setIfInBounds_toArray, List.set_cons_zero, List.set_cons_succ]
  refine rtake 6 rfl (by rfl) (by kernel_rfl) (by kernel_rfl) (by kernel_rfl) (fun _ _ _ h => h) hHeld (fun wx hwx => by go_simp; try with_reducible rfl) ?_
  try simp only [Act.put, List.setIfInBounds_toArray, List.set_cons_zero, List.set_cons_succ]
  refine rtake 7 rfl (by rfl) (by kernel_rfl) (by kernel_rfl) (by kernel_rfl) (fun _ _ _ h => h) hHeld (fun wx hwx => by go_simp; try with_reducible rfl) ?_
  try simp only [Act.put, List.setIfInBounds_toArray, List.set_cons_zero, List.set_cons_succ]
  -- CALL 2: some 14 := Op.call { callee := Callee.value (Operand.func 17), args := #[Operand.tmp 12, Operand.tmp 13], argTypes := #[24, 24] }
  refine rcall 2 rfl (by kernel_rfl) (by rfl) (fun K hK => ?_)
  go_simp
  refine (compareQ_is EX _).mono ?_
  rintro e wx2 ⟨rfl, hbel⟩
  refine hK.out _ _ hbel ?_
  clear hK K
  refine wpAnyH_mono (S' := fun w' => Below wx2.heap.size wx2 w') (fun w' h => bnext hbel h) _ _ _ _ ?_
  have hH := Below.refl wx2.heap.size wx2
  have hW := bnext hbW hbel
  clear hbel hbW hHeld
  have hHeld := hH
  have hbW := hW
  clear hH hW
  have hsz2 := hbW.size
  replace hcX := fun wx h => HX.out wx (bnext hbW h)
  replace hcY := fun wx h => HY.out wx (bnext hbW h)
  replace hcZ := fun wx h => HZ.out wx (bnext hbW h)
  replace hcU := fun wx h => HU.out wx (bnext hbW h)
  replace hcV := fun wx h => HV.out wx (bnext hbW h)
  replace hcT := fun wx h => HT.out wx (bnext hbW h)
  replace hcR := fun wx h => HR.out wx (bnext hbW h)
  replace hcS := fun wx h => HS.out wx (bnext hbW h)
  replace hcN := fun wx h => HN.out wx (bnext hbW h)
  try simp only [Act.put, List.setIfInBounds_toArray, List.set_cons_zero, List.set_cons_succ]
  -- CALL 5: some 17 := Op.call { callee := Callee.value (Operand.func 17), args := #[Operand.tmp 15, Operand.tmp 16], argTypes := #[24, 24] }
  refine rcall 5 rfl (by kernel_rfl) (by rfl) (fun K hK => ?_)
  go_simp
  refine (compareQ_is EY _).mono ?_
  rintro e wx5 ⟨rfl, hbel⟩
  refine hK.out _ _ hbel ?_
  clear hK K
  refine wpAnyH_mono (S' := fun w' => Below wx5.heap.size wx5 w') (fun w' h => bnext hbel h) _ _ _ _ ?_
  have hH := Below.refl wx5.heap.size wx5
  have hW := bnext hbW hbel
  clear hbel hbW hHeld
  have hHeld := hH
  have hbW := hW
  clear hH hW
  have hsz5 := hbW.size
  replace hcX := fun wx h => HX.out wx (bnext hbW h)
  replace hcY := fun wx h => HY.out wx (bnext hbW h)
  replace hcZ := fun wx h => HZ.out wx (bnext hbW h)
  replace hcU := fun wx h => HU.out wx (bnext hbW h)
  replace hcV := fun wx h => HV.out wx (bnext hbW h)
  replace hcT := fun wx h => HT.out wx (bnext hbW h)
  replace hcR := fun wx h => HR.out wx (bnext hbW h)
  replace hcS := fun wx h => HS.out wx (bnext hbW h)
  replace hcN := fun wx h => HN.out wx (bnext hbW h)
  try simp only [Act.put, List.setIfInBounds_toArray, List.set_cons_zero, List.set_cons_succ]
  -- CALL 8: some 20 := Op.call { callee := Callee.value (Operand.func 17), args := #[Operand.tmp 18, Operand.tmp 19], argTypes := #[24, 24] }
  refine rcall 8 rfl (by kernel_rfl) (by rfl) (fun K hK => ?_)
  go_simp
  refine (compareQ_is EZ _).mono ?_
  rintro e wx8 ⟨rfl, hbel⟩
  refine hK.out _ _ hbel ?_
  clear hK K
  refine wpAnyH_mono (S' := fun w' => Below wx8.heap.size wx8 w') (fun w' h => bnext hbel h) _ _ _ _ ?_
  have hH := Below.refl wx8.heap.size wx8
  have hW := bnext hbW hbel
  clear hbel hbW hHeld
  have hHeld := hH
  have hbW := hW
  clear hH hW
  have hsz8 := hbW.size
  replace hcX := fun wx h => HX.out wx (bnext hbW h)
  replace hcY := fun wx h => HY.out wx (bnext hbW h)
  replace hcZ := fun wx h => HZ.out wx (bnext hbW h)
  replace hcU := fun wx h => HU.out wx (bnext hbW h)
  replace hcV := fun wx h => HV.out wx (bnext hbW h)
  replace hcT := fun wx h => HT.out wx (bnext hbW h)
  replace hcR := fun wx h => HR.out wx (bnext hbW h)
  replace hcS := fun wx h => HS.out wx (bnext hbW h)
  replace hcN := fun wx h => HN.out wx (bnext hbW h)
  try simp only [Act.put, List.setIfInBounds_toArray, List.set_cons_zero, List.set_cons_succ]
  refine rtake 9 rfl (by rfl) (by kernel_rfl) (by kernel_rfl) (by kernel_rfl) (fun _ _ _ h => h) hHeld (fun wx hwx => by go_simp; try with_reducible rfl) ?_
  try simp only [Act.put, List.setIfInBounds_toArray, List.set_cons_zero, List.set_cons_succ]
  refine rtake 10 rfl (by rfl) (by kernel_rfl) (by kernel_rfl) (by kernel_rfl) (fun _ _ _ h => h) hHeld (fun wx hwx => by go_simp; try with_reducible rfl) ?_
  try simp only [Act.put, List.setIfInBounds_toArray, List.set_cons_zero, List.set_cons_succ]
  refine rtake 11 rfl (by rfl) (by kernel_rfl) (by kernel_rfl) (by kernel_rfl) (fun _ _ _ h => h) hHeld (fun wx hwx => by go_simp; try with_reducible rfl) ?_
  try simp only [Act.put, List.setIfInBounds_toArray, List.set_cons_zero, List.set_cons_succ]
  refine wpAnyH_done (by kernel_rfl) ?_ _
  have cX := HX.out _ hbW
  have cY := HY.out _ hbW
  have cZ := HZ.out _ hbW
  have cU := HU.out _ hbW
  have cV := HV.out _ hbW
  have cT := HT.out _ hbW
  have cR := HR.out _ hbW
  have cS := HS.out _ hbW
  have cN := HN.out _ hbW
  clear hcX hcY hcZ hcU hcV hcT hcR hcS hcN
  go_wp2_with fail
  refine (compareQ_is ER _).mono ?_
  rintro e w20 ⟨rfl, hbel⟩
  replace hbW := bnext hbW hbel
  clear hbel
  replace cX := HX.out _ hbW
  replace cY := HY.out _ hbW
  replace cZ := HZ.out _ hbW
  replace cU := HU.out _ hbW
  replace cV := HV.out _ hbW
  replace cT := HT.out _ hbW
  replace cR := HR.out _ hbW
  replace cS := HS.out _ hbW
  replace cN := HN.out _ hbW
  go_wp2_with fail
  refine (mayQ_any _ _ _ _).mono ?_
  rintro e w21 ⟨rfl, hbel⟩
  replace hbW := bnext hbW hbel
  clear hbel
  replace cX := HX.out _ hbW
  replace cY := HY.out _ hbW
  replace cZ := HZ.out _ hbW
  replace cU := HU.out _ hbW
  replace cV := HV.out _ hbW
  replace cT := HT.out _ hbW
  replace cR := HR.out _ hbW
  replace cS := HS.out _ hbW
  replace cN := HN.out _ hbW
  cases ma : mayQ c a v
  · go_wp2_with fail
    refine (awake05_any _).mono ?_
    rintro e w22 ⟨rfl, hbel⟩
    replace hbW := bnext hbW hbel
    clear hbel
    replace cX := HX.out _ hbW
    replace cY := HY.out _ hbW
    replace cZ := HZ.out _ hbW
    replace cU := HU.out _ hbW
    replace cV := HV.out _ hbW
    replace cT := HT.out _ hbW
    replace cR := HR.out _ hbW
    replace cS := HS.out _ hbW
    replace cN := HN.out _ hbW
    go_wp2_with fail
    go_ret
    exact ⟨rfl, bnext hbw hbW⟩
  · go_wp2_with fail
    refine (mayQ_any _ _ _ _).mono ?_
    rintro e w23 ⟨rfl, hbel⟩
    replace hbW := bnext hbW hbel
    clear hbel
    replace cX := HX.out _ hbW
    replace cY := HY.out _ hbW
    replace cZ := HZ.out _ hbW
    replace cU := HU.out _ hbW
    replace cV := HV.out _ hbW
    replace cT := HT.out _ hbW
    replace cR := HR.out _ hbW
    replace cS := HS.out _ hbW
    replace cN := HN.out _ hbW
    rw [ma]
    · have hlt := less_qualS ma ma
      have hsm := same_qualS ma ma
      rw [EX.out] at hlt hsm
      generalize hsa : qualS c a v = A at *
      have Hlt := hid hlt
      have Hsm := hid hsm
      have Hsa := hid hsa
      clear hlt hsm hsa
      have hbW23 := hbW
      clear hbW
      go_wp2_with fail
      refine wp_region_held_drew (S := fun w' => Below w23.drew.heap.size w23.drew w') (by kernel_rfl) (Below.refl _ _) ?_
      intro hHeld
      have hbW := bnext hbW23 <| Below.drew (Below.refl w23.heap.size w23)
      generalize w23.drew = wd at *
      clear cX cY cZ cU cV cT cR cS cN
      have hcX := fun wx h => HX.out wx (bnext hbW h)
      have hcY := fun wx h => HY.out wx (bnext hbW h)
      have hcZ := fun wx h => HZ.out wx (bnext hbW h)
      have hcU := fun wx h => HU.out wx (bnext hbW h)
      have hcV := fun wx h => HV.out wx (bnext hbW h)
      have hcT := fun wx h => HT.out wx (bnext hbW h)
      refine rtake 0 rfl (by rfl) (by kernel_rfl) (by kernel_rfl) (by kernel_rfl) (fun _ _ _ h => h) hHeld (fun wx hwx => by go_simp; try with_reducible rfl) ?_
      try simp only [Act.put, List.setIfInBounds_toArray, List.set_cons_zero, List.set_cons_succ]
      refine rtake 3 rfl (by rfl) (by kernel_rfl) (by kernel_rfl) (by kernel_rfl) (fun _ _ _ h => h) hHeld (fun wx hwx => by go_simp; try with_reducible rfl) ?_
      try simp only [Act.put, List.setIfInBounds_toArray, List.set_cons_zero, List.set_cons_succ]
      -- CALL 1: some 57 := Op.call { callee := Callee.value (Operand.func 11), args := #[Operand.const (Value.slice none 0 0), Operand.tmp 56], argTypes := #[22, 24] }
      refine rcall 1 rfl (by kernel_rfl) (by rfl) (fun K hK => ?_)
      go_simp
      refine (qualPut_any _ [] c a v _ (Bytes.nil _) (by decide)).mono ?_
      rintro e wx1 ⟨x1, rfl, own1, hbel⟩
      rw [List.nil_append, Hsa.out] at own1
      have hst1 := own1.bytes.strs
      refine hK.out _ _ hbel ?_
      clear hK K
      refine wpAnyH_mono (S' := fun w' => Below wx1.heap.size wx1 w') (fun w' h => bnext hbel h) _ _ _ _ ?_
      have hH := Below.refl wx1.heap.size wx1
      have hW := bnext hbW hbel
      clear hbel hbW hHeld
      have hHeld := hH
      have hbW := hW
      clear hH hW
      have hsz1 := hbW.size
      replace hcX := fun wx h => HX.out wx (bnext hbW h)
      replace hcY := fun wx h => HY.out wx (bnext hbW h)
      replace hcZ := fun wx h => HZ.out wx (bnext hbW h)
      replace hcU := fun wx h => HU.out wx (bnext hbW h)
      replace hcV := fun wx h => HV.out wx (bnext hbW h)
      replace hcT := fun wx h => HT.out wx (bnext hbW h)
      try simp only [Act.put, List.setIfInBounds_toArray, List.set_cons_zero, List.set_cons_succ]
      refine rtake 2 rfl (by rfl) (by kernel_rfl) (by kernel_rfl) (by kernel_rfl) (fun _ _ _ h => h) hHeld (fun wx hwx => by go_simp; try with_reducible rfl) ?_
      try simp only [Act.put, List.setIfInBounds_toArray, List.set_cons_zero, List.set_cons_succ]
      -- CALL 4: some 60 := Op.call { callee := Callee.value (Operand.func 11), args := #[Operand.const (Value.slice none 0 0), Operand.tmp 59], argTypes := #[22, 24] }
      refine rcall 4 rfl (by kernel_rfl) (by rfl) (fun K hK => ?_)
      go_simp
      refine (qualPut_any _ [] c a v _ (Bytes.nil _) (by decide)).mono ?_
      rintro e wx4 ⟨x4, rfl, own4, hbel⟩
      rw [List.nil_append, Hsa.out] at own4
      have hst4 := own4.bytes.strs
      refine hK.out _ _ hbel ?_
      clear hK K
      refine wpAnyH_mono (S' := fun w' => Below wx4.heap.size wx4 w') (fun w' h => bnext hbel h) _ _ _ _ ?_
      have hH := Below.refl wx4.heap.size wx4
      have hW := bnext hbW hbel
      clear hbel hbW hHeld
      have hHeld := hH
      have hbW := hW
      clear hH hW
      have hsz4 := hbW.size
      replace hcX := fun wx h => HX.out wx (bnext hbW h)
      replace hcY := fun wx h => HY.out wx (bnext hbW h)
      replace hcZ := fun wx h => HZ.out wx (bnext hbW h)
      replace hcU := fun wx h => HU.out wx (bnext hbW h)
      replace hcV := fun wx h => HV.out wx (bnext hbW h)
      replace hcT := fun wx h => HT.out wx (bnext hbW h)
      try simp only [Act.put, List.setIfInBounds_toArray, List.set_cons_zero, List.set_cons_succ]
      refine rtake 5 rfl (by rfl) (by kernel_rfl) (by kernel_rfl) (by kernel_rfl) (fun _ _ _ h => h) hHeld (fun wx hwx => by go_simp; try with_reducible rfl) ?_
      try simp only [Act.put, List.setIfInBounds_toArray, List.set_cons_zero, List.set_cons_succ]
      refine rtake 6 rfl (by rfl) (by kernel_rfl) (by kernel_rfl) (by kernel_rfl) (fun _ _ _ h => h) hHeld (fun wx hwx => by go_simp; try with_reducible rfl) ?_
      try simp only [Act.put, List.setIfInBounds_toArray, List.set_cons_zero, List.set_cons_succ]
      refine rtake 7 rfl (by rfl) (by kernel_rfl) (by kernel_rfl) (by kernel_rfl) (fun _ _ _ h => h) hHeld (fun wx hwx => by go_simp; try with_reducible rfl) ?_
      try simp only [Act.put, List.setIfInBounds_toArray, List.set_cons_zero, List.set_cons_succ]
      refine wpAnyH_done (by kernel_rfl) ?_ _
      have e1 : Op.bytesLess A A = false := Hlt.out
      have e2 : (A == A) = true := Hsm.out
      go_wp2_with fail
      refine (awake05_any _).mono ?_
      rintro e w25 ⟨rfl, hbel⟩
      replace hbW := bnext hbW hbel
      clear hbel e1 e2
      go_wp2_with fail
      go_ret
      exact ⟨rfl, bnext hbw hbW⟩
-- END ORDER
end Go.Proofs.Ytknbflipockegaa
