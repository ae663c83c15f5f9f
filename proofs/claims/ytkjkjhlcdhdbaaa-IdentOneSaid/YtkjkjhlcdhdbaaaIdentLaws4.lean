/- The walk of the law IdentOne (its region: gen_ident.py). -/
import Derived.Test.YtkjkjhlcdhdbaaaIdentLaws
namespace Go.Proofs.Ytkjkjhlcdhdbaaa
open Go.RowKit Go.Proofs
set_option linter.unusedVariables false
set_option linter.unusedSimpArgs false

theorem got_portS (x y : List UInt8) (c p : Int) (A : Nat) (hA : x.length = A) (hc : 0 ≤ c ∧ c < 18446744073709551616) (hp : mayP p = true) :
    gotC (x ++ (portS c p ++ y)) A = c ∧ gotP (x ++ (portS c p ++ y)) A = p ∧ gotB (x ++ (portS c p ++ y)) A = true := by
  obtain ⟨p0, p1⟩ := mayP_iff.1 hp
  have hs : standB (x ++ (portS c p ++ y)).length A 10 = true := standB_true (by omega) (by decide) (by rw [List.length_append, List.length_append, portS_length]; omega)
  refine ⟨?_, ?_, hs⟩
  · rw [gotC_yes hs, Int.toNat_natCast]
    unfold portS
    rw [List.append_assoc, numAt_putN _ _ _ 8 A (by decide) hA]
    have := hc.1
    have := hc.2
    rw [Nat.mod_eq_of_lt (by omega)]
    omega
  · rw [gotP_yes hs, Int.toNat_natCast]
    unfold portS putS
    rw [List.append_assoc, ← List.append_assoc, show (min (max (2 : Int) 0) 8).toNat = 2 by decide, numAt_putN _ _ _ 2 (A + 8) (by decide) (by rw [List.length_append, putN_length, hA])]
    omega

theorem got_none (l : List UInt8) (at' : Int) (h : (l.length : Int) < at' + 10) : gotC l at' = 0 ∧ gotP l at' = 0 ∧ gotB l at' = false := by
  have hs : standB l.length at' 10 = false := standB_false (by omega)
  exact ⟨gotC_no hs, gotP_no hs, hs⟩

theorem identGet_is {v : Value} {l : List UInt8} {at' c p : Int} {ok : Bool} {w : World} (h : Hid (gotC l at' = c ∧ gotP l at' = p ∧ gotB l at' = ok)) (hB : Bytes w v l) (hl : l.length ≤ 140737488355328) (hat : at' ≤ 9223372036854775807) :
    Calls Try.prog 9 #[v, .int .i64 at'] w fun e w' => e = .returned (.tuple #[portV c p, .bool ok]) ∧ Below w.heap.size w w' := by
  obtain ⟨h1, h2, h3⟩ := h.out
  have := identGet_any v l at' w hB hl hat
  rw [h1, h2, h3] at this
  exact this

set_option maxRecDepth 100000 in
set_option maxHeartbeats 4000000 in
theorem identOne_walk (a : Int) (w0 : (Lit.int .u64 a).wf = true) (a' : Int) (w0' : (Lit.int .i64 a').wf = true) (b : Int) (w1 : (Lit.int .u64 b).wf = true) (b' : Int) (w1' : (Lit.int .i64 b').wf = true) (w : World) :
    Calls Try.prog 8 #[portV a a', portV b b'] w fun e w' => e = .returned (.bool true) ∧ Below w.heap.size w w' := by
  have ha := hid (u64_of_wf w0)
  have hb := hid (u64_of_wf w1)
  clear w0 w0' w1 w1'
  go_enter Try.func8, Try.ntmps8
  go_wp2_with fail
  obtain ⟨W, hWe, hbw, HX, HY, HZ, HU⟩ := boxes2 w (.int .u64 a) (.int .i64 a') (.int .u64 b) (.int .i64 b') 25
  rw [← hWe]
  clear hWe
  refine (identMay_any _ _ _).mono ?_
  rintro e w21 ⟨rfl, hbW⟩
  have cZ := HZ.out _ hbW
  have cU := HU.out _ hbW
  cases ma : mayP a'
  · go_wp2_with fail
    refine (awake04_any _).mono ?_
    rintro e w22 ⟨rfl, hbel⟩
    replace hbW := bnext hbW hbel
    clear hbel cZ cU
    go_wp2_with fail
    go_ret
    exact ⟨rfl, bnext hbw hbW⟩
  go_wp2_with fail
  refine (identMay_any _ _ _).mono ?_
  rintro e w23 ⟨rfl, hbel⟩
  replace hbW := bnext hbW hbel
  clear hbel cZ cU
  cases mb : mayP b'
  · go_wp2_with fail
    refine (awake04_any _).mono ?_
    rintro e w24 ⟨rfl, hbel⟩
    replace hbW := bnext hbW hbel
    clear hbel
    go_wp2_with fail
    go_ret
    exact ⟨rfl, bnext hbw hbW⟩
  have hL : (portS a a' ++ portS b b').length = 20 := by rw [List.length_append, portS_length, portS_length]
  have g0 := got_portS [] (portS b b') a a' 0 rfl ha.out ma
  have g1 := got_portS (portS a a') [] b b' 10 (portS_length a a') hb.out mb
  have g2 := got_none (portS a a' ++ portS b b') 11 (by omega)
  rw [List.nil_append] at g0
  rw [List.append_nil] at g1
  have hlA := portS_length a a'
  have HA0 := hid ha.out.1
  have HB0 := hid hb.out.1
  generalize hLe : portS a a' ++ portS b b' = L at *
  have HLe := hid hLe
  have HlA := hid hlA
  have HL := hid hL
  have G0 : Hid (gotC L 0 = a ∧ gotP L 0 = a' ∧ gotB L 0 = true) := hid g0
  have G1 : Hid (gotC L 10 = b ∧ gotP L 10 = b' ∧ gotB L 10 = true) := hid g1
  have G2 := hid g2
  clear hLe hlA hL g0 g1 g2
  go_wp2_with fail
  have hbW23 := hbW
  clear hbW
  -- REGION one
  refine wp_region_held_drew (S := fun w' => Below w23.drew.heap.size w23.drew w') (by kernel_rfl) (Below.refl _ _) ?_
  intro hHeld
  have hbW := bnext hbW23 <| Below.drew (Below.refl w23.heap.size w23)
  generalize w23.drew = wd at *
  have hcX := fun wx h => HX.out wx (bnext hbW h)
  have hcY := fun wx h => HY.out wx (bnext hbW h)
  have hcZ := fun wx h => HZ.out wx (bnext hbW h)
  have hcU := fun wx h => HU.out wx (bnext hbW h)
  refine rtake 0 rfl (by rfl) (by kernel_rfl) (by kernel_rfl) (by kernel_rfl) (fun _ _ _ h => h) hHeld (fun wx hwx => by go_simp; try with_reducible rfl) ?_
  try simp only [Act.put, List.setIfInBounds_toArray, List.set_cons_zero, List.set_cons_succ]
  refine rtake 2 rfl (by rfl) (by kernel_rfl) (by kernel_rfl) (by kernel_rfl) (fun _ _ _ h => h) hHeld (fun wx hwx => by go_simp; try with_reducible rfl) ?_
  try simp only [Act.put, List.setIfInBounds_toArray, List.set_cons_zero, List.set_cons_succ]
  -- CALL 1: some 22 := Op.call { callee := Callee.value (Operand.func 14), args := #[Operand.const (Value.slice none 0 0), Operand.tmp 21], argTypes := #[22, 25] }
  refine rcall 1 rfl (by kernel_rfl) (by rfl) (fun K hK => ?_)
  go_simp
  refine (identPut_any _ [] a a' _ (Bytes.nil _) (by decide) HA0.out).mono ?_
  rintro e wx1 ⟨x1, rfl, own1, hbel⟩
  rw [List.nil_append] at own1
  have hst1 := own1.bytes.strs
  refine hK.out _ _ hbel ?_
  clear hK K
  refine wpAnyH_mono (S' := fun w' => Below wx1.heap.size wx1 w') (fun w' h => bnext hbel h) _ _ _ _ ?_
  have hH := Below.refl wx1.heap.size wx1
  have hW := bnext hbW hbel
  clear hbel hbW hHeld
  have hHeld := hH
  have hbW := hW
  clear hH hW
  have hsz1 := hbW.size
  replace hcX := fun wx h => HX.out wx (bnext hbW h)
  replace hcY := fun wx h => HY.out wx (bnext hbW h)
  replace hcZ := fun wx h => HZ.out wx (bnext hbW h)
  replace hcU := fun wx h => HU.out wx (bnext hbW h)
  try simp only [Act.put, List.setIfInBounds_toArray, List.set_cons_zero, List.set_cons_succ]
  -- CALL 3: some 24 := Op.call { callee := Callee.value (Operand.func 14), args := #[Operand.tmp 22, Operand.tmp 23], argTypes := #[22, 25] }
  refine rcall 3 rfl (by kernel_rfl) (by rfl) (fun K hK => ?_)
  go_simp
  refine (identPut_any _ (portS a a') b b' _ own1.bytes (by rw [HlA.out]; decide) HB0.out).mono ?_
  rintro e wx3 ⟨x3, rfl, own3, hbel⟩
  rw [HLe.out] at own3
  have hst3 := own3.bytes.strs
  refine hK.out _ _ hbel ?_
  clear hK K
  refine wpAnyH_mono (S' := fun w' => Below wx3.heap.size wx3 w') (fun w' h => bnext hbel h) _ _ _ _ ?_
  have hH := Below.refl wx3.heap.size wx3
  have hW := bnext hbW hbel
  clear hbel hbW hHeld
  have hHeld := hH
  have hbW := hW
  clear hH hW
  have hsz3 := hbW.size
  replace hcX := fun wx h => HX.out wx (bnext hbW h)
  replace hcY := fun wx h => HY.out wx (bnext hbW h)
  replace hcZ := fun wx h => HZ.out wx (bnext hbW h)
  replace hcU := fun wx h => HU.out wx (bnext hbW h)
  try simp only [Act.put, List.setIfInBounds_toArray, List.set_cons_zero, List.set_cons_succ]
  refine rtake 4 rfl (by rfl) (by kernel_rfl) (by kernel_rfl) (by kernel_rfl) (fun _ _ _ h => h) hHeld (fun wx hwx => by go_simp; try with_reducible rfl) ?_
  try simp only [Act.put, List.setIfInBounds_toArray, List.set_cons_zero, List.set_cons_succ]
  refine wpAnyH_done (by kernel_rfl) ?_ _
  -- END REGION one
  have hB3 := own3.bytes
  obtain ⟨g, cap, rfl, hg1, hg2, hg3, hg4⟩ := own3.form (by rw [HL.out]; decide)
  rw [HL.out] at hB3 hg1 ⊢
  have HB3 := hid hB3
  have hbW3 := hbW
  clear hB3 own3 hg1 hg2 hg3 hg4 hbW hHeld
  go_wp2_with fail
  refine (identGet_is G0 HB3.out (by rw [HL.out]; decide) (by decide)).mono ?_
  rintro e w4 ⟨rfl, hb4⟩
  have HBy := hid ((HB3.out.below hb4).below (bnew w4 (Obj.cells #[.int .u64 a, .int .i64 a'] 25)))
  have hb4' := bnext hb4 (bnew w4 (Obj.cells #[.int .u64 a, .int .i64 a'] 25))
  obtain ⟨hX4, hY4⟩ := box2 w4 (.int .u64 a) (.int .i64 a') 25
  have HX4 := hid hX4
  have HY4 := hid hY4
  clear hX4 hY4
  go_wp2_with fail
  refine (identGet_is G1 HBy.out (by rw [HL.out]; decide) (by decide)).mono ?_
  rintro e w5 ⟨rfl, hb5⟩
  have HBz := hid ((HBy.out.below hb5).below (bnew w5 (Obj.cells #[.int .u64 b, .int .i64 b'] 25)))
  have hb5' := bnext hb5 (bnew w5 (Obj.cells #[.int .u64 b, .int .i64 b'] 25))
  obtain ⟨hX5, hY5⟩ := box2 w5 (.int .u64 b) (.int .i64 b') 25
  have HX5 := hid hX5
  have HY5 := hid hY5
  clear hX5 hY5
  go_wp2_with fail
  refine (identGet_is G2 HBz.out (by rw [HL.out]; decide) (by decide)).mono ?_
  rintro e w6 ⟨rfl, hb6⟩
  have hb6' := bnext hb6 (bnew w6 (Obj.cells #[.int .u64 0, .int .i64 0] 25))
  have hbW6 := bnext hbW3 (bnext hb4' (bnext hb5' hb6'))
  have cX := HX.out _ hbW6
  have cY := HY.out _ hbW6
  have cZ := HZ.out _ hbW6
  have cU := HU.out _ hbW6
  have cX4 := HX4.out _ (bnext hb5' hb6')
  have cY4 := HY4.out _ (bnext hb5' hb6')
  have cX5 := HX5.out _ hb6'
  have cY5 := HY5.out _ hb6'
  clear hbW3 hb4 hb4' hb5 hb5' hb6 hb6'
  go_wp2_with fail
  refine (awake04_any _).mono ?_
  rintro e w7 ⟨rfl, hb7⟩
  clear cX cY cZ cU cX4 cY4 cX5 cY5
  go_wp2_with fail
  go_ret
  exact ⟨rfl, bnext hbw (bnext hbW6 hb7)⟩
end Go.Proofs.Ytkjkjhlcdhdbaaa
