/- carillonlaw19: Last, Order, from contracts of the program's own (gen_medlaws.py). -/
import Derived.Test.YtcccjjghalajoaaMedLaws1
import Derived.BigQuiet
namespace Go.Proofs.Ytcccjjghalajoaa
open Go.RowKit Go.Proofs
set_option maxRecDepth 50000
set_option linter.unusedVariables false
set_option linter.unusedSimpArgs false

def lastN (n : Nat) (l : List Int) : List Int := l.drop (l.length - n)
theorem lastN_nil (n : Nat) : lastN n [] = [] := List.drop_nil
theorem lastN_put (n : Nat) (h : 1 ≤ n) (l : List Int) (v : Int) : putL n (lastN n l) v = lastN n (l ++ [v]) := putL_all n h l v
theorem lastN_in {n : Nat} (h : 1 ≤ n) (h2 : n ≤ 15) (l : List Int) : InM (n, lastN n l) := ⟨h, h2, by show (lastN n l).length ≤ n; unfold lastN; rw [List.length_drop]; omega⟩
theorem lastN_app {n : Nat} {a b : List Int} (h : n ≤ b.length) : lastN n (a ++ b) = lastN n b := by
  unfold lastN
  rw [List.length_append, List.drop_append, List.drop_eq_nil_of_le (by omega), List.nil_append]
  congr 1
  omega
theorem snoc_take {l : List Int} {k : Nat} (h : k < l.length) {z : Int} (hz : l[k] = z) : l.take k ++ [z] = l.take (k + 1) := by
  subst hz
  exact (List.take_succ_eq_append_getElem h).symm
theorem IntsAt.dropM {w : World} {b o : Nat} {zs : List Int} (h : IntsAt w (some ⟨b, o, none⟩) zs) (n : Nat) : IntsAt w (some ⟨b, o + n, none⟩) (zs.drop n) := by
  rcases h with rfl | ⟨b', o', he, hlt, hc⟩
  · exact .inl (by simp)
  · cases he
    exact .inr ⟨b, o + n, rfl, hlt, fun i hi => by
      rw [List.length_drop] at hi
      rw [List.getElem_drop, Nat.add_assoc]
      exact hc (n + i) (by omega)⟩

set_option maxRecDepth 100000 in
set_option maxHeartbeats 8000000 in
theorem medianLast_from {R : List Value → Nat × List Int → Prop} (HNew : CNewM R) (HPut : CPutM R) (HVal : CValM R) (n : Int) (va vb : Value) (zs ys : List Int) (w : World) (hA : Ints w va zs) (hB : Ints w vb ys) :
    Calls Try.prog 6 #[.int .i64 n, va, vb] w fun e w' => e = .returned (.bool true) ∧ Below w.heap.size w w' := by
  obtain ⟨pa, cappa, rfl, hcappa, hmaxpa, hatpa⟩ := hA
  have ROWpa := hid fun h => IntsAt.rowM hatpa h
  clear hatpa
  unfold maxLen at hmaxpa
  obtain ⟨pb, cappb, rfl, hcappb, hmaxpb, hatpb⟩ := hB
  have ROWpb := hid fun h => IntsAt.rowM hatpb h
  have HATB := hid hatpb
  clear hatpb
  unfold maxLen at hmaxpb
  go_enter Try.func6, Try.ntmps6
  go_wp2_with fail
  refine (place_in n 15 _ (by decide) (by decide)).mono ?_
  rintro e w' ⟨y0, rfl, hy0, hy1, -, rfl⟩
  obtain ⟨Kn, hK⟩ : ∃ Kn : Nat, 1 + y0 = (Kn : Int) := ⟨(1 + y0).toNat, by omega⟩
  have hK1 : 1 ≤ Kn := by omega
  have hK15 : Kn ≤ 15 := by omega
  have hKI1 : (1 : Int) ≤ (Kn : Int) := by omega
  have hKI15 : (Kn : Int) ≤ 15 := by omega
  have hKw : IntKind.i64.wrap (1 + y0) = (Kn : Int) := by rw [IntKind.wrap_i64]; omega
  have hcl : clampN (Kn : Int) = Kn := by rw [clampN_at hKI1 hKI15]; rfl
  go_upto_region 2 with fail
  clear hKw hK hy0 hy1
  go_wp2_with fail
  refine (HNew _ _).mono ?_
  rintro e w1 ⟨g1, rfl, hg1, F1, hb⟩
  have hlt1 := F1.lt
  go_wp2_with fail
  refine (HNew _ _).mono ?_
  rintro e w2 ⟨g2, rfl, hg2, F2, b2⟩
  replace F1 := F1.below b2
  have hne : g1 ≠ g2 := by omega
  have hg2' : w.heap.size ≤ g2 := Nat.le_trans hb.size hg2
  replace hb := bnext hb b2
  rw [hcl] at F1 F2
  clear b2 hlt1 hg2 hcl
  by_cases hlen : zs.length ≤ 40 ∧ Kn ≤ ys.length ∧ ys.length ≤ 40
  case neg =>
    by_cases h1 : 40 < (zs.length : Int)
    · go_wp2_with fail
      refine (awake19_from HNew HPut _).mono ?_
      rintro e wz ⟨rfl, bz⟩
      go_wp2_with fail
      go_ret
      exact ⟨rfl, bnext hb bz⟩
    · by_cases h2 : (ys.length : Int) < (Kn : Int)
      · go_wp2_with fail
        refine (awake19_from HNew HPut _).mono ?_
        rintro e wz ⟨rfl, bz⟩
        go_wp2_with fail
        go_ret
        exact ⟨rfl, bnext hb bz⟩
      · have h3 : 40 < (ys.length : Int) := by omega
        go_wp2_with fail
        refine (awake19_from HNew HPut _).mono ?_
        rintro e wz ⟨rfl, bz⟩
        go_wp2_with fail
        go_ret
        exact ⟨rfl, bnext hb bz⟩
  obtain ⟨hz40, hyK, hy40⟩ := hlen
  have h1 : ¬ 40 < (zs.length : Int) := by omega
  have h2 : ¬ (ys.length : Int) < (Kn : Int) := by omega
  have h3 : ¬ 40 < (ys.length : Int) := by omega
  have d1 : decide (40 < (zs.length : Int)) = false := decide_eq_false h1
  have d2 : decide ((ys.length : Int) < (Kn : Int)) = false := decide_eq_false h2
  have d3 : decide (40 < (ys.length : Int)) = false := decide_eq_false h3
  have d4 : decide (ys.length < Kn) = false := decide_eq_false (by omega)
  clear h1 h2 h3
  go_wp2_with fail
  go_loopw [10] (fun iv wr => ∃ k : Nat, k ≤ zs.length ∧ iv = .int .i64 (k : Int) ∧ ObAt 43 R wr g1 (Kn, lastN Kn (zs.take k)) ∧ ObAt 43 R wr g2 (Kn, []) ∧ Below w.heap.size w wr) (fun iv _ => zs.length - (intOf iv).toNat)
  case atStart => exact ⟨0, Nat.zero_le _, rfl, by rw [List.take_zero, lastN_nil]; exact F1, F2, hb⟩
  case round =>
    clear F1 F2 hb
    obtain ⟨k, hkz, rfl, F1, F2, hb⟩ := hrel
    by_cases hk : k < zs.length
    · have hkI : (k : Int) < (zs.length : Int) := by omega
      obtain ⟨b0, off, rfl, hc⟩ := ROWpa.out (by omega)
      obtain ⟨z, hz⟩ : ∃ z, zs[k] = z := ⟨_, rfl⟩
      have HCz := hid fun (wx : World) (h : Below w.heap.size w wx) => (hc wx h k hk).trans (by rw [hz])
      have hcell := HCz.out _ hb
      have hs := hid (snoc_take hk hz)
      clear hc hz
      go_wp2_with fail
      clear hcell
      refine (HPut g1 (Kn) (lastN Kn (zs.take k)) (z) _ F1 (lastN_in hK1 hK15 _)).mono ?_
      rintro e w5 ⟨m, rfl, hm, F9, o9⟩
      replace F2 := F2.only o9 (Ne.symm hne)
      replace F1 := F9
      replace hb := Only.below hb o9 hg1 hb.size
      clear F9 o9
      rw [lastN_put Kn hK1, hs.out] at F1
      clear hm
      have HF1 := hid F1
      have HF2 := hid F2
      go_wp2_with fail
      go_roundw
      case rel => exact ⟨k + 1, hk, by go_num, HF1.out, HF2.out, hb⟩
      case measure => simp [intOf]; omega
    · obtain rfl : k = zs.length := by omega
      rw [List.take_length] at F1
      clear hk hkz
      go_wp2_with fail
      go_loopw [11, 12, 13] (fun xv yv iv wr => ∃ (k : Nat) (X Y : Int), k ≤ ys.length ∧ xv = .int .i64 X ∧ yv = .int .i64 Y ∧ iv = .int .i64 (k : Int) ∧ (k = 0 ∨ IsMed (lastN Kn (zs ++ ys.take k)) X ∧ IsMed (lastN Kn (ys.take k)) Y) ∧ ObAt 43 R wr g1 (Kn, lastN Kn (zs ++ ys.take k)) ∧ ObAt 43 R wr g2 (Kn, lastN Kn (ys.take k)) ∧ Below w.heap.size w wr) (fun _ _ iv _ => ys.length - (intOf iv).toNat)
      case atStart => exact ⟨0, 0, 0, Nat.zero_le _, rfl, rfl, rfl, .inl rfl, by rw [List.take_zero, List.append_nil]; exact F1, by rw [List.take_zero, lastN_nil]; exact F2, hb⟩
      case round =>
        clear F1 F2 hb
        obtain ⟨k, X, Y, hkz, rfl, rfl, rfl, hXY, F1, F2, hb⟩ := hrel
        by_cases hk : k < ys.length
        · have hkI : (k : Int) < (ys.length : Int) := by omega
          clear hXY
          obtain ⟨b0, off, rfl, hc⟩ := ROWpb.out (by omega)
          obtain ⟨z, hz⟩ : ∃ z, ys[k] = z := ⟨_, rfl⟩
          have HCz := hid fun (wx : World) (h : Below w.heap.size w wx) => (hc wx h k hk).trans (by rw [hz])
          have hs := hid (snoc_take hk hz)
          have hcell := HCz.out _ hb
          clear hc hz
          go_wp2_with fail
          clear hcell
          refine (HPut g1 (Kn) (lastN Kn (zs ++ ys.take k)) (z) _ F1 (lastN_in hK1 hK15 _)).mono ?_
          rintro e w5 ⟨m, rfl, hm, F9, o9⟩
          replace F2 := F2.only o9 (Ne.symm hne)
          replace F1 := F9
          replace hb := Only.below hb o9 hg1 hb.size
          clear F9 o9
          rw [lastN_put Kn hK1, List.append_assoc, hs.out] at F1 hm
          have HM1 := hid hm
          have HF1 := hid F1
          clear hm F1
          have hcell := HCz.out _ hb
          have F1 := HF1.out
          go_wp2_with fail
          clear hcell
          refine (HPut g2 (Kn) (lastN Kn (ys.take k)) (z) _ F2 (lastN_in hK1 hK15 _)).mono ?_
          rintro e w6 ⟨m, rfl, hm, F9, o9⟩
          replace F1 := F1.only o9 hne
          replace F2 := F9
          replace hb := Only.below hb o9 hg2' hb.size
          clear F9 o9
          rw [lastN_put Kn hK1, hs.out] at F2 hm
          have HM2 := hid hm
          have HF1 := hid F1
          have HF2 := hid F2
          clear hm F1 F2
          go_wp2_with fail
          go_roundw
          case rel => exact ⟨k + 1, _, _, hk, rfl, rfl, by go_num, .inr ⟨HM1.out, HM2.out⟩, HF1.out, HF2.out, hb⟩
          case measure => simp [intOf]; omega
        · obtain rfl : k = ys.length := by omega
          rw [List.take_length] at F1 F2 hXY
          rw [lastN_app hyK] at F1 hXY
          obtain rfl : X = Y := by
            rcases hXY with h | ⟨ha, hb'⟩
            · exact absurd h (by omega)
            · exact ha.unique hb'
          obtain ⟨b0, off, rfl, -⟩ := ROWpb.out (by omega)
          obtain ⟨D, hD⟩ : ∃ D, ys.length - Kn = D := ⟨_, rfl⟩
          have hDI : IntKind.i64.wrap ((ys.length : Int) - (Kn : Int)) = (D : Int) := by rw [IntKind.wrap_i64]; omega
          have hD2 : D < ys.length := by omega
          have hD3 : (D : Int) < (ys.length : Int) := by omega
          have hD4 : D < cappb := by omega
          have hD5 : D ≤ ys.length := by omega
          have hD6 : (cappb = D) = False := eq_false (by omega)
          have hat := hid (show ∀ wx, Below w.heap.size w wx → Ints wx (.slice (some ⟨b0, off + D, none⟩) (ys.length - D) (cappb - D)) (lastN Kn ys) from fun wx hx => by
            refine ⟨some ⟨b0, off + D, none⟩, cappb - D, ?_, ?_, ?_, ?_⟩
            · unfold lastN; rw [hD, List.length_drop]
            · unfold lastN; rw [hD, List.length_drop]; omega
            · unfold maxLen; omega
            · unfold lastN; rw [hD]; exact (HATB.out.below hx).dropM D)
          have hlen9 : (lastN Kn ys).length ≤ 140737488355328 := by unfold lastN; rw [List.length_drop]; omega
          have hin9 := lastN_in hK1 hK15 ys
          have hself : (lastN Kn ys == lastN Kn ys) = true := beq_self_eq_true _
          generalize lastN Kn ys = E at *
          clear hXY hD hkz hk HATB F2
          go_upto_region 17 with fail
          refine wp_region_held_drew (S := fun w' => Below wr.drew.heap.size wr.drew w') (by kernel_rfl) (Below.refl _ _) ?_
          intro hHeld
          have hbW := Below.drew (Below.refl wr.heap.size wr)
          generalize wr.drew = wd at *
          have F1d := F1.below hbW
          refine rtake 0 rfl (by rfl) (by kernel_rfl) (by kernel_rfl) (by kernel_rfl) (fun _ _ _ h => h) hHeld (fun wx hwx => by go_simp; try with_reducible rfl) ?_
          try simp only [Act.put, List.setIfInBounds_toArray, List.set_cons_zero, List.set_cons_succ]
          refine rtake 1 rfl (by rfl) (by kernel_rfl) (by kernel_rfl) (by kernel_rfl) (fun _ _ _ h => h) hHeld (fun wx hwx => by go_simp; try with_reducible rfl) ?_
          try simp only [Act.put, List.setIfInBounds_toArray, List.set_cons_zero, List.set_cons_succ]
          refine rtake 2 rfl (by rfl) (by kernel_rfl) (by kernel_rfl) (by kernel_rfl) (fun _ _ _ h => h) hHeld (fun wx hwx => by go_simp; try with_reducible rfl) ?_
          try simp only [Act.put, List.setIfInBounds_toArray, List.set_cons_zero, List.set_cons_succ]
          refine rtake 3 rfl (by rfl) (by kernel_rfl) (by kernel_rfl) (by kernel_rfl) (fun _ _ _ h => h) hHeld (fun wx hwx => by go_simp; try with_reducible rfl) ?_
          try simp only [Act.put, List.setIfInBounds_toArray, List.set_cons_zero, List.set_cons_succ]
          refine rtake 4 rfl (by rfl) (by kernel_rfl) (by kernel_rfl) (by kernel_rfl) (fun _ _ _ h => h) hHeld (fun wx hwx => by go_simp; try with_reducible rfl) ?_
          try simp only [Act.put, List.setIfInBounds_toArray, List.set_cons_zero, List.set_cons_succ]
          refine rtake 6 rfl (by rfl) (by kernel_rfl) (by kernel_rfl) (by kernel_rfl) (fun _ _ _ h => h) hHeld (fun wx hwx => by go_simp; try with_reducible rfl) ?_
          try simp only [Act.put, List.setIfInBounds_toArray, List.set_cons_zero, List.set_cons_succ]
          refine rtake 7 rfl (by rfl) (by kernel_rfl) (by kernel_rfl) (by kernel_rfl) (fun _ _ _ h => h) hHeld (fun wx hwx => by go_simp; try with_reducible rfl) ?_
          try simp only [Act.put, List.setIfInBounds_toArray, List.set_cons_zero, List.set_cons_succ]
          refine rtake 8 rfl (by rfl) (by kernel_rfl) (by kernel_rfl) (by kernel_rfl) (fun _ _ _ h => h) hHeld (fun wx hwx => by go_simp; try with_reducible rfl) ?_
          try simp only [Act.put, List.setIfInBounds_toArray, List.set_cons_zero, List.set_cons_succ]
          refine rtake 9 rfl (by rfl) (by kernel_rfl) (by kernel_rfl) (by kernel_rfl) (fun _ _ _ h => h) hHeld (fun wx hwx => by go_simp; try with_reducible rfl) ?_
          try simp only [Act.put, List.setIfInBounds_toArray, List.set_cons_zero, List.set_cons_succ]
          refine rtake 10 rfl (by rfl) (by kernel_rfl) (by kernel_rfl) (by kernel_rfl) (fun _ _ _ h => h) hHeld (fun wx hwx => by go_simp; try with_reducible rfl) ?_
          try simp only [Act.put, List.setIfInBounds_toArray, List.set_cons_zero, List.set_cons_succ]
          refine rtake 11 rfl (by rfl) (by kernel_rfl) (by kernel_rfl) (by kernel_rfl) (fun _ _ _ h => h) hHeld (fun wx hwx => by go_simp; try with_reducible rfl) ?_
          try simp only [Act.put, List.setIfInBounds_toArray, List.set_cons_zero, List.set_cons_succ]
          -- CALL 5: some 77 := Op.call { callee := Callee.value (Operand.func 14), args := #[Operand.tmp 76], argTypes := #[23] }
          refine rcall 5 rfl (by kernel_rfl) (by rfl) (fun K hK => ?_)
          go_simp
          refine (HVal g1 Kn E wd F1d hin9).mono ?_
          rintro e wx5 ⟨v9, rfl, hV, hbel⟩
          have HV := hid hV
          refine hK.out _ _ hbel ?_
          clear hK K
          refine wpAnyH_mono (S' := fun w' => Below wx5.heap.size wx5 w') (fun w' h => bnext hbel h) _ _ _ _ ?_
          have hH := Below.refl wx5.heap.size wx5
          have hW := bnext hbW hbel
          clear hbel hbW hHeld
          have hHeld := hH
          have hbW := hW
          clear hH hW
          try simp only [Act.put, List.setIfInBounds_toArray, List.set_cons_zero, List.set_cons_succ]
          -- CALL 12: some 84 := Op.call { callee := Callee.value (Operand.func 13), args := #[Operand.tmp 77, Operand.tmp 83], argTypes := #[22, 22] }
          refine rcall 12 rfl (by kernel_rfl) (by rfl) (fun K hK => ?_)
          go_simp
          refine (sameInts_any _ _ E E _ HV.out (hat.out _ (bnext hb hbW)) hlen9 hlen9).mono ?_
          rintro e wx12 ⟨rfl, hbel⟩
          rw [hself]
          refine hK.out _ _ hbel ?_
          clear hK K
          refine wpAnyH_mono (S' := fun w' => Below wx12.heap.size wx12 w') (fun w' h => bnext hbel h) _ _ _ _ ?_
          have hH := Below.refl wx12.heap.size wx12
          have hW := bnext hbW hbel
          clear hbel hbW hHeld
          have hHeld := hH
          have hbW := hW
          clear hH hW
          try simp only [Act.put, List.setIfInBounds_toArray, List.set_cons_zero, List.set_cons_succ]
          refine rtake 13 rfl (by rfl) (by kernel_rfl) (by kernel_rfl) (by kernel_rfl) (fun _ _ _ h => h) hHeld (fun wx hwx => by go_simp; try with_reducible rfl) ?_
          try simp only [Act.put, List.setIfInBounds_toArray, List.set_cons_zero, List.set_cons_succ]
          refine rtake 14 rfl (by rfl) (by kernel_rfl) (by kernel_rfl) (by kernel_rfl) (fun _ _ _ h => h) hHeld (fun wx hwx => by go_simp; try with_reducible rfl) ?_
          try simp only [Act.put, List.setIfInBounds_toArray, List.set_cons_zero, List.set_cons_succ]
          -- CALL 15: some 87 := Op.call { callee := Callee.value (Operand.func 17), args := #[], argTypes := #[] }
          refine rcall 15 rfl (by kernel_rfl) (by rfl) (fun K hK => ?_)
          go_simp
          refine (awake19_from HNew HPut _).mono ?_
          rintro e wx15 ⟨rfl, hbel⟩
          refine hK.out _ _ hbel ?_
          clear hK K
          refine wpAnyH_mono (S' := fun w' => Below wx15.heap.size wx15 w') (fun w' h => bnext hbel h) _ _ _ _ ?_
          have hH := Below.refl wx15.heap.size wx15
          have hW := bnext hbW hbel
          clear hbel hbW hHeld
          have hHeld := hH
          have hbW := hW
          clear hH hW
          try simp only [Act.put, List.setIfInBounds_toArray, List.set_cons_zero, List.set_cons_succ]
          refine rtake 16 rfl (by rfl) (by kernel_rfl) (by kernel_rfl) (by kernel_rfl) (fun _ _ _ h => h) hHeld (fun wx hwx => by go_simp; try with_reducible rfl) ?_
          try simp only [Act.put, List.setIfInBounds_toArray, List.set_cons_zero, List.set_cons_succ]
          refine rtake 17 rfl (by rfl) (by kernel_rfl) (by kernel_rfl) (by kernel_rfl) (fun _ _ _ h => h) hHeld (fun wx hwx => by go_simp; try with_reducible rfl) ?_
          try simp only [Act.put, List.setIfInBounds_toArray, List.set_cons_zero, List.set_cons_succ]
          refine wpAnyH_done (by kernel_rfl) ?_ _
          go_wp2_with fail
          go_ret
          exact ⟨rfl, bnext hb hbW⟩

theorem turned_at {zs : List Int} {p k n : Nat} (hn : zs.length = n) (hp : p < n) (hk : k < n) : (zs.reverse.drop p ++ zs.reverse.take p)[k]? = zs[n - 1 - (k + p) % n]? := by
  subst hn
  by_cases h : k + p < zs.length
  · rw [List.getElem?_append_left (by rw [List.length_drop, List.length_reverse]; omega), List.getElem?_drop, List.getElem?_reverse (by omega), Nat.mod_eq_of_lt h]
    congr 1
    omega
  · rw [List.getElem?_append_right (by rw [List.length_drop, List.length_reverse]; omega), List.length_drop, List.length_reverse, List.getElem?_take_of_lt (by omega), List.getElem?_reverse (by omega), Nat.mod_eq_sub_mod (by omega), Nat.mod_eq_of_lt (by omega)]
    congr 1
    omega
theorem turned_perm (zs : List Int) (p : Nat) : zs.Perm (zs.reverse.drop p ++ zs.reverse.take p) := by
  have h1 := List.perm_append_comm (l₁ := zs.reverse.drop p) (l₂ := zs.reverse.take p)
  rw [List.take_append_drop] at h1
  exact (h1.trans (List.reverse_perm zs)).symm
theorem putL_take {n k : Nat} {l : List Int} (hk : k < n) (hl : k < l.length) {z : Int} (hz : l[k] = z) : putL n (l.take k) z = l.take (k + 1) := by
  rw [putL_room (by rw [List.length_take]; omega), snoc_take hl hz]

set_option maxRecDepth 100000 in
set_option maxHeartbeats 8000000 in
theorem medianOrder_from {R : List Value → Nat × List Int → Prop} (HNew : CNewM R) (HPut : CPutM R) (HMed : CMedM R) (v : Value) (zs : List Int) (by' : Int) (w : World) (hI : Ints w v zs) :
    Calls Try.prog 7 #[v, .int .i64 by'] w fun e w' => e = .returned (.bool true) ∧ Below w.heap.size w w' := by
  obtain ⟨pk, cappk, rfl, hcappk, hmaxpk, hatpk⟩ := hI
  have ROWpk := hid fun h => IntsAt.rowM hatpk h
  clear hatpk
  unfold maxLen at hmaxpk
  go_enter Try.func7, Try.ntmps7
  obtain ⟨n, hn⟩ : ∃ n, zs.length = n := ⟨_, rfl⟩
  simp only [hn] at hcappk
  rw [hn]
  by_cases hlen : 1 ≤ n ∧ n ≤ 15
  case neg =>
    by_cases h1 : (n : Int) < 1
    · go_wp2_with fail
      refine (awake19_from HNew HPut _).mono ?_
      rintro e wz ⟨rfl, bz⟩
      go_wp2_with fail
      go_ret
      exact ⟨rfl, bz⟩
    · have h2 : 15 < (n : Int) := by omega
      go_wp2_with fail
      refine (awake19_from HNew HPut _).mono ?_
      rintro e wz ⟨rfl, bz⟩
      go_wp2_with fail
      go_ret
      exact ⟨rfl, bz⟩
  obtain ⟨hn1, hn15⟩ := hlen
  have d1 : decide ((n : Int) < 1) = false := decide_eq_false (by omega)
  have d2 : decide (15 < (n : Int)) = false := decide_eq_false (by omega)
  have d3 : decide (15 < n) = false := decide_eq_false (by omega)
  have d4 : decide (n < 1) = false := decide_eq_false (by omega)
  have d5 : (n == 0) = false := beq_false_of_ne (by omega)
  have d6 : decide (n = 0) = false := decide_eq_false (by omega)
  have hcl : clampN (n : Int) = n := by rw [clampN_at (by omega) (by omega)]; rfl
  go_wp2_with fail
  refine (HNew _ _).mono ?_
  rintro e w1 ⟨g1, rfl, hg1, F1, hb⟩
  have hlt1 := F1.lt
  go_wp2_with fail
  refine (HNew _ _).mono ?_
  rintro e w2 ⟨g2, rfl, hg2, F2, b2⟩
  replace F1 := F1.below b2
  have hne : g1 ≠ g2 := by omega
  have hg2' : w.heap.size ≤ g2 := Nat.le_trans hb.size hg2
  replace hb := bnext hb b2
  rw [hcl] at F1 F2
  clear b2 hlt1 hg2 hcl
  obtain ⟨p, hp⟩ : ∃ p : Nat, by' % (n : Int) = (p : Int) := ⟨(by' % (n : Int)).toNat, by have := Int.emod_nonneg by' (show (n : Int) ≠ 0 by omega); omega⟩
  have hpn : p < n := by have := Int.emod_lt_of_pos by' (show 0 < (n : Int) by omega); omega
  have HPL := hid fun wx => place_any by' (n : Int) wx (by omega) (by omega)
  rw [hp] at HPL
  clear hp
  have HE := hid fun k hk => turned_at (zs := zs) (k := k) hn hpn hk
  have HP := hid (turned_perm zs p)
  have hEl : (zs.reverse.drop p ++ zs.reverse.take p).length = n := by rw [List.length_append, List.length_drop, List.length_take, List.length_reverse]; omega
  generalize zs.reverse.drop p ++ zs.reverse.take p = E at *
  go_wp2_with fail
  go_loopw [7] (fun iv wr => ∃ k : Nat, k ≤ n ∧ iv = .int .i64 (k : Int) ∧ ObAt 43 R wr g1 (n, zs.take k) ∧ ObAt 43 R wr g2 (n, E.take k) ∧ Below w.heap.size w wr) (fun iv _ => n - (intOf iv).toNat)
  case atStart => exact ⟨0, Nat.zero_le _, rfl, F1, F2, hb⟩
  case round =>
    clear F1 F2 hb
    obtain ⟨k, hkz, rfl, F1, F2, hb⟩ := hrel
    by_cases hk : k < n
    · have hkI : (k : Int) < (n : Int) := by omega
      obtain ⟨b0, off, rfl, hc⟩ := ROWpk.out (by omega)
      obtain ⟨z, hz⟩ : ∃ z, zs[k] = z := ⟨_, rfl⟩
      have HCz := hid fun (wx : World) (h : Below w.heap.size w wx) => (hc wx h k (by omega)).trans (by rw [hz])
      obtain ⟨J, hJ⟩ : ∃ J, n - 1 - (k + p) % n = J := ⟨_, rfl⟩
      have hmod := Nat.mod_lt (k + p) (show 0 < n by omega)
      have hJn : J < n := by omega
      obtain ⟨y, hy⟩ : ∃ y, zs[J] = y := ⟨_, rfl⟩
      have HCy := hid fun (wx : World) (h : Below w.heap.size w wx) => (hc wx h J (by omega)).trans (by rw [hy])
      have hEk : E[k] = y := by
        have := HE.out k hk
        rw [hJ, List.getElem?_eq_getElem (by omega), List.getElem?_eq_getElem (by omega), hy] at this
        exact Option.some.inj this
      have e1 := hid (putL_take hk (by omega) hz)
      have e2 := hid (putL_take hk (by omega) hEk)
      have hr : ((k : Int) + (p : Int)).tmod (n : Int) = (((k + p) % n : Nat) : Int) := by rw [Int.tmod_eq_emod_of_nonneg (by omega)]; first | norm_cast | simp
      obtain ⟨q, hq⟩ : ∃ q, (k + p) % n = q := ⟨_, rfl⟩
      rw [hq] at hr hJ hmod
      have hw1 : IntKind.i64.wrap ((k : Int) + (p : Int)) = (k : Int) + (p : Int) := by rw [IntKind.wrap_i64]; omega
      have hw2 : IntKind.i64.wrap ((n : Int) - 1) = (n : Int) - 1 := by rw [IntKind.wrap_i64]; omega
      have hw3 : IntKind.i64.wrap ((n : Int) - 1 - (q : Int)) = (J : Int) := by rw [IntKind.wrap_i64]; omega
      have hw4 : (n : Int) - 1 - (q : Int) = (J : Int) := by omega
      have hJI : (J : Int) < (n : Int) := by omega
      clear hc hz hy hEk hq hJ hmod
      have hcell := HCz.out _ hb
      have i1 : InM (n, zs.take k) := ⟨hn1, hn15, by show (zs.take k).length ≤ n; rw [List.length_take]; omega⟩
      have i2 : InM (n, E.take k) := ⟨hn1, hn15, by show (E.take k).length ≤ n; rw [List.length_take]; omega⟩
      go_wp2_with fail
      clear hcell
      refine (HPut g1 (n) (zs.take k) (z) _ F1 (i1)).mono ?_
      rintro e w5 ⟨m, rfl, hm, F9, o9⟩
      replace F2 := F2.only o9 (Ne.symm hne)
      replace F1 := F9
      replace hb := Only.below hb o9 hg1 hb.size
      clear F9 o9
      rw [e1.out] at F1
      clear hm e1 i1
      have HF1 := hid F1
      go_wp2_with fail
      refine (HPL.out _).mono ?_
      rintro e w' ⟨rfl, rfl⟩
      have hcell := HCy.out _ hb
      go_wp2_with fail
      clear hcell
      refine (HPut g2 (n) (E.take k) (y) _ F2 (i2)).mono ?_
      rintro e w6 ⟨m, rfl, hm, F9, o9⟩
      replace F1 := F1.only o9 hne
      replace F2 := F9
      replace hb := Only.below hb o9 hg2' hb.size
      clear F9 o9
      rw [e2.out] at F2
      have HF2 := hid F2
      have HF3 := hid F1
      clear hm e2 i2
      go_wp2_with fail
      go_roundw
      case rel => exact ⟨k + 1, hk, by go_num, HF3.out, HF2.out, hb⟩
      case measure => simp [intOf]; omega
    · obtain rfl : k = n := by omega
      rw [List.take_of_length_le (by omega)] at F1 F2
      have i1 : InM (k, zs) := ⟨hn1, hn15, by show zs.length ≤ k; omega⟩
      have i2 : InM (k, E) := ⟨hn1, hn15, by show E.length ≤ k; omega⟩
      have hd1 : decide (0 < zs.length) = true := decide_eq_true (by omega)
      have hd2 : decide (0 < E.length) = true := decide_eq_true (by omega)
      go_wp2_with fail
      refine (HMed g1 k zs wr F1 i1).mono ?_
      rintro e w5 ⟨m1, rfl, hm1, b5⟩
      rw [hd1]
      replace hm1 := hm1.is (by omega)
      replace F2 := F2.below b5
      replace hb := bnext hb b5
      clear b5
      go_wp2_with fail
      refine (HMed g2 k E w5 F2 i2).mono ?_
      rintro e w6 ⟨m2, rfl, hm2, b5⟩
      rw [hd2]
      replace hm2 := hm2.is (by omega)
      replace hb := bnext hb b5
      clear b5
      obtain rfl : m1 = m2 := (hm1.perm HP.out).unique hm2
      clear hm1 hm2
      go_wp2_with fail
      refine (awake19_from HNew HPut _).mono ?_
      rintro e wz ⟨rfl, bz⟩
      go_wp2_with fail
      go_ret
      exact ⟨rfl, bnext hb bz⟩

end Go.Proofs.Ytcccjjghalajoaa
