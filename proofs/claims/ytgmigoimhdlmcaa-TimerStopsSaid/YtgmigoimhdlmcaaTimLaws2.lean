/- carillonlaw15: Plays, from contracts of the program's own (gen_timlaws.py). -/
import Derived.Test.YtgmigoimhdlmcaaTimLaws1
namespace Go.Proofs.Ytgmigoimhdlmcaa
open Go.RowKit Go.Proofs
set_option maxRecDepth 50000
set_option linter.unusedVariables false
set_option linter.unusedSimpArgs false

theorem intsP_below {w w' : World} {v : Value} {zs : List Int} (h : Ints w v zs) (hb : Below w.heap.size w w') : Ints w' v zs := by
  obtain ⟨p, cap, rfl, h1, h2, h3⟩ := h
  exact ⟨p, cap, rfl, h1, h2, h3.below hb⟩
theorem tickT_in {n : Int} (h : InT n) : InT (tickT n) := by
  unfold InT tickT at *
  split <;> omega
theorem clampT_inT (x : Int) : InT (clampT x) := by
  have := clampT_range x
  unfold InT
  omega

set_option maxHeartbeats 1000000 in
theorem refTickT_any (g : Nat) (n : Int) (w : World) (B : Box w g [.int .i64 n] 27) (hn : InT n) :
    Calls Try.prog 13 #[.pointer (some ⟨g, 0, none⟩)] w fun e w' => e = .returned (.bool (n == 1)) ∧ Box w' g [.int .i64 (tickT n)] 27 ∧ Only g w w' := by
  have hc := B.cell 0 _ rfl
  have hf := B.free 0
  by_cases h : n = 0
  · subst h
    go_enter Try.func13, Try.ntmps13
    go_wp2_with fail
    go_ret
    exact ⟨rfl, B, Only.refl _ _⟩
  · have h0 : (n == 0) = false := beq_false_of_ne h
    unfold InT at hn
    obtain ⟨hn0, hn1⟩ := hn
    have B2 := B.set 0 (.int .i64 (n - 1))
    have o2 := (Only.refl g w).cell 0 (.int .i64 (n - 1))
    rw [tickT_pos h]
    have hw : IntKind.i64.wrap (n - 1) = n - 1 := by rw [IntKind.wrap_i64]; omega
    go_enter Try.func13, Try.ntmps13
    go_upto_region 4 with fail
    generalize w.setCell ⟨g, 0, none⟩ (.int .i64 (n - 1)) = W at *
    have hc2 := B2.cell 0 _ rfl
    go_wp2_with fail
    go_ret
    exact ⟨ret_bool (by rw [Bool.eq_iff_iff, beq_iff_eq, beq_iff_eq]; omega), B2, o2⟩
set_option maxHeartbeats 1000000 in
theorem refStartT_any (g : Nat) (n m : Int) (w : World) (B : Box w g [.int .i64 n] 27) :
    Calls Try.prog 10 #[.pointer (some ⟨g, 0, none⟩), .int .i64 m] w fun e w' => e = .returned (.tuple #[]) ∧ Box w' g [.int .i64 (clampT m)] 27 ∧ Only g w w' := by
  have hc := B.cell 0 _ rfl
  have hf := B.free 0
  have B2 := B.set 0 (.int .i64 (clampT m))
  have o2 := (Only.refl g w).cell 0 (.int .i64 (clampT m))
  have hcl : min (max m 1) 1073741824 = clampT m := by
    unfold clampT
    split
    · omega
    · split <;> omega
  go_enter Try.func10, Try.ntmps10
  go_wp2_with fail
  all_goals
    go_end0
    first
      | (have e : clampT m = 1 := by unfold clampT; rw [if_pos (by omega)]
         rw [e] at B2 o2 ⊢; exact ⟨rfl, B2, o2⟩)
      | (have e : clampT m = 1073741824 := by unfold clampT; rw [if_neg (by omega), if_pos (by omega)]
         rw [e] at B2 o2 ⊢; exact ⟨rfl, B2, o2⟩)
      | (have e : clampT m = m := by unfold clampT; rw [if_neg (by omega), if_neg (by omega)]
         rw [e] at B2 o2 ⊢; exact ⟨rfl, B2, o2⟩)

set_option maxRecDepth 100000 in
set_option maxHeartbeats 8000000 in
theorem timerPlays_from {R : List Value → Int → Prop} (HNew : CNewT R) (HTick : CTickT R) (HStart : CStartT R) (HLeft : CLeftT R) (HStop : CStopT R) (v u : Value) (zs ss : List Int) (w : World) (hK : Ints w v zs) (hS : Ints w u ss) :
    Calls Try.prog 3 #[v, u] w fun e w' => e = .returned (.bool true) ∧ Below w.heap.size w w' := by
  have HK := hid fun (wx : World) (h : Below w.heap.size w wx) => intsP_below hK h
  have HS := hid fun (wx : World) (h : Below w.heap.size w wx) => intsP_below hS h
  obtain ⟨pk, capk, rfl, hcapk, hmaxk, -⟩ := id hK
  obtain ⟨ps, caps, rfl, hcaps, hmaxs, -⟩ := id hS
  clear hK hS
  unfold maxLen at hmaxk hmaxs
  go_enter Try.func3, Try.ntmps3
  go_wp2_with fail
  refine (HNew _).mono ?_
  rintro e w1 ⟨gt, rfl, hg, FA, hb⟩
  have hgl := FA.lt
  have NB := Box.new w1 [.int .i64 0] 27
  have nb := bnew w1 (Obj.cells #[.int .i64 0] 27)
  go_upto_region 3 with fail
  generalize w1.alloc (Obj.cells #[.int .i64 0] 27) = W1 at *
  have hs1 := hb.size
  replace FA := FA.below nb
  replace hb := bnext hb nb
  obtain ⟨gr, hgr⟩ : ∃ g, w1.heap.size = g := ⟨_, rfl⟩
  simp only [hgr] at *
  have hne : gt ≠ gr := by omega
  have hgr0 : w.heap.size ≤ gr := by omega
  clear hgr nb hgl hs1
  rename Box W1 gr _ 27 => B
  go_wp2_with fail
  go_loopw [7] (fun iv wr => ∃ (k : Nat) (N : Int), k ≤ zs.length ∧ k ≤ 200 ∧ iv = .int .i64 (k : Int) ∧ InT N ∧ TAt R wr gt N ∧ Box wr gr [.int .i64 N] 27 ∧ Below w.heap.size w wr) (fun iv _ => 200 - (intOf iv).toNat)
  case atStart => exact ⟨0, 0, Nat.zero_le _, by decide, rfl, by unfold InT; decide, FA, B, hb⟩
  case round =>
    obtain ⟨k, n, hkz, hk2, rfl, hn, FA, B, hb⟩ := hrel
    by_cases hlt : k < zs.length ∧ k < 200
    · obtain ⟨hk, hk200⟩ := hlt
      have hkI : (k : Int) < (zs.length : Int) := by omega
      have hk2I : (k : Int) < 200 := by omega
      obtain ⟨p', cap', hpe, -, -, hat⟩ := HK.out wr hb
      cases hpe
      obtain ⟨b0, off, rfl, hbl, hc⟩ := hat.pos (by omega)
      have hcell := hc k hk
      clear hc hat
      generalize zs[k] = z at *
      go_wp2_with fail
      refine (place_in z 4 _ (by decide) (by decide)).mono ?_
      rintro e w' ⟨y, rfl, hy0, hy1, -, rfl⟩
      clear hcell
      rcases (by omega : y = 0 ∨ y = 1 ∨ y = 2 ∨ y = 3) with rfl | rfl | rfl | rfl
      · by_cases hks : k < ss.length
        · have hksI : (k : Int) < (ss.length : Int) := by omega
          obtain ⟨p', cap', hpe, -, -, hat⟩ := HS.out wr hb
          cases hpe
          obtain ⟨b1, off1, rfl, hbl1, hc⟩ := hat.pos (by omega)
          have hcell := hc k hks
          clear hc hat
          generalize ss[k] = m at *
          go_wp2_with fail
          refine (HStart gt n m wr FA).mono ?_
          rintro e w5 ⟨rfl, FA2, o2⟩
          replace FA := FA2
          replace B := B.only o2 (Ne.symm hne)
          replace hb := Only.below hb o2 hg hb.size
          clear FA2 o2
          go_wp2_with fail
          refine (refStartT_any gr n m w5 B).mono ?_
          rintro e w6 ⟨rfl, B2, o2⟩
          replace FA := FA.only o2 hne
          replace hb := Only.below hb o2 hgr0 hb.size
          replace B := B2
          clear B2 o2
          have hN := clampT_inT m
          generalize clampT m = N at *
          go_upto_region 20 with fail
          refine wp_region_held_drew (S := fun w' => Below w6.drew.heap.size w6.drew w') (by kernel_rfl) (Below.refl _ _) ?_
          intro hHeld
          have bd := Below.drew (Below.refl w6.heap.size w6)
          replace FA := FA.below bd
          replace B := B.below bd
          replace hb := bnext hb bd
          clear bd
          generalize w6.drew = wd at *
          refine rtake 0 rfl (by rfl) (by kernel_rfl) (by kernel_rfl) (by kernel_rfl) (fun _ _ _ h => h) hHeld (fun wx hwx => by go_simp; try with_reducible rfl) ?_
          try simp only [Act.put, List.setIfInBounds_toArray, List.set_cons_zero, List.set_cons_succ]
          refine rtake 2 rfl (by rfl) (by kernel_rfl) (by kernel_rfl) (by kernel_rfl) (fun _ _ _ h => h) hHeld (fun wx hwx => by go_simp; try with_reducible rfl) ?_
          try simp only [Act.put, List.setIfInBounds_toArray, List.set_cons_zero, List.set_cons_succ]
          refine rtake 3 rfl (by rfl) (by kernel_rfl) (by kernel_rfl) (by kernel_rfl) (fun _ _ _ h => h) hHeld (fun wx hwx => by go_simp; try with_reducible rfl) ?_
          try simp only [Act.put, List.setIfInBounds_toArray, List.set_cons_zero, List.set_cons_succ]
          refine rtake 4 rfl (by rfl) (by kernel_rfl) (by kernel_rfl) (by kernel_rfl) (fun _ _ _ h => h) hHeld (fun wx hwx => by go_simp; try with_reducible rfl) ?_
          try simp only [Act.put, List.setIfInBounds_toArray, List.set_cons_zero, List.set_cons_succ]
          refine rtake 5 rfl (by rfl) (by kernel_rfl) (by kernel_rfl) (by kernel_rfl) (fun _ _ _ h => h) hHeld (fun wx hwx => by have hcx := (B.below hwx).cell 0 _ rfl; go_simp; try with_reducible rfl) ?_
          try simp only [Act.put, List.setIfInBounds_toArray, List.set_cons_zero, List.set_cons_succ]
          refine rcall 1 rfl (by kernel_rfl) (by rfl) (fun K hK => ?_)
          go_simp
          refine (HLeft gt N wd FA).mono ?_
          rintro e w9 ⟨rfl, b9⟩
          refine hK.out _ _ b9 ?_
          clear hK K
          refine wpAnyH_mono (S' := fun w' => Below w9.heap.size w9 w') (fun w' h => bnext b9 h) _ _ _ _ ?_
          replace FA := FA.below b9
          replace B := B.below b9
          replace hb := bnext hb b9
          clear hHeld b9
          have hHeld := Below.refl w9.heap.size w9
          try simp only [Act.put, List.setIfInBounds_toArray, List.set_cons_zero, List.set_cons_succ]
          refine rtake 6 rfl (by rfl) (by kernel_rfl) (by kernel_rfl) (by kernel_rfl) (fun _ _ _ h => h) hHeld (fun wx hwx => by go_simp; try with_reducible rfl) ?_
          try simp only [Act.put, List.setIfInBounds_toArray, List.set_cons_zero, List.set_cons_succ]
          refine wpAnyH_done (by kernel_rfl) ?_ _
          have HN := hid hN
          go_wp2_with fail
          go_roundw
          case rel => exact ⟨k + 1, N, by omega, by omega, by go_num, HN.out, FA, B, hb⟩
          case measure => simp [intOf]; omega
        · have hksI : ¬ (k : Int) < (ss.length : Int) := by omega
          go_wp2_with fail
          refine (HStart gt n 0 wr FA).mono ?_
          rintro e w5 ⟨rfl, FA2, o2⟩
          replace FA := FA2
          replace B := B.only o2 (Ne.symm hne)
          replace hb := Only.below hb o2 hg hb.size
          clear FA2 o2
          go_wp2_with fail
          refine (refStartT_any gr n 0 w5 B).mono ?_
          rintro e w6 ⟨rfl, B2, o2⟩
          replace FA := FA.only o2 hne
          replace hb := Only.below hb o2 hgr0 hb.size
          replace B := B2
          clear B2 o2
          have hN := clampT_inT 0
          generalize clampT 0 = N at *
          go_upto_region 20 with fail
          refine wp_region_held_drew (S := fun w' => Below w6.drew.heap.size w6.drew w') (by kernel_rfl) (Below.refl _ _) ?_
          intro hHeld
          have bd := Below.drew (Below.refl w6.heap.size w6)
          replace FA := FA.below bd
          replace B := B.below bd
          replace hb := bnext hb bd
          clear bd
          generalize w6.drew = wd at *
          refine rtake 0 rfl (by rfl) (by kernel_rfl) (by kernel_rfl) (by kernel_rfl) (fun _ _ _ h => h) hHeld (fun wx hwx => by go_simp; try with_reducible rfl) ?_
          try simp only [Act.put, List.setIfInBounds_toArray, List.set_cons_zero, List.set_cons_succ]
          refine rtake 2 rfl (by rfl) (by kernel_rfl) (by kernel_rfl) (by kernel_rfl) (fun _ _ _ h => h) hHeld (fun wx hwx => by go_simp; try with_reducible rfl) ?_
          try simp only [Act.put, List.setIfInBounds_toArray, List.set_cons_zero, List.set_cons_succ]
          refine rtake 3 rfl (by rfl) (by kernel_rfl) (by kernel_rfl) (by kernel_rfl) (fun _ _ _ h => h) hHeld (fun wx hwx => by go_simp; try with_reducible rfl) ?_
          try simp only [Act.put, List.setIfInBounds_toArray, List.set_cons_zero, List.set_cons_succ]
          refine rtake 4 rfl (by rfl) (by kernel_rfl) (by kernel_rfl) (by kernel_rfl) (fun _ _ _ h => h) hHeld (fun wx hwx => by go_simp; try with_reducible rfl) ?_
          try simp only [Act.put, List.setIfInBounds_toArray, List.set_cons_zero, List.set_cons_succ]
          refine rtake 5 rfl (by rfl) (by kernel_rfl) (by kernel_rfl) (by kernel_rfl) (fun _ _ _ h => h) hHeld (fun wx hwx => by have hcx := (B.below hwx).cell 0 _ rfl; go_simp; try with_reducible rfl) ?_
          try simp only [Act.put, List.setIfInBounds_toArray, List.set_cons_zero, List.set_cons_succ]
          refine rcall 1 rfl (by kernel_rfl) (by rfl) (fun K hK => ?_)
          go_simp
          refine (HLeft gt N wd FA).mono ?_
          rintro e w9 ⟨rfl, b9⟩
          refine hK.out _ _ b9 ?_
          clear hK K
          refine wpAnyH_mono (S' := fun w' => Below w9.heap.size w9 w') (fun w' h => bnext b9 h) _ _ _ _ ?_
          replace FA := FA.below b9
          replace B := B.below b9
          replace hb := bnext hb b9
          clear hHeld b9
          have hHeld := Below.refl w9.heap.size w9
          try simp only [Act.put, List.setIfInBounds_toArray, List.set_cons_zero, List.set_cons_succ]
          refine rtake 6 rfl (by rfl) (by kernel_rfl) (by kernel_rfl) (by kernel_rfl) (fun _ _ _ h => h) hHeld (fun wx hwx => by go_simp; try with_reducible rfl) ?_
          try simp only [Act.put, List.setIfInBounds_toArray, List.set_cons_zero, List.set_cons_succ]
          refine wpAnyH_done (by kernel_rfl) ?_ _
          have HN := hid hN
          go_wp2_with fail
          go_roundw
          case rel => exact ⟨k + 1, N, by omega, by omega, by go_num, HN.out, FA, B, hb⟩
          case measure => simp [intOf]; omega
      · go_wp2_with fail
        refine (HStop gt n wr FA).mono ?_
        rintro e w5 ⟨rfl, FA2, o2⟩
        replace FA := FA2
        replace B := B.only o2 (Ne.symm hne)
        replace hb := Only.below hb o2 hg hb.size
        clear FA2 o2
        have hcell := B.cell 0 _ rfl
        have hfree := B.free 0
        have hset : Box (w5.setCell ⟨gr, 0, none⟩ (.int .i64 0)) gr [.int .i64 0] 27 := B.set 0 (.int .i64 0)
        have hFs := FA.setCell hne 0 (.int .i64 0)
        have hbs := hb.setCell (p := ⟨gr, 0, none⟩) hgr0 (.int .i64 0)
        go_upto_region 20 with fail
        generalize w5.setCell ⟨gr, 0, none⟩ (.int .i64 0) = wr at *
        replace B := hset
        replace FA := hFs
        replace hb := hbs
        clear hcell hfree hset hFs hbs
        obtain ⟨N, hNe⟩ : ∃ N : Int, 0 = N := ⟨_, rfl⟩
        have hN : InT N := by rw [← hNe]; unfold InT; decide
        rw [hNe] at FA B
        clear hNe
        refine wp_region_held_drew (S := fun w' => Below wr.drew.heap.size wr.drew w') (by kernel_rfl) (Below.refl _ _) ?_
        intro hHeld
        have bd := Below.drew (Below.refl wr.heap.size wr)
        replace FA := FA.below bd
        replace B := B.below bd
        replace hb := bnext hb bd
        clear bd
        generalize wr.drew = wd at *
        refine rtake 0 rfl (by rfl) (by kernel_rfl) (by kernel_rfl) (by kernel_rfl) (fun _ _ _ h => h) hHeld (fun wx hwx => by go_simp; try with_reducible rfl) ?_
        try simp only [Act.put, List.setIfInBounds_toArray, List.set_cons_zero, List.set_cons_succ]
        refine rtake 2 rfl (by rfl) (by kernel_rfl) (by kernel_rfl) (by kernel_rfl) (fun _ _ _ h => h) hHeld (fun wx hwx => by go_simp; try with_reducible rfl) ?_
        try simp only [Act.put, List.setIfInBounds_toArray, List.set_cons_zero, List.set_cons_succ]
        refine rtake 3 rfl (by rfl) (by kernel_rfl) (by kernel_rfl) (by kernel_rfl) (fun _ _ _ h => h) hHeld (fun wx hwx => by go_simp; try with_reducible rfl) ?_
        try simp only [Act.put, List.setIfInBounds_toArray, List.set_cons_zero, List.set_cons_succ]
        refine rtake 4 rfl (by rfl) (by kernel_rfl) (by kernel_rfl) (by kernel_rfl) (fun _ _ _ h => h) hHeld (fun wx hwx => by go_simp; try with_reducible rfl) ?_
        try simp only [Act.put, List.setIfInBounds_toArray, List.set_cons_zero, List.set_cons_succ]
        refine rtake 5 rfl (by rfl) (by kernel_rfl) (by kernel_rfl) (by kernel_rfl) (fun _ _ _ h => h) hHeld (fun wx hwx => by have hcx := (B.below hwx).cell 0 _ rfl; go_simp; try with_reducible rfl) ?_
        try simp only [Act.put, List.setIfInBounds_toArray, List.set_cons_zero, List.set_cons_succ]
        refine rcall 1 rfl (by kernel_rfl) (by rfl) (fun K hK => ?_)
        go_simp
        refine (HLeft gt N wd FA).mono ?_
        rintro e w9 ⟨rfl, b9⟩
        refine hK.out _ _ b9 ?_
        clear hK K
        refine wpAnyH_mono (S' := fun w' => Below w9.heap.size w9 w') (fun w' h => bnext b9 h) _ _ _ _ ?_
        replace FA := FA.below b9
        replace B := B.below b9
        replace hb := bnext hb b9
        clear hHeld b9
        have hHeld := Below.refl w9.heap.size w9
        try simp only [Act.put, List.setIfInBounds_toArray, List.set_cons_zero, List.set_cons_succ]
        refine rtake 6 rfl (by rfl) (by kernel_rfl) (by kernel_rfl) (by kernel_rfl) (fun _ _ _ h => h) hHeld (fun wx hwx => by go_simp; try with_reducible rfl) ?_
        try simp only [Act.put, List.setIfInBounds_toArray, List.set_cons_zero, List.set_cons_succ]
        refine wpAnyH_done (by kernel_rfl) ?_ _
        have HN := hid hN
        go_wp2_with fail
        go_roundw
        case rel => exact ⟨k + 1, N, by omega, by omega, by go_num, HN.out, FA, B, hb⟩
        case measure => simp [intOf]; omega
      · skip
        go_wp2_with fail
        refine (HTick gt n wr FA hn).mono ?_
        rintro e w5 ⟨rfl, FA2, o2⟩
        replace FA := FA2
        replace B := B.only o2 (Ne.symm hne)
        replace hb := Only.below hb o2 hg hb.size
        clear FA2 o2
        go_wp2_with fail
        refine (refTickT_any gr n w5 B hn).mono ?_
        rintro e w6 ⟨rfl, B2, o2⟩
        replace FA := FA.only o2 hne
        replace hb := Only.below hb o2 hgr0 hb.size
        replace B := B2
        clear B2 o2
        have hN := tickT_in hn
        generalize tickT n = N at *
        go_upto_region 20 with fail
        refine wp_region_held_drew (S := fun w' => Below w6.drew.heap.size w6.drew w') (by kernel_rfl) (Below.refl _ _) ?_
        intro hHeld
        have bd := Below.drew (Below.refl w6.heap.size w6)
        replace FA := FA.below bd
        replace B := B.below bd
        replace hb := bnext hb bd
        clear bd
        generalize w6.drew = wd at *
        refine rtake 0 rfl (by rfl) (by kernel_rfl) (by kernel_rfl) (by kernel_rfl) (fun _ _ _ h => h) hHeld (fun wx hwx => by go_simp; try with_reducible rfl) ?_
        try simp only [Act.put, List.setIfInBounds_toArray, List.set_cons_zero, List.set_cons_succ]
        refine rtake 2 rfl (by rfl) (by kernel_rfl) (by kernel_rfl) (by kernel_rfl) (fun _ _ _ h => h) hHeld (fun wx hwx => by go_simp; try with_reducible rfl) ?_
        try simp only [Act.put, List.setIfInBounds_toArray, List.set_cons_zero, List.set_cons_succ]
        refine rtake 3 rfl (by rfl) (by kernel_rfl) (by kernel_rfl) (by kernel_rfl) (fun _ _ _ h => h) hHeld (fun wx hwx => by go_simp; try with_reducible rfl) ?_
        try simp only [Act.put, List.setIfInBounds_toArray, List.set_cons_zero, List.set_cons_succ]
        refine rtake 4 rfl (by rfl) (by kernel_rfl) (by kernel_rfl) (by kernel_rfl) (fun _ _ _ h => h) hHeld (fun wx hwx => by go_simp; try with_reducible rfl) ?_
        try simp only [Act.put, List.setIfInBounds_toArray, List.set_cons_zero, List.set_cons_succ]
        refine rtake 5 rfl (by rfl) (by kernel_rfl) (by kernel_rfl) (by kernel_rfl) (fun _ _ _ h => h) hHeld (fun wx hwx => by have hcx := (B.below hwx).cell 0 _ rfl; go_simp; try with_reducible rfl) ?_
        try simp only [Act.put, List.setIfInBounds_toArray, List.set_cons_zero, List.set_cons_succ]
        refine rcall 1 rfl (by kernel_rfl) (by rfl) (fun K hK => ?_)
        go_simp
        refine (HLeft gt N wd FA).mono ?_
        rintro e w9 ⟨rfl, b9⟩
        refine hK.out _ _ b9 ?_
        clear hK K
        refine wpAnyH_mono (S' := fun w' => Below w9.heap.size w9 w') (fun w' h => bnext b9 h) _ _ _ _ ?_
        replace FA := FA.below b9
        replace B := B.below b9
        replace hb := bnext hb b9
        clear hHeld b9
        have hHeld := Below.refl w9.heap.size w9
        try simp only [Act.put, List.setIfInBounds_toArray, List.set_cons_zero, List.set_cons_succ]
        refine rtake 6 rfl (by rfl) (by kernel_rfl) (by kernel_rfl) (by kernel_rfl) (fun _ _ _ h => h) hHeld (fun wx hwx => by go_simp; try with_reducible rfl) ?_
        try simp only [Act.put, List.setIfInBounds_toArray, List.set_cons_zero, List.set_cons_succ]
        refine wpAnyH_done (by kernel_rfl) ?_ _
        have HN := hid hN
        go_wp2_with fail
        go_roundw
        case rel => exact ⟨k + 1, N, by omega, by omega, by go_num, HN.out, FA, B, hb⟩
        case measure => simp [intOf]; omega
      · skip
        go_wp2_with fail
        refine (HTick gt n wr FA hn).mono ?_
        rintro e w5 ⟨rfl, FA2, o2⟩
        replace FA := FA2
        replace B := B.only o2 (Ne.symm hne)
        replace hb := Only.below hb o2 hg hb.size
        clear FA2 o2
        go_wp2_with fail
        refine (refTickT_any gr n w5 B hn).mono ?_
        rintro e w6 ⟨rfl, B2, o2⟩
        replace FA := FA.only o2 hne
        replace hb := Only.below hb o2 hgr0 hb.size
        replace B := B2
        clear B2 o2
        have hN := tickT_in hn
        generalize tickT n = N at *
        go_upto_region 20 with fail
        refine wp_region_held_drew (S := fun w' => Below w6.drew.heap.size w6.drew w') (by kernel_rfl) (Below.refl _ _) ?_
        intro hHeld
        have bd := Below.drew (Below.refl w6.heap.size w6)
        replace FA := FA.below bd
        replace B := B.below bd
        replace hb := bnext hb bd
        clear bd
        generalize w6.drew = wd at *
        refine rtake 0 rfl (by rfl) (by kernel_rfl) (by kernel_rfl) (by kernel_rfl) (fun _ _ _ h => h) hHeld (fun wx hwx => by go_simp; try with_reducible rfl) ?_
        try simp only [Act.put, List.setIfInBounds_toArray, List.set_cons_zero, List.set_cons_succ]
        refine rtake 2 rfl (by rfl) (by kernel_rfl) (by kernel_rfl) (by kernel_rfl) (fun _ _ _ h => h) hHeld (fun wx hwx => by go_simp; try with_reducible rfl) ?_
        try simp only [Act.put, List.setIfInBounds_toArray, List.set_cons_zero, List.set_cons_succ]
        refine rtake 3 rfl (by rfl) (by kernel_rfl) (by kernel_rfl) (by kernel_rfl) (fun _ _ _ h => h) hHeld (fun wx hwx => by go_simp; try with_reducible rfl) ?_
        try simp only [Act.put, List.setIfInBounds_toArray, List.set_cons_zero, List.set_cons_succ]
        refine rtake 4 rfl (by rfl) (by kernel_rfl) (by kernel_rfl) (by kernel_rfl) (fun _ _ _ h => h) hHeld (fun wx hwx => by go_simp; try with_reducible rfl) ?_
        try simp only [Act.put, List.setIfInBounds_toArray, List.set_cons_zero, List.set_cons_succ]
        refine rtake 5 rfl (by rfl) (by kernel_rfl) (by kernel_rfl) (by kernel_rfl) (fun _ _ _ h => h) hHeld (fun wx hwx => by have hcx := (B.below hwx).cell 0 _ rfl; go_simp; try with_reducible rfl) ?_
        try simp only [Act.put, List.setIfInBounds_toArray, List.set_cons_zero, List.set_cons_succ]
        refine rcall 1 rfl (by kernel_rfl) (by rfl) (fun K hK => ?_)
        go_simp
        refine (HLeft gt N wd FA).mono ?_
        rintro e w9 ⟨rfl, b9⟩
        refine hK.out _ _ b9 ?_
        clear hK K
        refine wpAnyH_mono (S' := fun w' => Below w9.heap.size w9 w') (fun w' h => bnext b9 h) _ _ _ _ ?_
        replace FA := FA.below b9
        replace B := B.below b9
        replace hb := bnext hb b9
        clear hHeld b9
        have hHeld := Below.refl w9.heap.size w9
        try simp only [Act.put, List.setIfInBounds_toArray, List.set_cons_zero, List.set_cons_succ]
        refine rtake 6 rfl (by rfl) (by kernel_rfl) (by kernel_rfl) (by kernel_rfl) (fun _ _ _ h => h) hHeld (fun wx hwx => by go_simp; try with_reducible rfl) ?_
        try simp only [Act.put, List.setIfInBounds_toArray, List.set_cons_zero, List.set_cons_succ]
        refine wpAnyH_done (by kernel_rfl) ?_ _
        have HN := hid hN
        go_wp2_with fail
        go_roundw
        case rel => exact ⟨k + 1, N, by omega, by omega, by go_num, HN.out, FA, B, hb⟩
        case measure => simp [intOf]; omega
    · go_wp2_with fail
      all_goals
        refine (awake15_from HNew HTick HStart _).mono ?_
        rintro e wz ⟨rfl, bz⟩
        go_wp2_with fail
        go_ret
        exact ⟨rfl, bnext hb bz⟩

end Go.Proofs.Ytgmigoimhdlmcaa
