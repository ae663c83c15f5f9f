/- carillonlaw19: Plays, from contracts of the program's own and the document's filter (gen_medref.py). -/
import Derived.Test.YtcccjjghalajoaaMedRef
import Derived.BigQuiet
namespace Go.Proofs.Ytcccjjghalajoaa
open Go.RowKit Go.Proofs
set_option maxRecDepth 50000
set_option linter.unusedVariables false
set_option linter.unusedSimpArgs false

set_option maxRecDepth 100000 in
set_option maxHeartbeats 8000000 in
theorem refNew_any19 (x : Int) (w : World) : Calls Try.prog 9 #[.int .i64 x] w fun e w' => ∃ g, e = .returned (.pointer (some ⟨g, 0, none⟩)) ∧ w.heap.size ≤ g ∧ Box w' g [.int .i64 (clampN x : Int), .slice none 0 0] 28 ∧ Below w.heap.size w w' := by
  have N1 := fun (c : Int) => Box.new w [.int .i64 c, .slice none 0 0] 28
  have Z1 := fun (c : Int) => bnew w (Obj.cells #[.int .i64 c, .slice none 0 0] 28)
  by_cases h1 : x < 1
  · have e1 : clampN x = 1 := if_pos h1
    rw [e1]
    clear e1
    go_enter Try.func9, Try.ntmps9
    go_wp2_with fail
    all_goals
      go_ret
      exact ⟨w.heap.size, rfl, Nat.le_refl _, N1 1, Z1 1⟩
  · by_cases h2 : 15 < x
    · have e1 : clampN x = 15 := by unfold clampN; rw [if_neg h1, if_pos h2]
      rw [e1]
      clear e1
      go_enter Try.func9, Try.ntmps9
      go_wp2_with fail
      all_goals
        go_ret
        exact ⟨w.heap.size, rfl, Nat.le_refl _, N1 15, Z1 15⟩
    · have e1 : (clampN x : Int) = x := by unfold clampN; rw [if_neg h1, if_neg h2]; omega
      rw [e1]
      clear e1
      go_enter Try.func9, Try.ntmps9
      go_wp2_with fail
      all_goals
        go_ret
        first
          | exact ⟨w.heap.size, rfl, Nat.le_refl _, N1 x, Z1 x⟩
          | (obtain rfl : x = 1 := by omega
             exact ⟨w.heap.size, rfl, Nat.le_refl _, N1 1, Z1 1⟩)
          | (obtain rfl : x = 15 := by omega
             exact ⟨w.heap.size, rfl, Nat.le_refl _, N1 15, Z1 15⟩)

set_option maxRecDepth 100000 in
set_option maxHeartbeats 8000000 in
theorem medianPlays_from {R : List Value → Nat × List Int → Prop} (HNew : CNewM R) (HPut : CPutM R) (HMed : CMedM R) (HVal : CValM R) (HClr : CClrM R) (n : Int) (va : Value) (zs : List Int) (cl : Int) (w : World) (hI : Ints w va zs) :
    Calls Try.prog 3 #[.int .i64 n, va, .int .i64 cl] w fun e w' => e = .returned (.bool true) ∧ Below w.heap.size w w' := by
  obtain ⟨pk, cappk, rfl, hcappk, hmaxpk, hatpk⟩ := hI
  have ROWpk := hid fun h => IntsAt.rowM hatpk h
  clear hatpk
  unfold maxLen at hmaxpk
  go_enter Try.func3, Try.ntmps3
  go_wp2_with fail
  refine (HNew n w).mono ?_
  rintro e w1 ⟨gt, rfl, hg, F, hb⟩
  have hlt1 := F.lt
  go_wp2_with fail
  refine (refNew_any19 n w1).mono ?_
  rintro e w2 ⟨gr, rfl, hgr0, B, b2⟩
  replace F := F.below b2
  have hgt2 : gt < gr := by omega
  have hne : gt ≠ gr := by omega
  have hgr : w.heap.size ≤ gr := Nat.le_trans hb.size hgr0
  replace hb := bnext hb b2
  obtain ⟨M, hM⟩ : ∃ M, w2.heap.size = M := ⟨_, rfl⟩
  have hgrM : gr < M := by rw [← hM]; exact B.lt
  have hM2 : M ≤ w2.heap.size := by omega
  have hgM : gt < M := by omega
  have rd : RdM w2 M (.slice none 0 0) [] := ⟨none, 0, rfl, Nat.le_refl _, Nat.zero_le _, .inl rfl⟩
  have hin0 := InM.new n
  have hN0 := clampN_in n
  generalize clampN n = N at *
  clear hM b2 hlt1 hgt2 hgr0
  go_wp2_with fail
  go_loopw [9] (fun iv wr => ∃ (k : Nat) (L : List Int) (v : Value), k ≤ zs.length ∧ iv = .int .i64 (k : Int) ∧ InM (N, L) ∧ ObAt 43 R wr gt (N, L) ∧ Box wr gr [.int .i64 (N : Int), v] 28 ∧ RdM wr M v L ∧ M ≤ wr.heap.size ∧ Below w.heap.size w wr) (fun iv _ => zs.length - (intOf iv).toNat)
  case atStart => exact ⟨0, [], _, Nat.zero_le _, rfl, hin0, F, B, rd, hM2, hb⟩
  case round =>
    clear F B rd hM2 hb hin0
    obtain ⟨k, L, v, hkz, rfl, hin, F, B, rd, hM2, hb⟩ := hrel
    by_cases hlt : k < zs.length ∧ k < 100
    · obtain ⟨hk, hk100⟩ := hlt
      have hkI : (k : Int) < (zs.length : Int) := by omega
      have hk2I : (k : Int) < 100 := by omega
      obtain ⟨b0, off, rfl, hc⟩ := ROWpk.out (by omega)
      obtain ⟨z, hz⟩ : ∃ z, zs[k] = z := ⟨_, rfl⟩
      have HCz := hid fun (wx : World) (h : Below w.heap.size w wx) => (hc wx h k hk).trans (by rw [hz])
      clear hc hz
      by_cases hkc : (k : Int) = cl
      · have hbe : ((k : Int) == cl) = true := beq_iff_eq.2 hkc
        clear hkc
        go_wp2_with fail
        refine (HClr gt N L wr F hin).mono ?_
        rintro e w5 ⟨rfl, F2, o2⟩
        replace B := B.only o2 (Ne.symm hne)
        replace hM2 := Nat.le_trans hM2 o2.size
        replace hb := Only.below hb o2 hg hb.size
        have hc1 := B.cell 1 _ rfl
        have hf1 := B.free 1
        have hcx := B.cell 0 _ rfl
        replace F := F2
        clear F2 o2 rd hin
        have hin : InM (N, []) := ⟨hN0.1, hN0.2, Nat.zero_le _⟩
        go_upto_region 11 with fail
        have B2 : Box (w5.setCell ⟨gr, 1, none⟩ (.slice none 0 0)) gr [.int .i64 (N : Int), .slice none 0 0] 28 := B.set 1 (.slice none 0 0)
        have F2 := F.setCell hne 1 (.slice none 0 0)
        have hb2 := hb.setCell (p := ⟨gr, 1, none⟩) hgr (.slice none 0 0)
        have rd : RdM (w5.setCell ⟨gr, 1, none⟩ (.slice none 0 0)) M (.slice none 0 0) [] := ⟨none, 0, rfl, Nat.le_refl _, Nat.zero_le _, .inl rfl⟩
        have hM3 : M ≤ (w5.setCell ⟨gr, 1, none⟩ (.slice none 0 0)).heap.size := by
          have := ((Only.refl gr w5).cell 1 (.slice none 0 0)).size
          omega
        generalize w5.setCell ⟨gr, 1, none⟩ (.slice none 0 0) = wq at *
        obtain ⟨v, hv⟩ : ∃ v : Value, .slice none 0 0 = v := ⟨_, rfl⟩
        rw [hv] at rd B2
        obtain ⟨L, hL⟩ : ∃ L : List Int, [] = L := ⟨_, rfl⟩
        rw [hL] at rd F2 hin
        clear hc1 hf1 hcx F B hb hM2 hv hL
        rename ObAt 43 R wq gt (N, L) => F
        rename Box wq gr _ 28 => B
        rename Below w.heap.size w wq => hb
        rename M ≤ wq.heap.size => hM2
        refine wp_region_held_drew (S := fun w' => Below w.heap.size w w') (by kernel_rfl) (bnext hb (Below.drew (Below.refl wq.heap.size wq))) ?_
        intro hHeld
        have bd := Below.drew (Below.refl wq.heap.size wq)
        replace F := F.below bd
        replace B := B.below bd
        replace rd := rd.below bd
        replace hM2 := Nat.le_trans hM2 bd.size
        clear bd hb
        generalize wq.drew = wd at *
        refine rtake 0 rfl (by rfl) (by kernel_rfl) (by kernel_rfl) (by kernel_rfl) (fun _ _ _ h => h) hHeld (fun wx hwx => by go_simp; try with_reducible rfl) ?_
        try simp only [Act.put, List.setIfInBounds_toArray, List.set_cons_zero, List.set_cons_succ]
        refine rtake 1 rfl (by rfl) (by kernel_rfl) (by kernel_rfl) (by kernel_rfl) (fun _ _ _ h => h) hHeld (fun wx hwx => by go_simp; try with_reducible rfl) ?_
        try simp only [Act.put, List.setIfInBounds_toArray, List.set_cons_zero, List.set_cons_succ]
        refine rtake 2 rfl (by rfl) (by kernel_rfl) (by kernel_rfl) (by kernel_rfl) (fun _ _ _ h => h) hHeld (fun wx hwx => by go_simp; try with_reducible rfl) ?_
        try simp only [Act.put, List.setIfInBounds_toArray, List.set_cons_zero, List.set_cons_succ]
        refine rtake 3 rfl (by rfl) (by kernel_rfl) (by kernel_rfl) (by kernel_rfl) (fun _ _ _ h => h) hHeld (fun wx hwx => by go_simp; try with_reducible rfl) ?_
        try simp only [Act.put, List.setIfInBounds_toArray, List.set_cons_zero, List.set_cons_succ]
        refine rtake 4 rfl (by rfl) (by kernel_rfl) (by kernel_rfl) (by kernel_rfl) (fun _ _ _ h => h) hHeld (fun wx hwx => by have hcz := HCz.out _ hwx; go_simp; try with_reducible rfl) ?_
        try simp only [Act.put, List.setIfInBounds_toArray, List.set_cons_zero, List.set_cons_succ]
        refine rtake 6 rfl (by rfl) (by kernel_rfl) (by kernel_rfl) (by kernel_rfl) (fun _ _ _ h => h) hHeld (fun wx hwx => by go_simp; try with_reducible rfl) ?_
        try simp only [Act.put, List.setIfInBounds_toArray, List.set_cons_zero, List.set_cons_succ]
        refine rtake 7 rfl (by rfl) (by kernel_rfl) (by kernel_rfl) (by kernel_rfl) (fun _ _ _ h => h) hHeld (fun wx hwx => by go_simp; try with_reducible rfl) ?_
        try simp only [Act.put, List.setIfInBounds_toArray, List.set_cons_zero, List.set_cons_succ]
        refine rtake 8 rfl (by rfl) (by kernel_rfl) (by kernel_rfl) (by kernel_rfl) (fun _ _ _ h => h) hHeld (fun wx hwx => by go_simp; try with_reducible rfl) ?_
        try simp only [Act.put, List.setIfInBounds_toArray, List.set_cons_zero, List.set_cons_succ]
        refine rtake 9 rfl (by rfl) (by kernel_rfl) (by kernel_rfl) (by kernel_rfl) (fun _ _ _ h => h) hHeld (fun wx hwx => by go_simp; try with_reducible rfl) ?_
        try simp only [Act.put, List.setIfInBounds_toArray, List.set_cons_zero, List.set_cons_succ]
        refine rtake 10 rfl (by rfl) (by kernel_rfl) (by kernel_rfl) (by kernel_rfl) (fun _ _ _ h => h) hHeld (fun wx hwx => by have hcz := HCz.out _ hwx; go_simp; try with_reducible rfl) ?_
        try simp only [Act.put, List.setIfInBounds_toArray, List.set_cons_zero, List.set_cons_succ]
        refine rcall 5 rfl (by kernel_rfl) (by rfl) (fun K hK => ?_)
        go_simp
        refine (HPut gt N L z wd F hin).mono ?_
        rintro e w5 ⟨m, rfl, hm, F2, o2⟩
        replace B := B.only o2 (Ne.symm hne)
        replace rd := rd.only o2 hgM
        replace F := F2
        replace hM2 := Nat.le_trans hM2 o2.size
        have hHeld2 := Only.below hHeld o2 hg hHeld.size
        refine hK.out _ _ hHeld2 ?_
        clear hK K hHeld F2 o2
        have hHeld := hHeld2
        clear hHeld2
        try simp only [Act.put, List.setIfInBounds_toArray, List.set_cons_zero, List.set_cons_succ]
        refine rcall 11 rfl (by kernel_rfl) (by rfl) (fun K hK => ?_)
        go_simp
        refine (refPut_any19 gr N L z v w5 B rd.ints hin.1 hin.2.1 hin.2.2).mono ?_
        rintro e w6 ⟨m2, v2, rfl, hm2, B2, rd2, o2⟩
        obtain rfl : m = m2 := hm.unique hm2
        replace F := F.only o2 hne
        replace B := B2
        have rd3 : RdM w6 M v2 (putL N L z) := rd2.mono hM2
        replace hM2 := Nat.le_trans hM2 o2.size
        have hHeld2 := Only.below hHeld o2 hgr hHeld.size
        refine hK.out _ _ hHeld2 ?_
        have hin2 : InM (N, putL N L z) := hin.put z
        have hself : (putL N L z == putL N L z) = true := beq_self_eq_true _
        have hlen9 : (putL N L z).length ≤ 140737488355328 := Nat.le_trans hin2.2.2 (Nat.le_trans hin2.2.1 (by decide))
        clear hK K hHeld rd B2 rd2 o2 hm hm2 hin
        generalize putL N L z = L2 at *
        have hb6 := hHeld2
        clear hHeld2
        refine wpAnyH_mono (S' := fun w' => Below w6.heap.size w6 w') (fun w' h => bnext hb6 h) _ _ _ _ ?_
        have hHeld := Below.refl w6.heap.size w6
        try simp only [Act.put, List.setIfInBounds_toArray, List.set_cons_zero, List.set_cons_succ]
        refine rtake 12 rfl (by rfl) (by kernel_rfl) (by kernel_rfl) (by kernel_rfl) (fun _ _ _ h => h) hHeld (fun wx hwx => by go_simp; try with_reducible rfl) ?_
        try simp only [Act.put, List.setIfInBounds_toArray, List.set_cons_zero, List.set_cons_succ]
        refine rtake 13 rfl (by rfl) (by kernel_rfl) (by kernel_rfl) (by kernel_rfl) (fun _ _ _ h => h) hHeld (fun wx hwx => by go_simp; try with_reducible rfl) ?_
        try simp only [Act.put, List.setIfInBounds_toArray, List.set_cons_zero, List.set_cons_succ]
        refine rtake 14 rfl (by rfl) (by kernel_rfl) (by kernel_rfl) (by kernel_rfl) (fun _ _ _ h => h) hHeld (fun wx hwx => by go_simp; try with_reducible rfl) ?_
        try simp only [Act.put, List.setIfInBounds_toArray, List.set_cons_zero, List.set_cons_succ]
        refine rtake 16 rfl (by rfl) (by kernel_rfl) (by kernel_rfl) (by kernel_rfl) (fun _ _ _ h => h) hHeld (fun wx hwx => by go_simp; try with_reducible rfl) ?_
        try simp only [Act.put, List.setIfInBounds_toArray, List.set_cons_zero, List.set_cons_succ]
        refine rtake 17 rfl (by rfl) (by kernel_rfl) (by kernel_rfl) (by kernel_rfl) (fun _ _ _ h => h) hHeld (fun wx hwx => by go_simp; try with_reducible rfl) ?_
        try simp only [Act.put, List.setIfInBounds_toArray, List.set_cons_zero, List.set_cons_succ]
        refine rtake 18 rfl (by rfl) (by kernel_rfl) (by kernel_rfl) (by kernel_rfl) (fun _ _ _ h => h) hHeld (fun wx hwx => by go_simp; try with_reducible rfl) ?_
        try simp only [Act.put, List.setIfInBounds_toArray, List.set_cons_zero, List.set_cons_succ]
        refine rtake 19 rfl (by rfl) (by kernel_rfl) (by kernel_rfl) (by kernel_rfl) (fun _ _ _ h => h) hHeld (fun wx hwx => by have hcB := (B.below hwx).cell 1 _ rfl; go_simp; try with_reducible rfl) ?_
        try simp only [Act.put, List.setIfInBounds_toArray, List.set_cons_zero, List.set_cons_succ]
        refine rcall 15 rfl (by kernel_rfl) (by rfl) (fun K hK => ?_)
        go_simp
        refine (HVal gt N L2 w6 F hin2).mono ?_
        rintro e w7 ⟨v7, rfl, hV, b7⟩
        refine hK.out _ _ b7 ?_
        replace F := F.below b7
        replace B := B.below b7
        replace rd3 := rd3.below b7
        replace hM2 := Nat.le_trans hM2 b7.size
        replace hb6 := bnext hb6 b7
        refine wpAnyH_mono (S' := fun w' => Below w7.heap.size w7 w') (fun w' h => bnext b7 h) _ _ _ _ ?_
        clear hK K hHeld
        have hHeld := Below.refl w7.heap.size w7
        clear b7
        try simp only [Act.put, List.setIfInBounds_toArray, List.set_cons_zero, List.set_cons_succ]
        refine rcall 20 rfl (by kernel_rfl) (by rfl) (fun K hK => ?_)
        go_simp
        refine (sameInts_any _ _ L2 L2 w7 hV rd3.ints hlen9 hlen9).mono ?_
        rintro e w8 ⟨rfl, b7⟩
        rw [hself]
        refine hK.out _ _ b7 ?_
        replace F := F.below b7
        replace B := B.below b7
        replace rd3 := rd3.below b7
        replace hM2 := Nat.le_trans hM2 b7.size
        replace hb6 := bnext hb6 b7
        refine wpAnyH_mono (S' := fun w' => Below w8.heap.size w8 w') (fun w' h => bnext b7 h) _ _ _ _ ?_
        clear hK K hHeld
        have hHeld := Below.refl w8.heap.size w8
        clear b7
        try simp only [Act.put, List.setIfInBounds_toArray, List.set_cons_zero, List.set_cons_succ]
        refine rtake 21 rfl (by rfl) (by kernel_rfl) (by kernel_rfl) (by kernel_rfl) (fun _ _ _ h => h) hHeld (fun wx hwx => by go_simp; try with_reducible rfl) ?_
        try simp only [Act.put, List.setIfInBounds_toArray, List.set_cons_zero, List.set_cons_succ]
        refine rtake 22 rfl (by rfl) (by kernel_rfl) (by kernel_rfl) (by kernel_rfl) (fun _ _ _ h => h) hHeld (fun wx hwx => by go_simp; try with_reducible rfl) ?_
        try simp only [Act.put, List.setIfInBounds_toArray, List.set_cons_zero, List.set_cons_succ]
        refine wpAnyH_done (by kernel_rfl) ?_ _
        clear hself hlen9 hHeld hV
        have HF := hid F
        have HB := hid B
        have HR := hid rd3
        have HI := hid hin2
        have HM9 := hid hM2
        have HB6 := hid hb6
        clear F B rd3 hin2 hM2 hb6
        go_wp2_with fail
        go_roundw
        case rel => exact ⟨k + 1, L2, v2, hk, by go_num, HI.out, HF.out, HB.out, HR.out, HM9.out, HB6.out⟩
        case measure => (simp [intOf] <;> omega)
      · have hbe : ((k : Int) == cl) = false := beq_false_of_ne hkc
        clear hkc
        go_upto_region 11 with fail
        obtain ⟨wq, hwq⟩ : ∃ wq, wr = wq := ⟨_, rfl⟩
        rw [hwq] at F B rd hM2 hb
        rw [hwq]
        clear hwq
        refine wp_region_held_drew (S := fun w' => Below w.heap.size w w') (by kernel_rfl) (bnext hb (Below.drew (Below.refl wq.heap.size wq))) ?_
        intro hHeld
        have bd := Below.drew (Below.refl wq.heap.size wq)
        replace F := F.below bd
        replace B := B.below bd
        replace rd := rd.below bd
        replace hM2 := Nat.le_trans hM2 bd.size
        clear bd hb
        generalize wq.drew = wd at *
        refine rtake 0 rfl (by rfl) (by kernel_rfl) (by kernel_rfl) (by kernel_rfl) (fun _ _ _ h => h) hHeld (fun wx hwx => by go_simp; try with_reducible rfl) ?_
        try simp only [Act.put, List.setIfInBounds_toArray, List.set_cons_zero, List.set_cons_succ]
        refine rtake 1 rfl (by rfl) (by kernel_rfl) (by kernel_rfl) (by kernel_rfl) (fun _ _ _ h => h) hHeld (fun wx hwx => by go_simp; try with_reducible rfl) ?_
        try simp only [Act.put, List.setIfInBounds_toArray, List.set_cons_zero, List.set_cons_succ]
        refine rtake 2 rfl (by rfl) (by kernel_rfl) (by kernel_rfl) (by kernel_rfl) (fun _ _ _ h => h) hHeld (fun wx hwx => by go_simp; try with_reducible rfl) ?_
        try simp only [Act.put, List.setIfInBounds_toArray, List.set_cons_zero, List.set_cons_succ]
        refine rtake 3 rfl (by rfl) (by kernel_rfl) (by kernel_rfl) (by kernel_rfl) (fun _ _ _ h => h) hHeld (fun wx hwx => by go_simp; try with_reducible rfl) ?_
        try simp only [Act.put, List.setIfInBounds_toArray, List.set_cons_zero, List.set_cons_succ]
        refine rtake 4 rfl (by rfl) (by kernel_rfl) (by kernel_rfl) (by kernel_rfl) (fun _ _ _ h => h) hHeld (fun wx hwx => by have hcz := HCz.out _ hwx; go_simp; try with_reducible rfl) ?_
        try simp only [Act.put, List.setIfInBounds_toArray, List.set_cons_zero, List.set_cons_succ]
        refine rtake 6 rfl (by rfl) (by kernel_rfl) (by kernel_rfl) (by kernel_rfl) (fun _ _ _ h => h) hHeld (fun wx hwx => by go_simp; try with_reducible rfl) ?_
        try simp only [Act.put, List.setIfInBounds_toArray, List.set_cons_zero, List.set_cons_succ]
        refine rtake 7 rfl (by rfl) (by kernel_rfl) (by kernel_rfl) (by kernel_rfl) (fun _ _ _ h => h) hHeld (fun wx hwx => by go_simp; try with_reducible rfl) ?_
        try simp only [Act.put, List.setIfInBounds_toArray, List.set_cons_zero, List.set_cons_succ]
        refine rtake 8 rfl (by rfl) (by kernel_rfl) (by kernel_rfl) (by kernel_rfl) (fun _ _ _ h => h) hHeld (fun wx hwx => by go_simp; try with_reducible rfl) ?_
        try simp only [Act.put, List.setIfInBounds_toArray, List.set_cons_zero, List.set_cons_succ]
        refine rtake 9 rfl (by rfl) (by kernel_rfl) (by kernel_rfl) (by kernel_rfl) (fun _ _ _ h => h) hHeld (fun wx hwx => by go_simp; try with_reducible rfl) ?_
        try simp only [Act.put, List.setIfInBounds_toArray, List.set_cons_zero, List.set_cons_succ]
        refine rtake 10 rfl (by rfl) (by kernel_rfl) (by kernel_rfl) (by kernel_rfl) (fun _ _ _ h => h) hHeld (fun wx hwx => by have hcz := HCz.out _ hwx; go_simp; try with_reducible rfl) ?_
        try simp only [Act.put, List.setIfInBounds_toArray, List.set_cons_zero, List.set_cons_succ]
        refine rcall 5 rfl (by kernel_rfl) (by rfl) (fun K hK => ?_)
        go_simp
        refine (HPut gt N L z wd F hin).mono ?_
        rintro e w5 ⟨m, rfl, hm, F2, o2⟩
        replace B := B.only o2 (Ne.symm hne)
        replace rd := rd.only o2 hgM
        replace F := F2
        replace hM2 := Nat.le_trans hM2 o2.size
        have hHeld2 := Only.below hHeld o2 hg hHeld.size
        refine hK.out _ _ hHeld2 ?_
        clear hK K hHeld F2 o2
        have hHeld := hHeld2
        clear hHeld2
        try simp only [Act.put, List.setIfInBounds_toArray, List.set_cons_zero, List.set_cons_succ]
        refine rcall 11 rfl (by kernel_rfl) (by rfl) (fun K hK => ?_)
        go_simp
        refine (refPut_any19 gr N L z v w5 B rd.ints hin.1 hin.2.1 hin.2.2).mono ?_
        rintro e w6 ⟨m2, v2, rfl, hm2, B2, rd2, o2⟩
        obtain rfl : m = m2 := hm.unique hm2
        replace F := F.only o2 hne
        replace B := B2
        have rd3 : RdM w6 M v2 (putL N L z) := rd2.mono hM2
        replace hM2 := Nat.le_trans hM2 o2.size
        have hHeld2 := Only.below hHeld o2 hgr hHeld.size
        refine hK.out _ _ hHeld2 ?_
        have hin2 : InM (N, putL N L z) := hin.put z
        have hself : (putL N L z == putL N L z) = true := beq_self_eq_true _
        have hlen9 : (putL N L z).length ≤ 140737488355328 := Nat.le_trans hin2.2.2 (Nat.le_trans hin2.2.1 (by decide))
        clear hK K hHeld rd B2 rd2 o2 hm hm2 hin
        generalize putL N L z = L2 at *
        have hb6 := hHeld2
        clear hHeld2
        refine wpAnyH_mono (S' := fun w' => Below w6.heap.size w6 w') (fun w' h => bnext hb6 h) _ _ _ _ ?_
        have hHeld := Below.refl w6.heap.size w6
        try simp only [Act.put, List.setIfInBounds_toArray, List.set_cons_zero, List.set_cons_succ]
        refine rtake 12 rfl (by rfl) (by kernel_rfl) (by kernel_rfl) (by kernel_rfl) (fun _ _ _ h => h) hHeld (fun wx hwx => by go_simp; try with_reducible rfl) ?_
        try simp only [Act.put, List.setIfInBounds_toArray, List.set_cons_zero, List.set_cons_succ]
        refine rtake 13 rfl (by rfl) (by kernel_rfl) (by kernel_rfl) (by kernel_rfl) (fun _ _ _ h => h) hHeld (fun wx hwx => by go_simp; try with_reducible rfl) ?_
        try simp only [Act.put, List.setIfInBounds_toArray, List.set_cons_zero, List.set_cons_succ]
        refine rtake 14 rfl (by rfl) (by kernel_rfl) (by kernel_rfl) (by kernel_rfl) (fun _ _ _ h => h) hHeld (fun wx hwx => by go_simp; try with_reducible rfl) ?_
        try simp only [Act.put, List.setIfInBounds_toArray, List.set_cons_zero, List.set_cons_succ]
        refine rtake 16 rfl (by rfl) (by kernel_rfl) (by kernel_rfl) (by kernel_rfl) (fun _ _ _ h => h) hHeld (fun wx hwx => by go_simp; try with_reducible rfl) ?_
        try simp only [Act.put, List.setIfInBounds_toArray, List.set_cons_zero, List.set_cons_succ]
        refine rtake 17 rfl (by rfl) (by kernel_rfl) (by kernel_rfl) (by kernel_rfl) (fun _ _ _ h => h) hHeld (fun wx hwx => by go_simp; try with_reducible rfl) ?_
        try simp only [Act.put, List.setIfInBounds_toArray, List.set_cons_zero, List.set_cons_succ]
        refine rtake 18 rfl (by rfl) (by kernel_rfl) (by kernel_rfl) (by kernel_rfl) (fun _ _ _ h => h) hHeld (fun wx hwx => by go_simp; try with_reducible rfl) ?_
        try simp only [Act.put, List.setIfInBounds_toArray, List.set_cons_zero, List.set_cons_succ]
        refine rtake 19 rfl (by rfl) (by kernel_rfl) (by kernel_rfl) (by kernel_rfl) (fun _ _ _ h => h) hHeld (fun wx hwx => by have hcB := (B.below hwx).cell 1 _ rfl; go_simp; try with_reducible rfl) ?_
        try simp only [Act.put, List.setIfInBounds_toArray, List.set_cons_zero, List.set_cons_succ]
        refine rcall 15 rfl (by kernel_rfl) (by rfl) (fun K hK => ?_)
        go_simp
        refine (HVal gt N L2 w6 F hin2).mono ?_
        rintro e w7 ⟨v7, rfl, hV, b7⟩
        refine hK.out _ _ b7 ?_
        replace F := F.below b7
        replace B := B.below b7
        replace rd3 := rd3.below b7
        replace hM2 := Nat.le_trans hM2 b7.size
        replace hb6 := bnext hb6 b7
        refine wpAnyH_mono (S' := fun w' => Below w7.heap.size w7 w') (fun w' h => bnext b7 h) _ _ _ _ ?_
        clear hK K hHeld
        have hHeld := Below.refl w7.heap.size w7
        clear b7
        try simp only [Act.put, List.setIfInBounds_toArray, List.set_cons_zero, List.set_cons_succ]
        refine rcall 20 rfl (by kernel_rfl) (by rfl) (fun K hK => ?_)
        go_simp
        refine (sameInts_any _ _ L2 L2 w7 hV rd3.ints hlen9 hlen9).mono ?_
        rintro e w8 ⟨rfl, b7⟩
        rw [hself]
        refine hK.out _ _ b7 ?_
        replace F := F.below b7
        replace B := B.below b7
        replace rd3 := rd3.below b7
        replace hM2 := Nat.le_trans hM2 b7.size
        replace hb6 := bnext hb6 b7
        refine wpAnyH_mono (S' := fun w' => Below w8.heap.size w8 w') (fun w' h => bnext b7 h) _ _ _ _ ?_
        clear hK K hHeld
        have hHeld := Below.refl w8.heap.size w8
        clear b7
        try simp only [Act.put, List.setIfInBounds_toArray, List.set_cons_zero, List.set_cons_succ]
        refine rtake 21 rfl (by rfl) (by kernel_rfl) (by kernel_rfl) (by kernel_rfl) (fun _ _ _ h => h) hHeld (fun wx hwx => by go_simp; try with_reducible rfl) ?_
        try simp only [Act.put, List.setIfInBounds_toArray, List.set_cons_zero, List.set_cons_succ]
        refine rtake 22 rfl (by rfl) (by kernel_rfl) (by kernel_rfl) (by kernel_rfl) (fun _ _ _ h => h) hHeld (fun wx hwx => by go_simp; try with_reducible rfl) ?_
        try simp only [Act.put, List.setIfInBounds_toArray, List.set_cons_zero, List.set_cons_succ]
        refine wpAnyH_done (by kernel_rfl) ?_ _
        clear hself hlen9 hHeld hV
        have HF := hid F
        have HB := hid B
        have HR := hid rd3
        have HI := hid hin2
        have HM9 := hid hM2
        have HB6 := hid hb6
        clear F B rd3 hin2 hM2 hb6
        go_wp2_with fail
        go_roundw
        case rel => exact ⟨k + 1, L2, v2, hk, by go_num, HI.out, HF.out, HB.out, HR.out, HM9.out, HB6.out⟩
        case measure => (simp [intOf] <;> omega)
    · go_wp2_with fail
      all_goals
        refine (HMed gt N L wr F hin).mono ?_
        rintro e w5 ⟨m, rfl, hm, b5⟩
        replace B := B.below b5
        replace rd := rd.below b5
        replace hb := bnext hb b5
        clear b5
        go_wp2_with fail
        refine (refMedian_any gr N L v w5 B rd.ints (Nat.le_trans hin.2.2 (Nat.le_trans hin.2.1 (by decide)))).mono ?_
        rintro e w6 ⟨m2, rfl, hm2, b5⟩
        replace hb := bnext hb b5
        clear b5
        obtain rfl : m = m2 := hm.unique hm2
        clear hm hm2
        generalize decide (0 < L.length) = fl at *
        cases fl
        all_goals
          go_wp2_with fail
          refine (awake19_from HNew HPut _).mono ?_
          rintro e wz ⟨rfl, bz⟩
          go_wp2_with fail
          go_ret
          exact ⟨rfl, bnext hb bz⟩
end Go.Proofs.Ytcccjjghalajoaa
