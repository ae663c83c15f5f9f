/- The walks of the laws of package stamp: the table, the seconds. -/
import Derived.Test.YtlpfcacmfcobcaaStampc
import Derived.Test.YtlpfcacmfcobcaaStampRef
namespace Go.Proofs.Ytlpfcacmfcobcaa
open Go.RowKit Go.Proofs
set_option linter.unusedVariables false
set_option linter.unusedSimpArgs false

set_option maxHeartbeats 1600000 in
theorem stampTable_walk (w : World) :
    Calls Try.prog 11 #[] w fun e w' => e = .returned (.bool true) ∧ Below w.heap.size w w' := by
  go_enter Try.func11, Try.ntmps11
  go_wp2_with fail
  go_loop [1, 2] (fun n l => ∃ L X : Int, -3 ≤ L ∧ L ≤ 5 ∧ n = .int .i64 X ∧ l = .int .i64 L ∧ Hid (X = if L = 5 then 256 else eighI L)) (fun _ l => (5 - intOf l).toNat)
  case atStart => exact ⟨-3, 1, by decide, by decide, rfl, rfl, hid (by decide)⟩
  case round =>
    obtain ⟨L, X, h0, h1, rfl, rfl, hX⟩ := hrel
    by_cases h5 : L = 5
    · subst h5
      obtain rfl : X = 256 := by rw [hX.out]; rfl
      go_wp2_with fail
      refine (ticks_any _ _).mono ?_
      rintro e w' ⟨rfl, rfl⟩
      rw [show eighI (-4) = 1 by decide]
      go_wp2_with fail
      refine (ticks_any _ _).mono ?_
      rintro e w' ⟨rfl, rfl⟩
      rw [show eighI 5 = 128 by decide]
      go_wp2_with fail
      refine (nanos_any _ _).mono ?_
      rintro e w' ⟨rfl, rfl⟩
      rw [show 125000000 * eighI (-100) = 125000000 by decide]
      go_wp2_with fail
      refine (nanos_any _ _).mono ?_
      rintro e w' ⟨rfl, rfl⟩
      rw [show 125000000 * eighI 4611686018427387904 = 16000000000 by decide]
      go_wp2_with fail
      refine (awake02_any _).mono ?_
      rintro e w' ⟨rfl, rfl⟩
      go_wp2_with fail
      go_ret
      exact ⟨rfl, Below.refl _ _⟩
    · have hX' : X = eighI L := by rw [hX.out, if_neg h5]
      have hb := eighI_in L
      rw [← hX'] at hb
      obtain ⟨hb0, hb1⟩ := hb
      have h4 : L ≤ 4 := by omega
      have hd : X * 125000000 = 125000000 * X := by omega
      have HX := hid hX'
      clear hX hX' h1 h5 hd
      go_wp2_with fail
      refine (ticks_any _ _).mono ?_
      rintro e w' ⟨rfl, rfl⟩
      rw [← HX.out]
      go_wp2_with fail
      refine (nanos_any _ _).mono ?_
      rintro e w' ⟨rfl, rfl⟩
      rw [← HX.out]
      go_wp2_with fail
      go_round
      case rel =>
        refine ⟨L + 1, _, by omega, by omega, rfl, by go_num, hid ?_⟩
        rw [HX.out]
        have hc : L = -3 ∨ L = -2 ∨ L = -1 ∨ L = 0 ∨ L = 1 ∨ L = 2 ∨ L = 3 ∨ L = 4 := by omega
        rcases hc with rfl | rfl | rfl | rfl | rfl | rfl | rfl | rfl <;> decide
      case measure => simp [intOf]; omega

theorem secAt_zero (t : Int) : numAt (stampS t) 0 6 = (stampT t / 1000000000).toNat := by
  have := secAt_stampS t [] [] 0 rfl
  rwa [List.nil_append, List.append_nil] at this

theorem nanAt_zero (t : Int) : numAt (stampS t) 6 4 = (stampT t % 1000000000).toNat := by
  have := nanAt_stampS t [] [] 0 rfl
  rwa [List.nil_append, List.append_nil] at this

set_option maxHeartbeats 1600000 in
theorem stampSeconds_walk (a0 : Int) (w0 : (Lit.int .i64 a0).wf = true) (a1 : Int) (w1 : (Lit.int .i64 a1).wf = true) (w : World) :
    Calls Try.prog 10 #[.int .i64 a0, .int .i64 a1] w fun e w' => e = .returned (.bool true) ∧ Below w.heap.size w w' := by
  have hm0 := and_mask a0 20 (by decide)
  have hm1 := and_mask a1 29 (by decide)
  obtain ⟨a, ha⟩ : ∃ a, a = a0 % 2 ^ 20 := ⟨_, rfl⟩
  obtain ⟨b, hb⟩ : ∃ b, b = a1 % 2 ^ 29 := ⟨_, rfl⟩
  rw [← ha] at hm0
  rw [← hb] at hm1
  simp only [Int.reducePow, Int.reduceSub] at hm0 hm1 ha hb
  have ha0 : 0 ≤ a := by omega
  have ha1 : a < 1048576 := by omega
  have hb0 : 0 ≤ b := by omega
  have hb1 : b < 536870912 := by omega
  have hs : ((numAt (stampS (a * 1000000000 + b)) 0 6 : Nat) : Int) = a := by rw [secAt_zero, stampT_of (by omega) (by omega)]; omega
  have hn : ((numAt (stampS (a * 1000000000 + b)) 6 4 : Nat) : Int) = b := by rw [nanAt_zero, stampT_of (by omega) (by omega)]; omega
  have hl := stampS_length (a * 1000000000 + b)
  have Hs := hid hs
  have Hn := hid hn
  have Hl := hid hl
  clear ha hb w0 w1 hs hn hl
  go_enter Try.func10, Try.ntmps10
  go_wp2_with fail
  clear hm0 hm1
  refine (stampPut_any _ [] _ _ (Bytes.nil _) (by decide)).mono ?_
  rintro e w1 ⟨v, rfl, hown, hbel⟩
  rw [List.nil_append] at hown
  generalize stampS (a * 1000000000 + b) = L at *
  obtain ⟨g, cap, rfl, hg1, _, hg3, _⟩ := hown.form (by rw [Hl.out]; decide)
  have hg4 := hg1
  rw [Hl.out] at hown hg4 ⊢
  have Hcell := hid fun i hi => hown.cell i hi
  have Hbel := hid hbel
  clear hown hbel hg1
  unfold maxLen at hg3
  go_wp2_with fail
  go_loop [8, 10] (fun v i => ∃ (k : Nat) (X : Int), k ≤ 6 ∧ i = .int .i64 k ∧ v = .int .i64 X ∧ 0 ≤ X ∧ X < 281474976710656 ∧ Hid (X = (num ((L.drop 0).take k) : Nat))) (fun _ i => 6 - (intOf i).toNat)
  case atStart => exact ⟨0, 0, Nat.zero_le _, rfl, rfl, by decide, by decide, hid (by simp [num])⟩
  case round =>
    obtain ⟨k, X, hk, rfl, rfl, hX0, hX1, hX⟩ := hrel
    by_cases hlt : k < 6
    · have hlen : k < L.length := by have := Hl.out; omega
      have hcell := Hcell.out k hlen
      have hbb : L[k].toNat < 256 := L[k].toNat_lt
      have hX2 : X < 1099511627776 := by
        rw [hX.out]
        have : num ((L.drop 0).take k) < 1099511627776 := by
          refine Nat.lt_of_lt_of_le (num_small _) ?_
          refine Nat.le_trans (Nat.pow_le_pow_right (by decide) (show _ ≤ 5 from ?_)) (by decide)
          rw [List.length_take]
          omega
        omega
      go_wp2_with fail
      go_round
      case rel => exact ⟨k + 1, _, by omega, by go_num, rfl, by omega, by omega, hid (by rw [num_take_succ L 0 k (by have := Hl.out; omega) (by omega)]; have := hX.out; simp only [Nat.zero_add]; omega)⟩
      case measure => simp [intOf]; omega
    · obtain rfl : k = 6 := by omega
      obtain rfl : X = a := by
        rw [hX.out, ← Hs.out]
        rfl
      clear hX hX0 hX1 hk hlt
      go_wp2_with fail
      go_loop [9, 11] (fun v i => ∃ (k : Nat) (X : Int), 6 ≤ k ∧ k ≤ 10 ∧ i = .int .i64 k ∧ v = .int .i64 X ∧ 0 ≤ X ∧ X < 4294967296 ∧ Hid (X = (num ((L.drop 6).take (k - 6)) : Nat))) (fun _ i => 10 - (intOf i).toNat)
      case atStart => exact ⟨6, 0, by decide, by decide, rfl, rfl, by decide, by decide, hid (by simp [num])⟩
      case round =>
        obtain ⟨k, Y, hk0, hk, rfl, rfl, hY0, hY1, hY⟩ := hrel
        by_cases hlt : k < 10
        · have hlen : k < L.length := by have := Hl.out; omega
          have hcell := Hcell.out k hlen
          have hbb : L[k].toNat < 256 := L[k].toNat_lt
          have hY2 : Y < 16777216 := by
            rw [hY.out]
            have : num ((L.drop 6).take (k - 6)) < 16777216 := by
              refine Nat.lt_of_lt_of_le (num_small _) ?_
              refine Nat.le_trans (Nat.pow_le_pow_right (by decide) (show _ ≤ 3 from ?_)) (by decide)
              rw [List.length_take]
              omega
            omega
          have Hn2 : Hid (num ((L.drop 6).take (k + 1 - 6)) = 256 * num ((L.drop 6).take (k - 6)) + L[k].toNat) := hid (by
            obtain ⟨q, rfl⟩ : ∃ q, k = 6 + q := ⟨k - 6, by omega⟩
            rw [show 6 + q + 1 - 6 = q + 1 by omega, show 6 + q - 6 = q by omega]
            exact num_take_succ L 6 q hlen (by omega))
          go_wp2_with fail
          go_round
          case rel => exact ⟨k + 1, _, by omega, by omega, by go_num, rfl, by omega, by omega, hid (by rw [Hn2.out]; have := hY.out; omega)⟩
          case measure => simp [intOf]; omega
        · obtain rfl : k = 10 := by omega
          obtain rfl : Y = b := by
            rw [hY.out, ← Hn.out]
            rfl
          clear hY hY0 hY1 hk hlt
          go_wp2_with fail
          refine (awake02_any _).mono ?_
          rintro e w' ⟨rfl, rfl⟩
          go_wp2_with fail
          go_ret
          exact ⟨rfl, Hbel.out⟩

set_option maxHeartbeats 3200000 in
theorem stampEnds_walk (w : World) :
    Calls Try.prog 9 #[] w fun e w' => e = .returned (.bool true) ∧ Below w.heap.size w w' := by
  have e1 : [] ++ stampS 4000000000000000 = [0, 0, 0, 61, 9, 0, 0, 0, 0, 0] := by decide
  have e2 : [] ++ stampS 999999999 = [0, 0, 0, 0, 0, 0, 59, 154, 201, 255] := by decide
  have E1 := hid e1
  have E2 := hid e2
  clear e1 e2
  go_enter Try.func9, Try.ntmps9
  go_wp2_with fail
  refine (stampPut_any _ [] _ _ (Bytes.nil _) (by decide)).mono ?_
  rw [E1.out]
  rintro e w1 ⟨v1, rfl, hown1, hbel1⟩
  go_wp2_with fail
  refine (stampGet_any _ _ _ _ hown1.bytes (by decide) (by decide)).mono ?_
  rintro e w' ⟨rfl, rfl⟩
  rw [show getV [0, 0, 0, 61, 9, 0, 0, 0, 0, 0] 0 = 4000000000000000 by decide, show getB [0, 0, 0, 61, 9, 0, 0, 0, 0, 0] 0 = true by decide]
  clear hown1
  go_wp2_with fail
  refine (stampPut_any _ [] _ _ (Bytes.nil _) (by decide)).mono ?_
  rw [E1.out]
  rintro e w2 ⟨v2, rfl, hown2, hbel2⟩
  obtain ⟨g, cap, rfl, hg1, hg2, hg3, hg4⟩ := hown2.form (by decide)
  simp only [List.length_cons, List.length_nil, Nat.zero_add, Nat.reduceAdd] at hg1 hown2 ⊢
  have hcell := hown2.cell 9 (by decide)
  have hfree := hown2.free 9
  have hset : Own (w2.setCell ⟨g, 9, none⟩ (.int .u8 1)) w1.heap.size (.slice (some ⟨g, 0, none⟩) 10 cap) [0, 0, 0, 61, 9, 0, 0, 0, 0, 1] := hown2.set 9 1
  simp only [List.getElem_cons_succ, List.getElem_cons_zero] at hcell
  have hb := hbel2.setCell (p := ⟨g, 9, none⟩) hg2 (.int .u8 1)
  have Hset := hid hset
  have Hb := hid (bnext hbel1 hb)
  clear hset hb hown2 hbel1 hbel2 hg2 hg3 hg4
  go_wp2_with fail
  refine (stampGet_any _ _ _ _ Hset.out.bytes (by decide) (by decide)).mono ?_
  rintro e w' ⟨rfl, rfl⟩
  rw [show getV [0, 0, 0, 61, 9, 0, 0, 0, 0, 1] 0 = 0 by decide, show getB [0, 0, 0, 61, 9, 0, 0, 0, 0, 1] 0 = false by decide]
  clear hcell hfree
  generalize w2.setCell ⟨g, 9, none⟩ (.int .u8 1) = w3 at *
  clear Hset
  go_wp2_with fail
  refine (stampPut_any _ [] _ _ (Bytes.nil _) (by decide)).mono ?_
  rw [E2.out]
  rintro e w4 ⟨v4, rfl, hown4, hbel4⟩
  obtain ⟨g4, cap4, rfl, hg1, hg2, hg3, hg4⟩ := hown4.form (by decide)
  simp only [List.length_cons, List.length_nil, Nat.zero_add, Nat.reduceAdd] at hg1 hown4 ⊢
  have hcell := hown4.cell 6 (by decide)
  have hfree := hown4.free 6
  have hset : Own (w4.setCell ⟨g4, 6, none⟩ (.int .u8 60)) w3.heap.size (.slice (some ⟨g4, 0, none⟩) 10 cap4) [0, 0, 0, 0, 0, 0, 60, 154, 201, 255] := hown4.set 6 60
  simp only [List.getElem_cons_succ, List.getElem_cons_zero] at hcell
  have hb := hbel4.setCell (p := ⟨g4, 6, none⟩) hg2 (.int .u8 60)
  have hcut : Bytes (w4.setCell ⟨g4, 6, none⟩ (.int .u8 60)) (.slice (some ⟨g4, 0, none⟩) 9 cap4) [0, 0, 0, 0, 0, 0, 60, 154, 201] := by
    have h := Bytes.cut (w := w4.setCell ⟨g4, 6, none⟩ (.int .u8 60)) (b := g4) (off := 0) (cap := cap4) (l := [0, 0, 0, 0, 0, 0, 60, 154, 201, 255]) 0 9 cap4 (by simpa using hg4) (fun i hi => by rw [Nat.zero_add]; exact hset.cell i hi) (by decide) (by simpa using hg1) hg3 (by omega)
    simpa using h
  have hB4 := hown4.bytes
  have Hset := hid hset
  have Hcut := hid hcut
  have Hb4 := hid (bnext Hb.out hb)
  have HB4 := hid hB4
  clear hset hb hown4 hbel4 hg2 hg3 hg4 hcut hB4
  go_wp2_with fail
  refine (stampGet_any _ _ _ _ HB4.out (by decide) (by decide)).mono ?_
  rintro e w' ⟨rfl, rfl⟩
  rw [show getV [0, 0, 0, 0, 0, 0, 59, 154, 201, 255] 0 = 999999999 by decide, show getB [0, 0, 0, 0, 0, 0, 59, 154, 201, 255] 0 = true by decide]
  go_wp2_with fail
  refine (stampGet_any _ _ _ _ Hset.out.bytes (by decide) (by decide)).mono ?_
  rintro e w' ⟨rfl, rfl⟩
  rw [show getV [0, 0, 0, 0, 0, 0, 60, 154, 201, 255] 0 = 0 by decide, show getB [0, 0, 0, 0, 0, 0, 60, 154, 201, 255] 0 = false by decide]
  clear hcell hfree
  generalize w4.setCell ⟨g4, 6, none⟩ (.int .u8 60) = w5 at *
  clear Hset HB4
  go_wp2_with fail
  refine (stampGet_any _ _ _ _ Hcut.out (by decide) (by decide)).mono ?_
  rintro e w' ⟨rfl, rfl⟩
  rw [show getV [0, 0, 0, 0, 0, 0, 60, 154, 201] 0 = 0 by decide, show getB [0, 0, 0, 0, 0, 0, 60, 154, 201] 0 = false by decide]
  clear Hcut
  go_wp2_with fail
  -- REGION
  refine wp_region_held_drew (S := fun w' => Below w5.drew.heap.size w5.drew w') (by kernel_rfl) (Below.refl _ _) ?_
  intro hHeld
  have hbW := Below.drew (Below.refl w5.heap.size w5)
  generalize w5.drew = wd at *
  refine rtake 0 rfl (by rfl) (by kernel_rfl) (by kernel_rfl) (by kernel_rfl) (fun _ _ _ h => h) hHeld (fun wx hwx => by go_simp; try with_reducible rfl) ?_
  try simp only [Act.put, List.setIfInBounds_toArray, List.set_cons_zero, List.set_cons_succ]
  refine rtake 1 rfl (by rfl) (by kernel_rfl) (by kernel_rfl) (by kernel_rfl) (fun _ _ _ h => h) hHeld (fun wx hwx => by go_simp; try with_reducible rfl) ?_
  try simp only [Act.put, List.setIfInBounds_toArray, List.set_cons_zero, List.set_cons_succ]
  refine rtake 2 rfl (by rfl) (by kernel_rfl) (by kernel_rfl) (by kernel_rfl) (fun _ _ _ h => h) hHeld (fun wx hwx => by go_simp; try with_reducible rfl) ?_
  try simp only [Act.put, List.setIfInBounds_toArray, List.set_cons_zero, List.set_cons_succ]
  refine rtake 3 rfl (by rfl) (by kernel_rfl) (by kernel_rfl) (by kernel_rfl) (fun _ _ _ h => h) hHeld (fun wx hwx => by go_simp; try with_reducible rfl) ?_
  try simp only [Act.put, List.setIfInBounds_toArray, List.set_cons_zero, List.set_cons_succ]
  refine rtake 4 rfl (by rfl) (by kernel_rfl) (by kernel_rfl) (by kernel_rfl) (fun _ _ _ h => h) hHeld (fun wx hwx => by go_simp; try with_reducible rfl) ?_
  try simp only [Act.put, List.setIfInBounds_toArray, List.set_cons_zero, List.set_cons_succ]
  refine rtake 5 rfl (by rfl) (by kernel_rfl) (by kernel_rfl) (by kernel_rfl) (fun _ _ _ h => h) hHeld (fun wx hwx => by go_simp; try with_reducible rfl) ?_
  try simp only [Act.put, List.setIfInBounds_toArray, List.set_cons_zero, List.set_cons_succ]
  refine rtake 6 rfl (by rfl) (by kernel_rfl) (by kernel_rfl) (by kernel_rfl) (fun _ _ _ h => h) hHeld (fun wx hwx => by go_simp; try with_reducible rfl) ?_
  try simp only [Act.put, List.setIfInBounds_toArray, List.set_cons_zero, List.set_cons_succ]
  refine rtake 7 rfl (by rfl) (by kernel_rfl) (by kernel_rfl) (by kernel_rfl) (fun _ _ _ h => h) hHeld (fun wx hwx => by go_simp; try with_reducible rfl) ?_
  try simp only [Act.put, List.setIfInBounds_toArray, List.set_cons_zero, List.set_cons_succ]
  refine rtake 8 rfl (by rfl) (by kernel_rfl) (by kernel_rfl) (by kernel_rfl) (fun _ _ _ h => h) hHeld (fun wx hwx => by go_simp; try with_reducible rfl) ?_
  try simp only [Act.put, List.setIfInBounds_toArray, List.set_cons_zero, List.set_cons_succ]
  refine rtake 9 rfl (by rfl) (by kernel_rfl) (by kernel_rfl) (by kernel_rfl) (fun _ _ _ h => h) hHeld (fun wx hwx => by go_simp; try with_reducible rfl) ?_
  try simp only [Act.put, List.setIfInBounds_toArray, List.set_cons_zero, List.set_cons_succ]
  refine rtake 10 rfl (by rfl) (by kernel_rfl) (by kernel_rfl) (by kernel_rfl) (fun _ _ _ h => h) hHeld (fun wx hwx => by go_simp; try with_reducible rfl) ?_
  try simp only [Act.put, List.setIfInBounds_toArray, List.set_cons_zero, List.set_cons_succ]
  refine rtake 11 rfl (by rfl) (by kernel_rfl) (by kernel_rfl) (by kernel_rfl) (fun _ _ _ h => h) hHeld (fun wx hwx => by go_simp; try with_reducible rfl) ?_
  try simp only [Act.put, List.setIfInBounds_toArray, List.set_cons_zero, List.set_cons_succ]
  refine rtake 12 rfl (by rfl) (by kernel_rfl) (by kernel_rfl) (by kernel_rfl) (fun _ _ _ h => h) hHeld (fun wx hwx => by go_simp; try with_reducible rfl) ?_
  try simp only [Act.put, List.setIfInBounds_toArray, List.set_cons_zero, List.set_cons_succ]
  refine rtake 13 rfl (by rfl) (by kernel_rfl) (by kernel_rfl) (by kernel_rfl) (fun _ _ _ h => h) hHeld (fun wx hwx => by go_simp; try with_reducible rfl) ?_
  try simp only [Act.put, List.setIfInBounds_toArray, List.set_cons_zero, List.set_cons_succ]
  refine rtake 14 rfl (by rfl) (by kernel_rfl) (by kernel_rfl) (by kernel_rfl) (fun _ _ _ h => h) hHeld (fun wx hwx => by go_simp; try with_reducible rfl) ?_
  try simp only [Act.put, List.setIfInBounds_toArray, List.set_cons_zero, List.set_cons_succ]
  refine rtake 15 rfl (by rfl) (by kernel_rfl) (by kernel_rfl) (by kernel_rfl) (fun _ _ _ h => h) hHeld (fun wx hwx => by go_simp; try with_reducible rfl) ?_
  try simp only [Act.put, List.setIfInBounds_toArray, List.set_cons_zero, List.set_cons_succ]
  refine rtake 16 rfl (by rfl) (by kernel_rfl) (by kernel_rfl) (by kernel_rfl) (fun _ _ _ h => h) hHeld (fun wx hwx => by go_simp; try with_reducible rfl) ?_
  try simp only [Act.put, List.setIfInBounds_toArray, List.set_cons_zero, List.set_cons_succ]
  refine rtake 17 rfl (by rfl) (by kernel_rfl) (by kernel_rfl) (by kernel_rfl) (fun _ _ _ h => h) hHeld (fun wx hwx => by go_simp; try with_reducible rfl) ?_
  try simp only [Act.put, List.setIfInBounds_toArray, List.set_cons_zero, List.set_cons_succ]
  refine rtake 18 rfl (by rfl) (by kernel_rfl) (by kernel_rfl) (by kernel_rfl) (fun _ _ _ h => h) hHeld (fun wx hwx => by go_simp; try with_reducible rfl) ?_
  try simp only [Act.put, List.setIfInBounds_toArray, List.set_cons_zero, List.set_cons_succ]
  refine rtake 19 rfl (by rfl) (by kernel_rfl) (by kernel_rfl) (by kernel_rfl) (fun _ _ _ h => h) hHeld (fun wx hwx => by go_simp; try with_reducible rfl) ?_
  try simp only [Act.put, List.setIfInBounds_toArray, List.set_cons_zero, List.set_cons_succ]
  refine rtake 20 rfl (by rfl) (by kernel_rfl) (by kernel_rfl) (by kernel_rfl) (fun _ _ _ h => h) hHeld (fun wx hwx => by go_simp; try with_reducible rfl) ?_
  try simp only [Act.put, List.setIfInBounds_toArray, List.set_cons_zero, List.set_cons_succ]
  refine rtake 21 rfl (by rfl) (by kernel_rfl) (by kernel_rfl) (by kernel_rfl) (fun _ _ _ h => h) hHeld (fun wx hwx => by go_simp; try with_reducible rfl) ?_
  try simp only [Act.put, List.setIfInBounds_toArray, List.set_cons_zero, List.set_cons_succ]
  refine rtake 22 rfl (by rfl) (by kernel_rfl) (by kernel_rfl) (by kernel_rfl) (fun _ _ _ h => h) hHeld (fun wx hwx => by go_simp; try with_reducible rfl) ?_
  try simp only [Act.put, List.setIfInBounds_toArray, List.set_cons_zero, List.set_cons_succ]
  refine rtake 23 rfl (by rfl) (by kernel_rfl) (by kernel_rfl) (by kernel_rfl) (fun _ _ _ h => h) hHeld (fun wx hwx => by go_simp; try with_reducible rfl) ?_
  try simp only [Act.put, List.setIfInBounds_toArray, List.set_cons_zero, List.set_cons_succ]
  refine rtake 24 rfl (by rfl) (by kernel_rfl) (by kernel_rfl) (by kernel_rfl) (fun _ _ _ h => h) hHeld (fun wx hwx => by go_simp; try with_reducible rfl) ?_
  try simp only [Act.put, List.setIfInBounds_toArray, List.set_cons_zero, List.set_cons_succ]
  -- CALL 25: some 82 := Op.call { callee := Callee.value (Operand.func 14), args := #[Operand.const (Value.slice none 0 0), Operand.const (Value.int IntKind.i64 (-1))], argTypes := #[22, 3] }
  refine rcall 25 rfl (by kernel_rfl) (by rfl) (fun K hK => ?_)
  go_simp
  refine (stampPut_any _ [] _ _ (Bytes.nil _) (by decide)).mono ?_
  rintro e wx25 ⟨x25, rfl, own25, hbel⟩
  have hst25 := own25.bytes.strs
  refine hK.out _ _ hbel ?_
  clear hK K
  refine wpAnyH_mono (S' := fun w' => Below wx25.heap.size wx25 w') (fun w' h => bnext hbel h) _ _ _ _ ?_
  have hH := Below.refl wx25.heap.size wx25
  have hW := bnext hbW hbel
  clear hbel hbW hHeld
  have hHeld := hH
  have hbW := hW
  clear hH hW
  try simp only [Act.put, List.setIfInBounds_toArray, List.set_cons_zero, List.set_cons_succ]
  refine rtake 26 rfl (by rfl) (by kernel_rfl) (by kernel_rfl) (by kernel_rfl) (fun _ _ _ h => h) hHeld (fun wx hwx => by go_simp; try with_reducible rfl) ?_
  try simp only [Act.put, List.setIfInBounds_toArray, List.set_cons_zero, List.set_cons_succ]
  -- CALL 27: some 84 := Op.call { callee := Callee.value (Operand.func 14), args := #[Operand.const (Value.slice none 0 0), Operand.const (Value.int IntKind.i64 0)], argTypes := #[22, 3] }
  refine rcall 27 rfl (by kernel_rfl) (by rfl) (fun K hK => ?_)
  go_simp
  refine (stampPut_any _ [] _ _ (Bytes.nil _) (by decide)).mono ?_
  rintro e wx27 ⟨x27, rfl, own27, hbel⟩
  have hst27 := own27.bytes.strs
  refine hK.out _ _ hbel ?_
  clear hK K
  refine wpAnyH_mono (S' := fun w' => Below wx27.heap.size wx27 w') (fun w' h => bnext hbel h) _ _ _ _ ?_
  have hH := Below.refl wx27.heap.size wx27
  have hW := bnext hbW hbel
  clear hbel hbW hHeld
  have hHeld := hH
  have hbW := hW
  clear hH hW
  try simp only [Act.put, List.setIfInBounds_toArray, List.set_cons_zero, List.set_cons_succ]
  refine rtake 28 rfl (by rfl) (by kernel_rfl) (by kernel_rfl) (by kernel_rfl) (fun _ _ _ h => h) hHeld (fun wx hwx => by go_simp; try with_reducible rfl) ?_
  try simp only [Act.put, List.setIfInBounds_toArray, List.set_cons_zero, List.set_cons_succ]
  refine rtake 29 rfl (by rfl) (by kernel_rfl) (by kernel_rfl) (by kernel_rfl) (fun _ _ _ h => h) hHeld (fun wx hwx => by go_simp; try with_reducible rfl) ?_
  try simp only [Act.put, List.setIfInBounds_toArray, List.set_cons_zero, List.set_cons_succ]
  refine rtake 30 rfl (by rfl) (by kernel_rfl) (by kernel_rfl) (by kernel_rfl) (fun _ _ _ h => h) hHeld (fun wx hwx => by go_simp; try with_reducible rfl) ?_
  try simp only [Act.put, List.setIfInBounds_toArray, List.set_cons_zero, List.set_cons_succ]
  refine rtake 31 rfl (by rfl) (by kernel_rfl) (by kernel_rfl) (by kernel_rfl) (fun _ _ _ h => h) hHeld (fun wx hwx => by go_simp; try with_reducible rfl) ?_
  try simp only [Act.put, List.setIfInBounds_toArray, List.set_cons_zero, List.set_cons_succ]
  -- CALL 32: some 89 := Op.call { callee := Callee.value (Operand.func 18), args := #[], argTypes := #[] }
  refine rcall 32 rfl (by kernel_rfl) (by rfl) (fun K hK => ?_)
  go_simp
  refine (awake02_any _).mono ?_
  rintro e wx32 ⟨rfl, rfl⟩
  refine hK.out _ _ hHeld ?_
  clear hK K
  try simp only [Act.put, List.setIfInBounds_toArray, List.set_cons_zero, List.set_cons_succ]
  refine rtake 33 rfl (by rfl) (by kernel_rfl) (by kernel_rfl) (by kernel_rfl) (fun _ _ _ h => h) hHeld (fun wx hwx => by go_simp; try with_reducible rfl) ?_
  try simp only [Act.put, List.setIfInBounds_toArray, List.set_cons_zero, List.set_cons_succ]
  refine rtake 34 rfl (by rfl) (by kernel_rfl) (by kernel_rfl) (by kernel_rfl) (fun _ _ _ h => h) hHeld (fun wx hwx => by go_simp; try with_reducible rfl) ?_
  try simp only [Act.put, List.setIfInBounds_toArray, List.set_cons_zero, List.set_cons_succ]
  refine wpAnyH_done (by kernel_rfl) ?_ _
  -- END REGION
  go_wp2_with fail
  go_ret
  exact ⟨rfl, bnext Hb4.out hbW⟩
end Go.Proofs.Ytlpfcacmfcobcaa
