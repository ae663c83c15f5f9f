/- carillonlaw15: awake, Once, Stops, from contracts of the program's own (gen_timlaws.py). -/
import Derived.Test.YtgmigoimhdlmcaaTim
namespace Go.Proofs.Ytgmigoimhdlmcaa
open Go.RowKit Go.Proofs
set_option maxRecDepth 50000
set_option linter.unusedVariables false
set_option linter.unusedSimpArgs false

set_option maxRecDepth 100000 in
set_option maxHeartbeats 8000000 in
theorem awake15_from {R : List Value → Int → Prop} (HNew : CNewT R) (HTick : CTickT R) (HStart : CStartT R) (w : World) :
    Calls Try.prog 15 #[] w fun e w' => e = .returned (.bool true) ∧ Below w.heap.size w w' := by
  go_enter Try.func15, Try.ntmps15
  go_wp2_with fail
  refine (HNew _).mono ?_
  rintro e w1 ⟨gt, rfl, hg, FA, hb⟩
  go_wp2_with fail
  refine (HStart gt 0 2 w1 FA).mono ?_
  rintro e w2 ⟨rfl, FA2, o2⟩
  replace FA := FA2
  replace hb := Only.below hb o2 hg hb.size
  clear FA2 o2
  replace FA : TAt R w2 gt 2 := FA
  go_wp2_with fail
  refine (HTick gt 2 w2 FA (by unfold InT; decide)).mono ?_
  rintro e w3 ⟨rfl, FA2, o2⟩
  replace FA := FA2
  replace hb := Only.below hb o2 hg hb.size
  clear FA2 o2
  replace FA : TAt R w3 gt 1 := FA
  go_wp2_with fail
  refine (HTick gt 1 w3 FA (by unfold InT; decide)).mono ?_
  rintro e w4 ⟨rfl, FA2, o2⟩
  replace FA := FA2
  replace hb := Only.below hb o2 hg hb.size
  clear FA2 o2
  replace FA : TAt R w4 gt 0 := FA
  go_wp2_with fail
  refine (HTick gt 0 w4 FA (by unfold InT; decide)).mono ?_
  rintro e w5 ⟨rfl, FA2, o2⟩
  replace FA := FA2
  replace hb := Only.below hb o2 hg hb.size
  clear FA2 o2
  go_wp2_with fail
  go_ret
  exact ⟨rfl, hb⟩

/-- What is left ahead of tick i of k. -/
def leftK (k i : Int) : Int := if i ≤ k then k - i + 1 else 0
theorem leftK_in {k i : Int} (hk : 1 ≤ k) (hk2 : k ≤ 1073741824) (hi : 1 ≤ i) : InT (leftK k i) := by
  unfold leftK InT
  split <;> omega
theorem leftK_first (k : Int) (hk : 1 ≤ k) : leftK k 1 = k := by
  unfold leftK
  rw [if_pos (by omega)]
  omega
theorem leftK_tick (k i : Int) : tickT (leftK k i) = leftK k (i + 1) := by
  unfold leftK tickT
  split
  · split
    · split <;> omega
    · split <;> omega
  · split <;> omega
theorem leftK_rings (k i : Int) : (leftK k i == 1) = (i == k) := by
  rw [Bool.eq_iff_iff, beq_iff_eq, beq_iff_eq]
  unfold leftK
  split <;> omega
theorem leftK_max (k i : Int) : leftK k (i + 1) = max 0 (k - i) := by
  unfold leftK
  split <;> omega

set_option maxRecDepth 100000 in
set_option maxHeartbeats 8000000 in
theorem timerOnce_from {R : List Value → Int → Prop} (HNew : CNewT R) (HTick : CTickT R) (HStart : CStartT R) (HLeft : CLeftT R) (n more : Int) (w : World) :
    Calls Try.prog 4 #[.int .i64 n, .int .i64 more] w fun e w' => e = .returned (.bool true) ∧ Below w.heap.size w w' := by
  go_enter Try.func4, Try.ntmps4
  obtain ⟨M, hM⟩ : ∃ M : Int, more % 20 = M := ⟨_, rfl⟩
  have hM0 : 0 ≤ M := by omega
  have hM1 : M < 20 := by omega
  have HP := hid fun wx => place_any more 20 wx (by decide) (by decide)
  rw [hM] at HP
  clear hM
  go_wp2_with fail
  refine (place_in n 300 w (by decide) (by decide)).mono ?_
  rintro e w' ⟨y, rfl, hy0, hy1, -, rfl⟩
  obtain ⟨k, hky⟩ : ∃ k : Int, 1 + y = k := ⟨_, rfl⟩
  have hk0 : 1 ≤ k := by omega
  have hk1 : k ≤ 300 := by omega
  go_wp2_with fail
  refine (HNew _).mono ?_
  rintro e w1 ⟨gt, rfl, hg, FA, hb⟩
  clear hky hy0 hy1
  go_wp2_with fail
  refine (HLeft gt 0 w1 FA).mono ?_
  rintro e w2 ⟨rfl, b2⟩
  replace FA := FA.below b2
  replace hb := bnext hb b2
  clear b2
  go_wp2_with fail
  refine (HTick gt 0 w2 FA (by unfold InT; decide)).mono ?_
  rintro e w3 ⟨rfl, FA2, o2⟩
  replace FA := FA2
  replace hb := Only.below hb o2 hg hb.size
  clear FA2 o2
  replace FA : TAt R w3 gt 0 := FA
  go_wp2_with fail
  refine (HStart gt 0 k w3 FA).mono ?_
  rintro e w4 ⟨rfl, FA2, o2⟩
  replace FA := FA2
  replace hb := Only.below hb o2 hg hb.size
  clear FA2 o2
  rw [clampT_in hk0 (by omega)] at FA
  go_wp2_with fail
  go_loopw [7] (fun iv wr => ∃ i : Int, 1 ≤ i ∧ i ≤ k + M + 1 ∧ iv = .int .i64 i ∧ TAt R wr gt (leftK k i) ∧ Below w.heap.size w wr) (fun iv _ => (k + M + 1 - intOf iv).toNat)
  case atStart => exact ⟨1, by decide, by omega, rfl, by rw [leftK_first k hk0]; exact FA, hb⟩
  case round =>
    obtain ⟨i, hi1, hi2, rfl, FA, hb⟩ := hrel
    go_wp2_with fail
    refine (HP.out _).mono ?_
    rintro e w' ⟨rfl, rfl⟩
    by_cases hle : i ≤ k + M
    · have hin := leftK_in hk0 (by omega) hi1
      have hr := leftK_rings k i
      have ht := leftK_tick k i
      have hm := leftK_max k i
      replace hm := hid hm
      replace ht := hid ht
      replace hr := hid hr
      go_wp2_with fail
      refine (HTick gt (leftK k i) wr FA (hin)).mono ?_
      rintro e w5 ⟨rfl, FA2, o2⟩
      replace FA := FA2
      replace hb := Only.below hb o2 hg hb.size
      clear FA2 o2
      rw [hr.out, ht.out] at *
      go_wp2_with fail
      refine (HLeft gt (leftK k (i + 1)) w5 FA).mono ?_
      rintro e w6 ⟨rfl, b2⟩
      replace FA := FA.below b2
      replace hb := bnext hb b2
      clear b2
      have HM := hid (show TAt R w6 gt (leftK k (i + 1)) from FA)
      rw [hm.out]
      go_wp2_with fail
      go_roundw
      case rel => exact ⟨i + 1, by omega, by omega, by go_num, HM.out, hb⟩
      case measure => simp [intOf]; omega
    · go_wp2_with fail
      refine (awake15_from HNew HTick HStart _).mono ?_
      rintro e wz ⟨rfl, bz⟩
      go_wp2_with fail
      go_ret
      exact ⟨rfl, bnext hb bz⟩

set_option maxRecDepth 100000 in
set_option maxHeartbeats 8000000 in
theorem timerStops_from {R : List Value → Int → Prop} (HNew : CNewT R) (HTick : CTickT R) (HStart : CStartT R) (HLeft : CLeftT R) (HStop : CStopT R) (n at' again : Int) (w : World) :
    Calls Try.prog 5 #[.int .i64 n, .int .i64 at', .int .i64 again] w fun e w' => e = .returned (.bool true) ∧ Below w.heap.size w w' := by
  go_enter Try.func5, Try.ntmps5
  go_wp2_with fail
  refine (place_in n 100 w (by decide) (by decide)).mono ?_
  rintro e w' ⟨y, rfl, hy0, hy1, -, rfl⟩
  obtain ⟨k, hky⟩ : ∃ k : Int, 2 + y = k := ⟨_, rfl⟩
  have hk0 : 2 ≤ k := by omega
  have hk1 : k ≤ 102 := by omega
  go_wp2_with fail
  clear hky hy0 hy1
  refine (place_in at' (k - 1) w (by omega) (by omega)).mono ?_
  rintro e w' ⟨a, rfl, ha0, ha1, -, rfl⟩
  go_wp2_with fail
  refine (HNew _).mono ?_
  rintro e w1 ⟨gt, rfl, hg, FA, hb⟩
  go_wp2_with fail
  refine (HStart gt 0 k w1 FA).mono ?_
  rintro e w2 ⟨rfl, FA2, o2⟩
  replace FA := FA2
  replace hb := Only.below hb o2 hg hb.size
  clear FA2 o2
  rw [clampT_in (by omega) (by omega)] at FA
  go_wp2_with fail
  go_loopw [10] (fun iv wr => ∃ i : Int, 0 ≤ i ∧ i ≤ a ∧ iv = .int .i64 i ∧ TAt R wr gt (k - i) ∧ Below w.heap.size w wr) (fun iv _ => (a - intOf iv).toNat)
  case atStart => exact ⟨0, by decide, ha0, rfl, by rw [Int.sub_zero]; exact FA, hb⟩
  case round =>
    obtain ⟨i, hi0, hia, rfl, FA, hb⟩ := hrel
    by_cases hlt : i < a
    · have hin : InT (k - i) := by unfold InT; omega
      have hr : (k - i == 1) = false := beq_false_of_ne (by omega)
      have ht := hid (show tickT (k - i) = k - (i + 1) by rw [tickT_pos (by omega)]; omega)
      replace hr := hid hr
      go_wp2_with fail
      refine (HTick gt (k - i) wr FA (hin)).mono ?_
      rintro e w5 ⟨rfl, FA2, o2⟩
      replace FA := FA2
      replace hb := Only.below hb o2 hg hb.size
      clear FA2 o2
      rw [ht.out] at FA
      rw [hr.out]
      go_wp2_with fail
      go_roundw
      case rel => exact ⟨i + 1, by omega, by omega, by go_num, FA, hb⟩
      case measure => simp [intOf]; omega
    · obtain rfl : i = a := by omega
      go_wp2_with fail
      refine (HStop gt (k - i) wr FA).mono ?_
      rintro e w6 ⟨rfl, FA2, o2⟩
      replace FA := FA2
      replace hb := Only.below hb o2 hg hb.size
      clear FA2 o2
      go_wp2_with fail
      go_loopw [11] (fun iv wr => ∃ j : Int, 0 ≤ j ∧ j ≤ 5 ∧ iv = .int .i64 j ∧ TAt R wr gt 0 ∧ Below w.heap.size w wr) (fun iv _ => (5 - intOf iv).toNat)
      case atStart => exact ⟨0, by decide, by decide, rfl, FA, hb⟩
      case round =>
        obtain ⟨j, hj0, hj5, rfl, FA, hb⟩ := hrel
        by_cases hj : j < 5
        · skip
          go_wp2_with fail
          refine (HTick gt 0 wr FA (by unfold InT; decide)).mono ?_
          rintro e w7 ⟨rfl, FA2, o2⟩
          replace FA := FA2
          replace hb := Only.below hb o2 hg hb.size
          clear FA2 o2
          replace FA : TAt R w7 gt 0 := FA
          go_wp2_with fail
          refine (HLeft gt 0 w7 FA).mono ?_
          rintro e w8 ⟨rfl, b2⟩
          replace FA := FA.below b2
          replace hb := bnext hb b2
          clear b2
          go_wp2_with fail
          go_roundw
          case rel => exact ⟨j + 1, by omega, by omega, by go_num, FA, hb⟩
          case measure => simp [intOf]; omega
        · go_wp2_with fail
          refine (place_in again 50 _ (by decide) (by decide)).mono ?_
          rintro e w' ⟨z, rfl, hz0, hz1, -, rfl⟩
          obtain ⟨m, hmz⟩ : ∃ m : Int, 1 + z = m := ⟨_, rfl⟩
          have hm0 : 1 ≤ m := by omega
          have hm1 : m ≤ 50 := by omega
          go_wp2_with fail
          refine (HStart gt 0 7 wr FA).mono ?_
          rintro e w9 ⟨rfl, FA2, o2⟩
          replace FA := FA2
          replace hb := Only.below hb o2 hg hb.size
          clear FA2 o2
          clear hmz hz0 hz1
          go_wp2_with fail
          refine (HStart gt (clampT 7) m w9 FA).mono ?_
          rintro e w10 ⟨rfl, FA2, o2⟩
          replace FA := FA2
          replace hb := Only.below hb o2 hg hb.size
          clear FA2 o2
          rw [clampT_in hm0 (by omega)] at FA
          go_wp2_with fail
          go_loopw [13] (fun iv wr => ∃ q : Int, 1 ≤ q ∧ q ≤ m + 1 ∧ iv = .int .i64 q ∧ TAt R wr gt (leftK m q) ∧ Below w.heap.size w wr) (fun iv _ => (m + 1 - intOf iv).toNat)
          case atStart => exact ⟨1, by decide, by omega, rfl, by rw [leftK_first m hm0]; exact FA, hb⟩
          case round =>
            obtain ⟨q, hq1, hq2, rfl, FA, hb⟩ := hrel
            by_cases hle : q ≤ m
            · have hin := leftK_in hm0 (by omega) hq1
              have hr := hid (leftK_rings m q)
              have ht := hid (leftK_tick m q)
              go_wp2_with fail
              refine (HTick gt (leftK m q) wr FA (hin)).mono ?_
              rintro e w11 ⟨rfl, FA2, o2⟩
              replace FA := FA2
              replace hb := Only.below hb o2 hg hb.size
              clear FA2 o2
              rw [ht.out] at FA
              rw [hr.out]
              go_wp2_with fail
              go_roundw
              case rel => exact ⟨q + 1, by omega, by omega, by go_num, FA, hb⟩
              case measure => simp [intOf]; omega
            · go_wp2_with fail
              refine (awake15_from HNew HTick HStart _).mono ?_
              rintro e wz ⟨rfl, bz⟩
              go_wp2_with fail
              go_ret
              exact ⟨rfl, bnext hb bz⟩

end Go.Proofs.Ytgmigoimhdlmcaa
