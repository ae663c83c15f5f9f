/- carillonlaw21: awake, All, Table, Faults, from contracts of the program's own (gen_porlaws.py). -/
import Derived.Test.YtnjonglljlbcbaaPorRef
namespace Go.Proofs.Ytnjonglljlbcbaa
open Go.RowKit Go.Proofs
set_option maxRecDepth 50000
set_option linter.unusedVariables false
set_option linter.unusedSimpArgs false

set_option maxRecDepth 100000 in
set_option maxHeartbeats 8000000 in
theorem awake21_from (HN : CNextP) (HM : CNameP) (HA : CAliveP) (w : World) :
    Calls Try.prog 19 #[] w fun e w' => e = .returned (.bool true) ∧ Below w.heap.size w w' := by
  go_enter Try.func19, Try.ntmps19
  go_wp2_with fail
  refine (HN 4 4 false _).mono ?_
  rintro e wq ⟨rfl, hb⟩
  rw [show nxtI 4 4 false = 6 by decide]
  go_wp2_with fail
  refine (HM 9 _).mono ?_
  rintro e wq ⟨rfl, bq⟩
  rw [show nameS 9 = ⟨#[115, 108, 97, 118, 101]⟩ by rfl]
  replace hb := bnext hb bq
  clear bq
  go_wp2_with fail
  refine (HA 7 _).mono ?_
  rintro e wq ⟨rfl, bq⟩
  rw [show aliveB 7 = true by decide]
  replace hb := bnext hb bq
  clear bq
  go_wp2_with fail
  go_ret
  exact ⟨rfl, hb⟩

set_option maxRecDepth 100000 in
set_option maxHeartbeats 8000000 in
theorem portAll_from (HN : CNextP) (HD : CDecP) (HH : CHearsP) (HF : CFollP) (HA : CAliveP) (HM : CNameP) (s ev d : Int) (same so : Bool) (w : World) :
    Calls Try.prog 3 #[.int .i64 s, .int .i64 ev, .int .i64 d, .bool same, .bool so] w fun e w' => e = .returned (.bool true) ∧ Below w.heap.size w w' := by
  go_enter Try.func3, Try.ntmps3
  go_wp2_with fail
  refine (HN s ev so _).mono ?_
  rintro e wq ⟨rfl, bq⟩
  have hb := bq
  clear bq
  go_wp2_with fail
  refine (refNext_any s ev so _).mono ?_
  rintro e wq ⟨rfl, bq⟩
  replace hb := bnext hb bq
  clear bq
  generalize nxtI s ev so = x1 at *
  go_wp2_with fail
  refine (HD s d same so _).mono ?_
  rintro e wq ⟨rfl, bq⟩
  replace hb := bnext hb bq
  clear bq
  go_wp2_with fail
  refine (refDecided_any s d same so _).mono ?_
  rintro e wq ⟨rfl, bq⟩
  replace hb := bnext hb bq
  clear bq
  generalize decI s d same so = x2 at *
  go_wp2_with fail
  refine (HH s _).mono ?_
  rintro e wq ⟨rfl, bq⟩
  replace hb := bnext hb bq
  clear bq
  go_wp2_with fail
  refine (refHears_any s _).mono ?_
  rintro e wq ⟨rfl, bq⟩
  replace hb := bnext hb bq
  clear bq
  generalize hearsB s = x3 at *
  cases x3
  all_goals
    go_wp2_with fail
    refine (HF s _).mono ?_
    rintro e wq ⟨rfl, bq⟩
    replace hb := bnext hb bq
    clear bq
    go_wp2_with fail
    refine (refFollows_any s _).mono ?_
    rintro e wq ⟨rfl, bq⟩
    replace hb := bnext hb bq
    clear bq
    generalize folI s = x4 at *
    cases x4
    all_goals
      go_wp2_with fail
      refine (HA s _).mono ?_
      rintro e wq ⟨rfl, bq⟩
      replace hb := bnext hb bq
      clear bq
      go_wp2_with fail
      refine (refAlive_any s _).mono ?_
      rintro e wq ⟨rfl, bq⟩
      replace hb := bnext hb bq
      clear bq
      generalize aliveB s = x5 at *
      cases x5
      all_goals
        go_wp2_with fail
        refine (HM s _).mono ?_
        rintro e wq ⟨rfl, bq⟩
        replace hb := bnext hb bq
        clear bq
        go_wp2_with fail
        refine (refName_any s _).mono ?_
        rintro e wq ⟨rfl, bq⟩
        replace hb := bnext hb bq
        clear bq
        generalize nameS s = x6 at *
        go_wp2_with fail
        refine (awake21_from HN HM HA _).mono ?_
        rintro e wq ⟨rfl, bq⟩
        replace hb := bnext hb bq
        clear bq
        go_wp2_with fail
        go_ret
        exact ⟨rfl, hb⟩

set_option maxRecDepth 100000 in
set_option maxHeartbeats 8000000 in
theorem portTable_from (HN : CNextP) (HD : CDecP) (HH : CHearsP) (HF : CFollP) (HA : CAliveP) (HM : CNameP) (w : World) :
    Calls Try.prog 4 #[] w fun e w' => e = .returned (.bool true) ∧ Below w.heap.size w w' := by
  go_enter Try.func4, Try.ntmps4
  go_wp2_with fail
  go_loopw [1] (fun sv wr => ∃ s : Nat, s ≤ 11 ∧ sv = .int .i64 (s : Int) ∧ Below w.heap.size w wr) (fun sv _ => (11 - intOf sv).toNat)
  case atStart => exact ⟨0, by decide, rfl, Below.refl _ _⟩
  case round =>
    obtain ⟨s, hs, rfl, hb⟩ := hrel
    by_cases hlt : s < 11
    · have hsI : (s : Int) ≤ 10 := by omega
      go_wp2_with fail
      go_loopw [2] (fun qv wr => ∃ q : Nat, q ≤ 10 ∧ qv = .int .i64 (q : Int) ∧ Below w.heap.size w wr) (fun qv _ => (10 - intOf qv).toNat)
      case atStart => exact ⟨0, by decide, rfl, hb⟩
      case round =>
        clear hb
        obtain ⟨q, hq, rfl, hb⟩ := hrel
        by_cases hql : q < 10
        · have hqI : (q : Int) ≤ 9 := by omega
          go_wp2_with fail
          refine (portAll_from HN HD HH HF HA HM (s : Int) (q : Int) (q : Int) _ _ _).mono ?_
          rintro e wq ⟨rfl, bq⟩
          replace hb := bnext hb bq
          clear bq
          go_wp2_with fail
          refine (portAll_from HN HD HH HF HA HM (s : Int) (q : Int) (q : Int) _ _ _).mono ?_
          rintro e wq ⟨rfl, bq⟩
          replace hb := bnext hb bq
          clear bq
          go_wp2_with fail
          refine (portAll_from HN HD HH HF HA HM (s : Int) (q : Int) (q : Int) _ _ _).mono ?_
          rintro e wq ⟨rfl, bq⟩
          replace hb := bnext hb bq
          clear bq
          go_wp2_with fail
          refine (portAll_from HN HD HH HF HA HM (s : Int) (q : Int) (q : Int) _ _ _).mono ?_
          rintro e wq ⟨rfl, bq⟩
          replace hb := bnext hb bq
          clear bq
          go_wp2_with fail
          go_roundw
          case rel => exact ⟨q + 1, by omega, by go_num, hb⟩
          case measure => simp [intOf]; omega
        · have hqI : ¬ (q : Int) ≤ 9 := by omega
          go_wp2_with fail
          go_roundw
          case rel => exact ⟨s + 1, by omega, by go_num, hb⟩
          case measure => simp [intOf]; omega
    · have hsI : ¬ (s : Int) ≤ 10 := by omega
      go_wp2_with fail
      refine (awake21_from HN HM HA _).mono ?_
      rintro e wq ⟨rfl, bq⟩
      replace hb := bnext hb bq
      clear bq
      go_wp2_with fail
      go_ret
      exact ⟨rfl, hb⟩

theorem IntsAt.rowP {w : World} {p : Option Addr} {zs : List Int} (h : IntsAt w p zs) (hl : 0 < zs.length) :
    ∃ b off, p = some ⟨b, off, none⟩ ∧ ∀ wx, Below w.heap.size w wx → ∀ i (h : i < zs.length), wx.cell? ⟨b, off + i, none⟩ = some (.int .i64 zs[i]) := by
  obtain ⟨b, off, rfl, hlt, hc⟩ := h.pos hl
  exact ⟨b, off, rfl, fun wx hx i hi => by rw [hx.cell (p := ⟨b, off + i, none⟩) hlt]; exact hc i hi⟩

set_option maxRecDepth 100000 in
set_option maxHeartbeats 8000000 in
theorem portFaults_from (HN : CNextP) (HM : CNameP) (HA : CAliveP) (v : Value) (zs : List Int) (so : Bool) (w : World) (hI : Ints w v zs) :
    Calls Try.prog 6 #[v, .bool so] w fun e w' => e = .returned (.bool true) ∧ Below w.heap.size w w' := by
  obtain ⟨pk, cappk, rfl, hcappk, hmaxpk, hatpk⟩ := hI
  have ROWpk := hid fun h => IntsAt.rowP hatpk h
  clear hatpk
  unfold maxLen at hmaxpk
  go_enter Try.func6, Try.ntmps6
  have m3 : ∀ n : Int, bits BinOp.and IntKind.i64 n 7 = n % 8 := fun n => and_mask n 3 (by decide)
  go_wp2_with fail
  go_loopw [5, 6] (fun sv iv wr => ∃ (k : Nat) (s : Int), k ≤ zs.length ∧ sv = .int .i64 s ∧ iv = .int .i64 (k : Int) ∧ Below w.heap.size w wr) (fun _ iv _ => zs.length - (intOf iv).toNat)
  case atStart => exact ⟨0, 1, Nat.zero_le _, rfl, rfl, Below.refl _ _⟩
  case round =>
    obtain ⟨k, s, hkz, rfl, rfl, hb⟩ := hrel
    by_cases hlt : k < zs.length ∧ k < 100
    · skip
      obtain ⟨hk, hkn⟩ := hlt
      have hkI : (k : Int) < (zs.length : Int) := by omega
      have hk2I : (k : Int) < 100 := by omega
      obtain ⟨b0, off, rfl, hc⟩ := ROWpk.out (by omega)
      obtain ⟨z, hz⟩ : ∃ z, zs[k] = z := ⟨_, rfl⟩
      have hcell := (hc _ hb k hk).trans (by rw [hz])
      clear hc hz
      have hz7 := m3 z
      obtain ⟨y, hy⟩ : ∃ y, z % 8 = y := ⟨_, rfl⟩
      rw [hy] at hz7
      have hy0 : 0 ≤ y := by omega
      have hy1 : y < 8 := by omega
      clear hy m3
      go_wp2_with fail
      refine (HN s _ so _).mono ?_
      rintro e wq ⟨rfl, bq⟩
      replace hb := bnext hb bq
      clear bq hcell
      generalize nxtI s _ so = t at *
      by_cases ht : t = 3
      · subst ht
        go_wp2_with fail
        refine (HN 3 2 so _).mono ?_
        rintro e wq ⟨rfl, bq⟩
        rw [show nxtI 3 2 so = 3 from by unfold nxtI; simp]
        replace hb := bnext hb bq
        clear bq
        go_wp2_with fail
        refine (HN 3 8 so _).mono ?_
        rintro e wq ⟨rfl, bq⟩
        rw [show nxtI 3 8 so = 1 from by unfold nxtI; simp]
        replace hb := bnext hb bq
        clear bq
        go_wp2_with fail
        refine (HN 3 1 so _).mono ?_
        rintro e wq ⟨rfl, bq⟩
        rw [show nxtI 3 1 so = 3 from by unfold nxtI; simp]
        replace hb := bnext hb bq
        clear bq
        go_wp2_with fail
        go_roundw
        case rel => exact ⟨k + 1, _, hk, rfl, by go_num, hb⟩
        case measure => simp [intOf]; omega
      · have bt : (t == 3) = false := beq_false_of_ne ht
        have n1 : nxtI t 2 so = 2 := by unfold nxtI; simp [ht]
        have n2 : nxtI t 7 so = 3 := by unfold nxtI; simp
        clear ht
        go_wp2_with fail
        refine (HN t 2 so _).mono ?_
        rintro e wq ⟨rfl, bq⟩
        rw [show nxtI t 2 so = 2 from n1]
        replace hb := bnext hb bq
        clear bq
        go_wp2_with fail
        refine (HN 2 3 so _).mono ?_
        rintro e wq ⟨rfl, bq⟩
        rw [show nxtI 2 3 so = 1 from by unfold nxtI; simp]
        replace hb := bnext hb bq
        clear bq
        go_wp2_with fail
        refine (HN 2 1 so _).mono ?_
        rintro e wq ⟨rfl, bq⟩
        rw [show nxtI 2 1 so = 2 from by unfold nxtI; simp]
        replace hb := bnext hb bq
        clear bq
        go_wp2_with fail
        refine (HN t 7 so _).mono ?_
        rintro e wq ⟨rfl, bq⟩
        rw [show nxtI t 7 so = 3 from n2]
        replace hb := bnext hb bq
        clear bq
        go_wp2_with fail
        go_roundw
        case rel => exact ⟨k + 1, _, hk, rfl, by go_num, hb⟩
        case measure => simp [intOf]; omega
    · clear m3
      go_wp2_with fail
      all_goals
        refine (awake21_from HN HM HA _).mono ?_
        rintro e wq ⟨rfl, bq⟩
        replace hb := bnext hb bq
        clear bq
        go_wp2_with fail
        go_ret
        exact ⟨rfl, hb⟩

end Go.Proofs.Ytnjonglljlbcbaa
