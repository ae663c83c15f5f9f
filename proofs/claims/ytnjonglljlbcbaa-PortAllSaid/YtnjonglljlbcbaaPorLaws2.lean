/- carillonlaw21: States, from contracts of the program's own (gen_porlaws.py). -/
import Derived.Test.YtnjonglljlbcbaaPorLaws1
namespace Go.Proofs.Ytnjonglljlbcbaa
open Go.RowKit Go.Proofs
set_option maxRecDepth 50000
set_option linter.unusedVariables false
set_option linter.unusedSimpArgs false

def okS (s : Int) (so : Bool) : Bool := decide (1 ≤ s) && decide (s ≤ 9) && !(so && (s == 6 || s == 5 || s == 7))
def stepS (s k : Int) (so : Bool) : Int := if k < 16 then nxtI s k so else decI s (k - 16) (k % 2 == 0) so
def fineS (s k t : Int) (so : Bool) : Bool := okS t so && !(decide (16 ≤ k) && !aliveB s && !(t == s)) && !(t == 9 && !(s == 9) && (decide (16 ≤ k) || !(k == 6))) && !(nameS t == ⟨#[]⟩)
theorem all_fine : ((List.range 10).all fun s => (List.range 32).all fun k => [true, false].all fun so => !okS s so || fineS s k (stepS s k so) so) = true := by kernel_rfl
theorem step_fine {s k : Int} {so : Bool} (hs : okS s so = true) (hk0 : 0 ≤ k) (hk1 : k < 32) : fineS s k (stepS s k so) so = true := by
  have h1 : 1 ≤ s ∧ s ≤ 9 := by
    unfold okS at hs
    simp only [Bool.and_eq_true, decide_eq_true_eq] at hs
    exact hs.1
  have h := List.all_eq_true.1 all_fine s.toNat (List.mem_range.2 (by omega))
  have h2 := List.all_eq_true.1 h k.toNat (List.mem_range.2 (by omega))
  have h3 := List.all_eq_true.1 h2 so (by cases so <;> simp)
  rw [Int.toNat_of_nonneg (by omega), Int.toNat_of_nonneg (by omega), hs] at h3
  simpa using h3
theorem fine_says {s k t : Int} {so : Bool} (h : fineS s k t so = true) : okS t so = true ∧ (1 ≤ t ∧ t ≤ 9) ∧ (so = true → (t == 6) = false ∧ (t == 5) = false ∧ (t == 7) = false) ∧ (16 ≤ k → aliveB s = false → t = s) ∧ (t = 9 → s ≠ 9 → k = 6) ∧ nameS t ≠ ⟨#[]⟩ ∧ (nameS t == ⟨#[]⟩) = false := by
  unfold fineS at h
  simp only [Bool.and_eq_true, Bool.not_eq_true'] at h
  obtain ⟨⟨⟨h1, h2⟩, h3⟩, h4⟩ := h
  have h5 := h1
  unfold okS at h5
  simp only [Bool.and_eq_true, Bool.not_eq_true', decide_eq_true_eq] at h5
  refine ⟨h1, h5.1, ?_, ?_, ?_, ?_, h4⟩
  · intro hso
    have := h5.2
    rw [hso, Bool.true_and, Bool.or_eq_false_iff, Bool.or_eq_false_iff] at this
    exact ⟨this.1.1, this.1.2, this.2⟩
  · intro hk ha
    rw [decide_eq_true hk, ha] at h2
    simpa using h2
  · intro ht hs
    subst ht
    by_cases hk : k = 6
    · exact hk
    · rw [beq_false_of_ne hs, beq_false_of_ne hk] at h3
      simp at h3
  · intro hn
    rw [hn] at h4
    exact absurd h4 (by decide)

set_option maxRecDepth 100000 in
set_option maxHeartbeats 8000000 in
theorem portStates_from (HN : CNextP) (HD : CDecP) (HA : CAliveP) (HM : CNameP) (v : Value) (zs : List Int) (so : Bool) (w : World) (hI : Ints w v zs) :
    Calls Try.prog 5 #[v, .bool so] w fun e w' => e = .returned (.bool true) ∧ Below w.heap.size w w' := by
  obtain ⟨pk, cappk, rfl, hcappk, hmaxpk, hatpk⟩ := hI
  have ROWpk := hid fun h => IntsAt.rowP hatpk h
  clear hatpk
  unfold maxLen at hmaxpk
  go_enter Try.func5, Try.ntmps5
  go_wp2_with fail
  go_loopw [5, 6, 7, 8] (fun sv iv _ _ wr => ∃ (k : Nat) (s : Int), k ≤ zs.length ∧ okS s so = true ∧ sv = .int .i64 s ∧ iv = .int .i64 (k : Int) ∧ Below w.heap.size w wr) (fun _ iv _ _ _ => zs.length - (intOf iv).toNat)
  case atStart => exact ⟨0, 1, Nat.zero_le _, by cases so <;> decide, rfl, rfl, Below.refl _ _⟩
  case round =>
    obtain ⟨k, s, hkz, hok, rfl, rfl, hb⟩ := hrel
    by_cases hlt : k < zs.length ∧ k < 200
    · skip
      obtain ⟨hk, hkn⟩ := hlt
      have hkI : (k : Int) < (zs.length : Int) := by omega
      have hk2I : (k : Int) < 200 := by omega
      obtain ⟨b0, off, rfl, hc⟩ := ROWpk.out (by omega)
      obtain ⟨z, hz⟩ : ∃ z, zs[k] = z := ⟨_, rfl⟩
      have hcell := (hc _ hb k hk).trans (by rw [hz])
      clear hc hz
      go_wp2_with fail
      refine (place_in z 32 _ (by decide) (by decide)).mono ?_
      rintro e w' ⟨y, rfl, hy0, hy1, -, rfl⟩
      clear hcell
      have hf := step_fine hok hy0 hy1
      have hsv : stepS s y so = if y < 16 then nxtI s y so else decI s (y - 16) (y % 2 == 0) so := rfl
      by_cases h16 : y < 16
      · rw [if_pos h16] at hsv
        rw [hsv] at hf
        replace hf := hid hf
        clear hsv hok
        have hn16 : ¬ 16 ≤ y := by omega
        have dy : decide (16 ≤ y) = false := decide_eq_false hn16
        go_wp2_with fail
        refine (HN s y so _).mono ?_
        rintro e wq ⟨rfl, bq⟩
        replace hb := bnext hb bq
        clear bq
        generalize nxtI s y so = t at *
        obtain ⟨ok2, ⟨t1, t9⟩, hso, -, h9, hna, hnb⟩ := fine_says hf.out
        have HOK := hid ok2
        have HM2 := hid (HM t)
        have dt1 : decide (t < 1) = false := decide_eq_false (by omega)
        have dt9 : decide (9 < t) = false := decide_eq_false (by omega)
        clear hf ok2
        generalize nameS t = NA at *
        obtain ⟨nl, rfl⟩ : ∃ nl : List UInt8, NA = ⟨nl.toArray⟩ := ⟨NA.data.toList, by cases NA; simp⟩
        have hnl : ¬ nl = [] := fun h => hna (by rw [h])
        have hni : nl.isEmpty = false := by cases nl with | nil => exact absurd rfl hnl | cons a b => rfl
        clear hna hnb
        cases so
        · clear hso
          by_cases ht9 : t = 9
          · have bt9 : (t == 9) = true := beq_iff_eq.2 ht9
            by_cases hs9 : s = 9
            · have bs9 : (s != 9) = false := by rw [hs9]; rfl
              clear h9 ht9 hs9
              go_wp2_with fail
              refine (HM2.out _).mono ?_
              rintro e wq ⟨rfl, bq⟩
              replace hb := bnext hb bq
              clear bq
              go_wp2_with fail
              go_roundw
              case rel => exact ⟨k + 1, t, hk, HOK.out, rfl, by go_num, hb⟩
              case measure => simp [intOf]; omega
            · have hk6 := h9 ht9 hs9
              subst hk6
              have bs9 : (s != 9) = true := bne_iff_ne.2 hs9
              clear h9 ht9 hs9 hy0 hy1 hn16 dy
              go_wp2_with fail
              refine (HM2.out _).mono ?_
              rintro e wq ⟨rfl, bq⟩
              replace hb := bnext hb bq
              clear bq
              go_wp2_with fail
              go_roundw
              case rel => exact ⟨k + 1, t, hk, HOK.out, rfl, by go_num, hb⟩
              case measure => simp [intOf]; omega
          · have bt9 : (t == 9) = false := beq_false_of_ne ht9
            clear h9 ht9
            go_wp2_with fail
            refine (HM2.out _).mono ?_
            rintro e wq ⟨rfl, bq⟩
            replace hb := bnext hb bq
            clear bq
            go_wp2_with fail
            go_roundw
            case rel => exact ⟨k + 1, t, hk, HOK.out, rfl, by go_num, hb⟩
            case measure => simp [intOf]; omega
        · obtain ⟨q6, q5, q7⟩ := hso rfl
          clear hso
          by_cases ht9 : t = 9
          · have bt9 : (t == 9) = true := beq_iff_eq.2 ht9
            by_cases hs9 : s = 9
            · have bs9 : (s != 9) = false := by rw [hs9]; rfl
              clear h9 ht9 hs9
              go_wp2_with fail
              refine (HM2.out _).mono ?_
              rintro e wq ⟨rfl, bq⟩
              replace hb := bnext hb bq
              clear bq
              go_wp2_with fail
              go_roundw
              case rel => exact ⟨k + 1, t, hk, HOK.out, rfl, by go_num, hb⟩
              case measure => simp [intOf]; omega
            · have hk6 := h9 ht9 hs9
              subst hk6
              have bs9 : (s != 9) = true := bne_iff_ne.2 hs9
              clear h9 ht9 hs9 hy0 hy1 hn16 dy
              go_wp2_with fail
              refine (HM2.out _).mono ?_
              rintro e wq ⟨rfl, bq⟩
              replace hb := bnext hb bq
              clear bq
              go_wp2_with fail
              go_roundw
              case rel => exact ⟨k + 1, t, hk, HOK.out, rfl, by go_num, hb⟩
              case measure => simp [intOf]; omega
          · have bt9 : (t == 9) = false := beq_false_of_ne ht9
            clear h9 ht9
            go_wp2_with fail
            refine (HM2.out _).mono ?_
            rintro e wq ⟨rfl, bq⟩
            replace hb := bnext hb bq
            clear bq
            go_wp2_with fail
            go_roundw
            case rel => exact ⟨k + 1, t, hk, HOK.out, rfl, by go_num, hb⟩
            case measure => simp [intOf]; omega
      · rw [if_neg h16] at hsv
        rw [hsv] at hf
        replace hf := hid hf
        clear hsv hok
        have hge : 16 ≤ y := by omega
        have dy : decide (16 ≤ y) = true := decide_eq_true hge
        have hyw : IntKind.i64.wrap (y - 16) = y - 16 := by rw [IntKind.wrap_i64]; omega
        have hym : y.tmod 2 = y % 2 := Int.tmod_eq_emod_of_nonneg hy0
        obtain ⟨E, hE⟩ : ∃ E, (y % 2 == 0) = E := ⟨_, rfl⟩
        have hE2 : decide (y % 2 = 0) = E := by rw [← hE, Bool.eq_iff_iff, decide_eq_true_eq, beq_iff_eq]
        rw [hE] at hf
        have HF9 := hid hf
        clear hf
        go_wp2_with fail
        refine (HD s (y - 16) E so _).mono ?_
        rintro e wq ⟨rfl, bq⟩
        replace hb := bnext hb bq
        clear bq hyw hym hE hE2
        generalize decI s (y - 16) E so = t at *
        obtain ⟨ok2, ⟨t1, t9⟩, hso, hal, h9, hna, hnb⟩ := fine_says HF9.out
        have HOK := hid ok2
        have HM2 := hid (HM t)
        have dt1 : decide (t < 1) = false := decide_eq_false (by omega)
        have dt9 : decide (9 < t) = false := decide_eq_false (by omega)
        have HA2 := hid (HA s)
        clear HF9 ok2
        generalize nameS t = NA at *
        obtain ⟨nl, rfl⟩ : ∃ nl : List UInt8, NA = ⟨nl.toArray⟩ := ⟨NA.data.toList, by cases NA; simp⟩
        have hnl : ¬ nl = [] := fun h => hna (by rw [h])
        have hni : nl.isEmpty = false := by cases nl with | nil => exact absurd rfl hnl | cons a b => rfl
        clear hna hnb
        replace hal := hal hge
        generalize aliveB s = AL at *
        cases AL
        · have hts := hal rfl
          have bts : (t != s) = false := by rw [hts]; simp
          clear hal hts
          cases so
          · clear hso
            by_cases ht9 : t = 9
            · have bt9 : (t == 9) = true := beq_iff_eq.2 ht9
              by_cases hs9 : s = 9
              · have bs9 : (s != 9) = false := by rw [hs9]; rfl
                clear h9 ht9 hs9
                go_wp2_with fail
                refine (HM2.out _).mono ?_
                rintro e wq ⟨rfl, bq⟩
                replace hb := bnext hb bq
                clear bq
                go_wp2_with fail
                refine (HA2.out _).mono ?_
                rintro e wq ⟨rfl, bq⟩
                replace hb := bnext hb bq
                clear bq
                go_wp2_with fail
                go_roundw
                case rel => exact ⟨k + 1, t, hk, HOK.out, rfl, by go_num, hb⟩
                case measure => simp [intOf]; omega
              · exact absurd (h9 ht9 hs9) (by omega)
            · have bt9 : (t == 9) = false := beq_false_of_ne ht9
              clear h9 ht9
              go_wp2_with fail
              refine (HM2.out _).mono ?_
              rintro e wq ⟨rfl, bq⟩
              replace hb := bnext hb bq
              clear bq
              go_wp2_with fail
              refine (HA2.out _).mono ?_
              rintro e wq ⟨rfl, bq⟩
              replace hb := bnext hb bq
              clear bq
              go_wp2_with fail
              go_roundw
              case rel => exact ⟨k + 1, t, hk, HOK.out, rfl, by go_num, hb⟩
              case measure => simp [intOf]; omega
          · obtain ⟨q6, q5, q7⟩ := hso rfl
            clear hso
            by_cases ht9 : t = 9
            · have bt9 : (t == 9) = true := beq_iff_eq.2 ht9
              by_cases hs9 : s = 9
              · have bs9 : (s != 9) = false := by rw [hs9]; rfl
                clear h9 ht9 hs9
                go_wp2_with fail
                refine (HM2.out _).mono ?_
                rintro e wq ⟨rfl, bq⟩
                replace hb := bnext hb bq
                clear bq
                go_wp2_with fail
                refine (HA2.out _).mono ?_
                rintro e wq ⟨rfl, bq⟩
                replace hb := bnext hb bq
                clear bq
                go_wp2_with fail
                go_roundw
                case rel => exact ⟨k + 1, t, hk, HOK.out, rfl, by go_num, hb⟩
                case measure => simp [intOf]; omega
              · exact absurd (h9 ht9 hs9) (by omega)
            · have bt9 : (t == 9) = false := beq_false_of_ne ht9
              clear h9 ht9
              go_wp2_with fail
              refine (HM2.out _).mono ?_
              rintro e wq ⟨rfl, bq⟩
              replace hb := bnext hb bq
              clear bq
              go_wp2_with fail
              refine (HA2.out _).mono ?_
              rintro e wq ⟨rfl, bq⟩
              replace hb := bnext hb bq
              clear bq
              go_wp2_with fail
              go_roundw
              case rel => exact ⟨k + 1, t, hk, HOK.out, rfl, by go_num, hb⟩
              case measure => simp [intOf]; omega
        · clear hal
          cases so
          · clear hso
            by_cases ht9 : t = 9
            · have bt9 : (t == 9) = true := beq_iff_eq.2 ht9
              by_cases hs9 : s = 9
              · have bs9 : (s != 9) = false := by rw [hs9]; rfl
                clear h9 ht9 hs9
                go_wp2_with fail
                refine (HM2.out _).mono ?_
                rintro e wq ⟨rfl, bq⟩
                replace hb := bnext hb bq
                clear bq
                go_wp2_with fail
                refine (HA2.out _).mono ?_
                rintro e wq ⟨rfl, bq⟩
                replace hb := bnext hb bq
                clear bq
                go_wp2_with fail
                go_roundw
                case rel => exact ⟨k + 1, t, hk, HOK.out, rfl, by go_num, hb⟩
                case measure => simp [intOf]; omega
              · exact absurd (h9 ht9 hs9) (by omega)
            · have bt9 : (t == 9) = false := beq_false_of_ne ht9
              clear h9 ht9
              go_wp2_with fail
              refine (HM2.out _).mono ?_
              rintro e wq ⟨rfl, bq⟩
              replace hb := bnext hb bq
              clear bq
              go_wp2_with fail
              refine (HA2.out _).mono ?_
              rintro e wq ⟨rfl, bq⟩
              replace hb := bnext hb bq
              clear bq
              go_wp2_with fail
              go_roundw
              case rel => exact ⟨k + 1, t, hk, HOK.out, rfl, by go_num, hb⟩
              case measure => simp [intOf]; omega
          · obtain ⟨q6, q5, q7⟩ := hso rfl
            clear hso
            by_cases ht9 : t = 9
            · have bt9 : (t == 9) = true := beq_iff_eq.2 ht9
              by_cases hs9 : s = 9
              · have bs9 : (s != 9) = false := by rw [hs9]; rfl
                clear h9 ht9 hs9
                go_wp2_with fail
                refine (HM2.out _).mono ?_
                rintro e wq ⟨rfl, bq⟩
                replace hb := bnext hb bq
                clear bq
                go_wp2_with fail
                refine (HA2.out _).mono ?_
                rintro e wq ⟨rfl, bq⟩
                replace hb := bnext hb bq
                clear bq
                go_wp2_with fail
                go_roundw
                case rel => exact ⟨k + 1, t, hk, HOK.out, rfl, by go_num, hb⟩
                case measure => simp [intOf]; omega
              · exact absurd (h9 ht9 hs9) (by omega)
            · have bt9 : (t == 9) = false := beq_false_of_ne ht9
              clear h9 ht9
              go_wp2_with fail
              refine (HM2.out _).mono ?_
              rintro e wq ⟨rfl, bq⟩
              replace hb := bnext hb bq
              clear bq
              go_wp2_with fail
              refine (HA2.out _).mono ?_
              rintro e wq ⟨rfl, bq⟩
              replace hb := bnext hb bq
              clear bq
              go_wp2_with fail
              go_roundw
              case rel => exact ⟨k + 1, t, hk, HOK.out, rfl, by go_num, hb⟩
              case measure => simp [intOf]; omega
    · go_wp2_with fail
      all_goals
        refine (awake21_from HN HM HA _).mono ?_
        rintro e wq ⟨rfl, bq⟩
        replace hb := bnext hb bq
        clear bq
        go_wp2_with fail
        go_ret
        exact ⟨rfl, hb⟩

end Go.Proofs.Ytnjonglljlbcbaa
