/- The document's own states of a port (gen_porlaws.py). -/
import Derived.Test.YtnjonglljlbcbaaPor
namespace Go.Proofs.Ytnjonglljlbcbaa
open Go.RowKit Go.Proofs
set_option maxRecDepth 50000
set_option linter.unusedVariables false
set_option linter.unusedSimpArgs false

set_option maxRecDepth 100000 in
set_option maxHeartbeats 2000000 in
theorem refAlive_any (s : Int) (w : World) :
    Calls Try.prog 16 #[.int .i64 s] w fun e w' => e = .returned (.bool (aliveB s)) ∧ Below w.heap.size w w' := by
  by_cases h1 : 4 ≤ s
  · by_cases h2 : s ≤ 9
    · have e1 : aliveB s = true := by unfold aliveB; rw [decide_eq_true h1, decide_eq_true h2]; rfl
      rw [e1]
      clear e1
      go_enter Try.func16, Try.ntmps16
      go_wp2_with fail
      go_ret
      exact ⟨rfl, Below.refl _ _⟩
    · have e1 : aliveB s = false := by unfold aliveB; rw [decide_eq_true h1, decide_eq_false h2]; rfl
      rw [e1]
      clear e1
      go_enter Try.func16, Try.ntmps16
      go_wp2_with fail
      go_ret
      exact ⟨rfl, Below.refl _ _⟩
  · have e1 : aliveB s = false := by unfold aliveB; rw [decide_eq_false h1]; rfl
    rw [e1]
    clear e1
    go_enter Try.func16, Try.ntmps16
    go_wp2_with fail
    go_ret
    exact ⟨rfl, Below.refl _ _⟩

set_option maxRecDepth 100000 in
set_option maxHeartbeats 2000000 in
theorem refFollows_any (s : Int) (w : World) :
    Calls Try.prog 14 #[.int .i64 s] w fun e w' => e = .returned (.bool (folI s)) ∧ Below w.heap.size w w' := by
  by_cases h1 : s = 8
  · subst h1
    go_enter Try.func14, Try.ntmps14
    go_wp2_with fail
    go_ret
    exact ⟨rfl, Below.refl _ _⟩
  · have b1 : (s == 8) = false := beq_false_of_ne h1
    by_cases h2 : s = 9
    · subst h2
      go_enter Try.func14, Try.ntmps14
      go_wp2_with fail
      go_ret
      exact ⟨rfl, Below.refl _ _⟩
    · have b2 : (s == 9) = false := beq_false_of_ne h2
      have e1 : folI s = false := by unfold folI; rw [b1, b2]; rfl
      rw [e1]
      clear e1 h1 h2
      go_enter Try.func14, Try.ntmps14
      go_wp2_with fail
      go_ret
      exact ⟨rfl, Below.refl _ _⟩

set_option maxRecDepth 100000 in
set_option maxHeartbeats 2000000 in
theorem refHears_any (s : Int) (w : World) :
    Calls Try.prog 12 #[.int .i64 s] w fun e w' => e = .returned (.bool (hearsB s)) ∧ Below w.heap.size w w' := by
  by_cases h1 : s = 4
  · subst h1
    go_enter Try.func12, Try.ntmps12
    go_wp2_with fail
    go_ret
    exact ⟨rfl, Below.refl _ _⟩
  · have b1 : (s == 4) = false := beq_false_of_ne h1
    by_cases h2 : 7 ≤ s
    · by_cases h3 : s ≤ 9
      · have e1 : hearsB s = true := by unfold hearsB; rw [b1, decide_eq_true h2, decide_eq_true h3]; rfl
        rw [e1]
        clear e1 h1
        go_enter Try.func12, Try.ntmps12
        go_wp2_with fail
        go_ret
        exact ⟨rfl, Below.refl _ _⟩
      · have e1 : hearsB s = false := by unfold hearsB; rw [b1, decide_eq_true h2, decide_eq_false h3]; rfl
        rw [e1]
        clear e1 h1
        go_enter Try.func12, Try.ntmps12
        go_wp2_with fail
        go_ret
        exact ⟨rfl, Below.refl _ _⟩
    · have e1 : hearsB s = false := by unfold hearsB; rw [b1, decide_eq_false h2]; rfl
      rw [e1]
      clear e1 h1
      go_enter Try.func12, Try.ntmps12
      go_wp2_with fail
      go_ret
      exact ⟨rfl, Below.refl _ _⟩

set_option maxRecDepth 100000 in
set_option maxHeartbeats 2000000 in
theorem refName_any (s : Int) (w : World) :
    Calls Try.prog 18 #[.int .i64 s] w fun e w' => e = .returned (.string (nameS s)) ∧ Below w.heap.size w w' := by
  by_cases h1 : s = 1
  · subst h1
    go_enter Try.func18, Try.ntmps18
    go_wp2_with fail
    go_ret
    exact ⟨rfl, Below.refl _ _⟩
  have b1 : (s == 1) = false := beq_false_of_ne h1
  by_cases h2 : s = 2
  · subst h2
    go_enter Try.func18, Try.ntmps18
    go_wp2_with fail
    go_ret
    exact ⟨rfl, Below.refl _ _⟩
  have b2 : (s == 2) = false := beq_false_of_ne h2
  by_cases h3 : s = 3
  · subst h3
    go_enter Try.func18, Try.ntmps18
    go_wp2_with fail
    go_ret
    exact ⟨rfl, Below.refl _ _⟩
  have b3 : (s == 3) = false := beq_false_of_ne h3
  by_cases h4 : s = 4
  · subst h4
    go_enter Try.func18, Try.ntmps18
    go_wp2_with fail
    go_ret
    exact ⟨rfl, Below.refl _ _⟩
  have b4 : (s == 4) = false := beq_false_of_ne h4
  by_cases h5 : s = 5
  · subst h5
    go_enter Try.func18, Try.ntmps18
    go_wp2_with fail
    go_ret
    exact ⟨rfl, Below.refl _ _⟩
  have b5 : (s == 5) = false := beq_false_of_ne h5
  by_cases h6 : s = 6
  · subst h6
    go_enter Try.func18, Try.ntmps18
    go_wp2_with fail
    go_ret
    exact ⟨rfl, Below.refl _ _⟩
  have b6 : (s == 6) = false := beq_false_of_ne h6
  by_cases h7 : s = 7
  · subst h7
    go_enter Try.func18, Try.ntmps18
    go_wp2_with fail
    go_ret
    exact ⟨rfl, Below.refl _ _⟩
  have b7 : (s == 7) = false := beq_false_of_ne h7
  by_cases h8 : s = 8
  · subst h8
    go_enter Try.func18, Try.ntmps18
    go_wp2_with fail
    go_ret
    exact ⟨rfl, Below.refl _ _⟩
  have b8 : (s == 8) = false := beq_false_of_ne h8
  by_cases h9 : s = 9
  · subst h9
    go_enter Try.func18, Try.ntmps18
    go_wp2_with fail
    go_ret
    exact ⟨rfl, Below.refl _ _⟩
  have b9 : (s == 9) = false := beq_false_of_ne h9
  have e1 : nameS s = ⟨#[]⟩ := by unfold nameS; simp only [h1, h2, h3, h4, h5, h6, h7, h8, h9, if_false]
  rw [e1]
  clear e1 h1 h2 h3 h4 h5 h6 h7 h8 h9
  go_enter Try.func18, Try.ntmps18
  go_wp2_with fail
  go_ret
  exact ⟨rfl, Below.refl _ _⟩

set_option maxRecDepth 100000 in
set_option maxHeartbeats 2000000 in
theorem refNext_any (s ev : Int) (so : Bool) (w : World) :
    Calls Try.prog 8 #[.int .i64 s, .int .i64 ev, .bool so] w fun e w' => e = .returned (.int .i64 (nxtI s ev so)) ∧ Below w.heap.size w w' := by
  by_cases h1 : ev = 1
  · subst h1
    by_cases hs : s = 1
    · subst hs
      go_enter Try.func8, Try.ntmps8
      go_wp2_with fail
      go_ret
      exact ⟨rfl, Below.refl _ _⟩
    · have bs : (s == 1) = false := beq_false_of_ne hs
      have bn : (s != 1) = true := bne_iff_ne.2 hs
      have e1 : nxtI s 1 so = s := by unfold nxtI; simp [hs]
      rw [e1]
      clear e1 hs
      go_enter Try.func8, Try.ntmps8
      go_wp2_with fail
      go_ret
      exact ⟨rfl, Below.refl _ _⟩
  have b1 : (ev == 1) = false := beq_false_of_ne h1
  by_cases h2 : ev = 2
  · subst h2
    by_cases hs : s = 3
    · subst hs
      go_enter Try.func8, Try.ntmps8
      go_wp2_with fail
      go_ret
      exact ⟨rfl, Below.refl _ _⟩
    · have bs : (s == 3) = false := beq_false_of_ne hs
      have bn : (s != 3) = true := bne_iff_ne.2 hs
      have e1 : nxtI s 2 so = 2 := by unfold nxtI; simp [hs]
      rw [e1]
      clear e1 hs
      go_enter Try.func8, Try.ntmps8
      go_wp2_with fail
      go_ret
      exact ⟨rfl, Below.refl _ _⟩
  have b2 : (ev == 2) = false := beq_false_of_ne h2
  by_cases h3 : ev = 3
  · subst h3
    by_cases hs : s = 2
    · subst hs
      go_enter Try.func8, Try.ntmps8
      go_wp2_with fail
      go_ret
      exact ⟨rfl, Below.refl _ _⟩
    · have bs : (s == 2) = false := beq_false_of_ne hs
      have bn : (s != 2) = true := bne_iff_ne.2 hs
      have e1 : nxtI s 3 so = s := by unfold nxtI; simp [hs]
      rw [e1]
      clear e1 hs
      go_enter Try.func8, Try.ntmps8
      go_wp2_with fail
      go_ret
      exact ⟨rfl, Below.refl _ _⟩
  have b3 : (ev == 3) = false := beq_false_of_ne h3
  by_cases h4 : ev = 4
  · subst h4
    have HH := hid (refHears_any s)
    cases hh : hearsB s with
    | false =>
      rw [hh] at HH
      have e1 : nxtI s 4 so = s := by unfold nxtI; simp [hh]
      rw [e1]
      clear e1 hh
      go_enter Try.func8, Try.ntmps8
      go_wp2_with fail
      refine (HH.out _).mono ?_
      rintro e w1 ⟨rfl, b1⟩
      go_wp2_with fail
      refine (HH.out _).mono ?_
      rintro e w2 ⟨rfl, b2⟩
      go_wp2_with fail
      go_ret
      exact ⟨rfl, bnext b1 b2⟩
    | true =>
      rw [hh] at HH
      cases so with
      | true =>
        have e1 : nxtI s 4 true = 4 := by unfold nxtI; simp [hh]
        rw [e1]
        clear e1 hh
        go_enter Try.func8, Try.ntmps8
        go_wp2_with fail
        refine (HH.out _).mono ?_
        rintro e w1 ⟨rfl, b1⟩
        go_wp2_with fail
        go_ret
        exact ⟨rfl, b1⟩
      | false =>
        have e1 : nxtI s 4 false = 6 := by unfold nxtI; simp [hh]
        rw [e1]
        clear e1 hh
        go_enter Try.func8, Try.ntmps8
        go_wp2_with fail
        refine (HH.out _).mono ?_
        rintro e w1 ⟨rfl, b1⟩
        go_wp2_with fail
        refine (HH.out _).mono ?_
        rintro e w2 ⟨rfl, b2⟩
        go_wp2_with fail
        go_ret
        exact ⟨rfl, bnext b1 b2⟩
  have b4 : (ev == 4) = false := beq_false_of_ne h4
  by_cases h5 : ev = 5
  · subst h5
    by_cases hs : s = 5
    · subst hs
      go_enter Try.func8, Try.ntmps8
      go_wp2_with fail
      go_ret
      exact ⟨rfl, Below.refl _ _⟩
    · have bs : (s == 5) = false := beq_false_of_ne hs
      have bn : (s != 5) = true := bne_iff_ne.2 hs
      have e1 : nxtI s 5 so = s := by unfold nxtI; simp [hs]
      rw [e1]
      clear e1 hs
      go_enter Try.func8, Try.ntmps8
      go_wp2_with fail
      go_ret
      exact ⟨rfl, Below.refl _ _⟩
  have b5 : (ev == 5) = false := beq_false_of_ne h5
  by_cases h6 : ev = 6
  · subst h6
    by_cases hs : s = 8
    · subst hs
      go_enter Try.func8, Try.ntmps8
      go_wp2_with fail
      go_ret
      exact ⟨rfl, Below.refl _ _⟩
    · have bs : (s == 8) = false := beq_false_of_ne hs
      have bn : (s != 8) = true := bne_iff_ne.2 hs
      have e1 : nxtI s 6 so = s := by unfold nxtI; simp [hs]
      rw [e1]
      clear e1 hs
      go_enter Try.func8, Try.ntmps8
      go_wp2_with fail
      go_ret
      exact ⟨rfl, Below.refl _ _⟩
  have b6 : (ev == 6) = false := beq_false_of_ne h6
  by_cases h7 : ev = 7
  · subst h7
    go_enter Try.func8, Try.ntmps8
    go_wp2_with fail
    go_ret
    exact ⟨rfl, Below.refl _ _⟩
  have b7 : (ev == 7) = false := beq_false_of_ne h7
  by_cases h8 : ev = 8
  · subst h8
    by_cases hs : s = 3
    · subst hs
      go_enter Try.func8, Try.ntmps8
      go_wp2_with fail
      go_ret
      exact ⟨rfl, Below.refl _ _⟩
    · have bs : (s == 3) = false := beq_false_of_ne hs
      have bn : (s != 3) = true := bne_iff_ne.2 hs
      have e1 : nxtI s 8 so = s := by unfold nxtI; simp [hs]
      rw [e1]
      clear e1 hs
      go_enter Try.func8, Try.ntmps8
      go_wp2_with fail
      go_ret
      exact ⟨rfl, Below.refl _ _⟩
  have b8 : (ev == 8) = false := beq_false_of_ne h8
  have e1 : nxtI s ev so = s := by unfold nxtI; simp only [h1, h2, h3, h4, h5, h6, h7, h8, if_false]
  rw [e1]
  clear e1 h1 h2 h3 h4 h5 h6 h7 h8
  go_enter Try.func8, Try.ntmps8
  go_wp2_with fail
  go_ret
  exact ⟨rfl, Below.refl _ _⟩

set_option maxRecDepth 100000 in
set_option maxHeartbeats 2000000 in
theorem refDecided_any (s d : Int) (same so : Bool) (w : World) :
    Calls Try.prog 10 #[.int .i64 s, .int .i64 d, .bool same, .bool so] w fun e w' => e = .returned (.int .i64 (decI s d same so)) ∧ Below w.heap.size w w' := by
  have HA := hid (refAlive_any s)
  have HF := hid (refFollows_any s)
  cases ha : aliveB s with
  | false =>
    rw [ha] at HA
    have e1 : decI s d same so = s := by unfold decI; simp [ha]
    rw [e1]
    clear e1 ha HF
    go_enter Try.func10, Try.ntmps10
    go_wp2_with fail
    refine (HA.out _).mono ?_
    rintro e w1 ⟨rfl, b1⟩
    go_wp2_with fail
    go_ret
    exact ⟨rfl, b1⟩
  | true =>
    rw [ha] at HA
    by_cases h1 : d < 1
    · have e1 : decI s d same so = s := by unfold decI; simp [h1]
      rw [e1]
      clear e1 ha HF
      go_enter Try.func10, Try.ntmps10
      go_wp2_with fail
      refine (HA.out _).mono ?_
      rintro e w1 ⟨rfl, b1⟩
      go_wp2_with fail
      go_ret
      exact ⟨rfl, b1⟩
    by_cases h2 : 6 < d
    · have e1 : decI s d same so = s := by unfold decI; simp [h2]
      rw [e1]
      clear e1 ha HF
      go_enter Try.func10, Try.ntmps10
      go_wp2_with fail
      refine (HA.out _).mono ?_
      rintro e w1 ⟨rfl, b1⟩
      go_wp2_with fail
      go_ret
      exact ⟨rfl, b1⟩
    rcases (by omega : d = 1 ∨ d = 2 ∨ d = 3 ∨ d = 4 ∨ d = 5 ∨ d = 6) with rfl | rfl | rfl | rfl | rfl | rfl
    · clear h1 h2
      cases so with
      | true =>
        have e1 : decI s 1 same true = 4 := by unfold decI; simp [ha]
        rw [e1]
        clear e1 ha HF
        go_enter Try.func10, Try.ntmps10
        go_wp2_with fail
        refine (HA.out _).mono ?_
        rintro e w1 ⟨rfl, b1⟩
        go_wp2_with fail
        go_ret
        exact ⟨rfl, b1⟩
      | false =>
        have e1 : decI s 1 same false = 6 := by unfold decI; simp [ha]
        rw [e1]
        clear e1 ha HF
        go_enter Try.func10, Try.ntmps10
        go_wp2_with fail
        refine (HA.out _).mono ?_
        rintro e w1 ⟨rfl, b1⟩
        go_wp2_with fail
        go_ret
        exact ⟨rfl, b1⟩
    · clear h1 h2
      cases so with
      | true =>
        have e1 : decI s 2 same true = 4 := by unfold decI; simp [ha]
        rw [e1]
        clear e1 ha HF
        go_enter Try.func10, Try.ntmps10
        go_wp2_with fail
        refine (HA.out _).mono ?_
        rintro e w1 ⟨rfl, b1⟩
        go_wp2_with fail
        go_ret
        exact ⟨rfl, b1⟩
      | false =>
        have e1 : decI s 2 same false = 6 := by unfold decI; simp [ha]
        rw [e1]
        clear e1 ha HF
        go_enter Try.func10, Try.ntmps10
        go_wp2_with fail
        refine (HA.out _).mono ?_
        rintro e w1 ⟨rfl, b1⟩
        go_wp2_with fail
        go_ret
        exact ⟨rfl, b1⟩
    · clear h1 h2
      cases so with
      | true =>
        have e1 : decI s 3 same true = 4 := by unfold decI; simp [ha]
        rw [e1]
        clear e1 ha HF
        go_enter Try.func10, Try.ntmps10
        go_wp2_with fail
        refine (HA.out _).mono ?_
        rintro e w1 ⟨rfl, b1⟩
        go_wp2_with fail
        go_ret
        exact ⟨rfl, b1⟩
      | false =>
        by_cases hs : s = 6
        · have bs : (s == 6) = true := beq_iff_eq.2 hs
          have e1 : decI s 3 same false = s := by unfold decI; simp [ha, hs]
          rw [e1]
          clear e1 ha HF hs
          go_enter Try.func10, Try.ntmps10
          go_wp2_with fail
          refine (HA.out _).mono ?_
          rintro e w1 ⟨rfl, b1⟩
          go_wp2_with fail
          go_ret
          exact ⟨rfl, b1⟩
        · have bs : (s == 6) = false := beq_false_of_ne hs
          have e1 : decI s 3 same false = 5 := by unfold decI; simp [ha, hs]
          rw [e1]
          clear e1 ha HF hs
          go_enter Try.func10, Try.ntmps10
          go_wp2_with fail
          refine (HA.out _).mono ?_
          rintro e w1 ⟨rfl, b1⟩
          go_wp2_with fail
          go_ret
          exact ⟨rfl, b1⟩
    · clear h1 h2
      cases so with
      | true =>
        have e1 : decI s 4 same true = 4 := by unfold decI; simp [ha]
        rw [e1]
        clear e1 ha HF
        go_enter Try.func10, Try.ntmps10
        go_wp2_with fail
        refine (HA.out _).mono ?_
        rintro e w1 ⟨rfl, b1⟩
        go_wp2_with fail
        go_ret
        exact ⟨rfl, b1⟩
      | false =>
        have e1 : decI s 4 same false = 7 := by unfold decI; simp [ha]
        rw [e1]
        clear e1 ha HF
        go_enter Try.func10, Try.ntmps10
        go_wp2_with fail
        refine (HA.out _).mono ?_
        rintro e w1 ⟨rfl, b1⟩
        go_wp2_with fail
        go_ret
        exact ⟨rfl, b1⟩
    · clear h1 h2
      cases so with
      | true =>
        have e1 : decI s 5 same true = 4 := by unfold decI; simp [ha]
        rw [e1]
        clear e1 ha HF
        go_enter Try.func10, Try.ntmps10
        go_wp2_with fail
        refine (HA.out _).mono ?_
        rintro e w1 ⟨rfl, b1⟩
        go_wp2_with fail
        go_ret
        exact ⟨rfl, b1⟩
      | false =>
        have e1 : decI s 5 same false = 7 := by unfold decI; simp [ha]
        rw [e1]
        clear e1 ha HF
        go_enter Try.func10, Try.ntmps10
        go_wp2_with fail
        refine (HA.out _).mono ?_
        rintro e w1 ⟨rfl, b1⟩
        go_wp2_with fail
        go_ret
        exact ⟨rfl, b1⟩
    · clear h1 h2
      cases so with
      | true =>
        cases same with
        | false =>
          have e1 : decI s 6 false true = 8 := by unfold decI; simp [ha]
          rw [e1]
          clear e1 ha HF
          go_enter Try.func10, Try.ntmps10
          go_wp2_with fail
          refine (HA.out _).mono ?_
          rintro e w1 ⟨rfl, b1⟩
          go_wp2_with fail
          go_ret
          exact ⟨rfl, b1⟩
        | true =>
          cases hf : folI s with
          | true =>
            rw [hf] at HF
            have e1 : decI s 6 true true = s := by unfold decI; simp [ha, hf]
            rw [e1]
            clear e1 ha hf
            go_enter Try.func10, Try.ntmps10
            go_wp2_with fail
            refine (HA.out _).mono ?_
            rintro e w1 ⟨rfl, b1⟩
            go_wp2_with fail
            refine (HF.out _).mono ?_
            rintro e w2 ⟨rfl, b2⟩
            replace b1 := bnext b1 b2
            go_wp2_with fail
            go_ret
            exact ⟨rfl, b1⟩
          | false =>
            rw [hf] at HF
            have e1 : decI s 6 true true = 8 := by unfold decI; simp [ha, hf]
            rw [e1]
            clear e1 ha hf
            go_enter Try.func10, Try.ntmps10
            go_wp2_with fail
            refine (HA.out _).mono ?_
            rintro e w1 ⟨rfl, b1⟩
            go_wp2_with fail
            refine (HF.out _).mono ?_
            rintro e w2 ⟨rfl, b2⟩
            replace b1 := bnext b1 b2
            go_wp2_with fail
            go_ret
            exact ⟨rfl, b1⟩
      | false =>
        cases same with
        | false =>
          have e1 : decI s 6 false false = 8 := by unfold decI; simp [ha]
          rw [e1]
          clear e1 ha HF
          go_enter Try.func10, Try.ntmps10
          go_wp2_with fail
          refine (HA.out _).mono ?_
          rintro e w1 ⟨rfl, b1⟩
          go_wp2_with fail
          go_ret
          exact ⟨rfl, b1⟩
        | true =>
          cases hf : folI s with
          | true =>
            rw [hf] at HF
            have e1 : decI s 6 true false = s := by unfold decI; simp [ha, hf]
            rw [e1]
            clear e1 ha hf
            go_enter Try.func10, Try.ntmps10
            go_wp2_with fail
            refine (HA.out _).mono ?_
            rintro e w1 ⟨rfl, b1⟩
            go_wp2_with fail
            refine (HF.out _).mono ?_
            rintro e w2 ⟨rfl, b2⟩
            replace b1 := bnext b1 b2
            go_wp2_with fail
            go_ret
            exact ⟨rfl, b1⟩
          | false =>
            rw [hf] at HF
            have e1 : decI s 6 true false = 8 := by unfold decI; simp [ha, hf]
            rw [e1]
            clear e1 ha hf
            go_enter Try.func10, Try.ntmps10
            go_wp2_with fail
            refine (HA.out _).mono ?_
            rintro e w1 ⟨rfl, b1⟩
            go_wp2_with fail
            refine (HF.out _).mono ?_
            rintro e w2 ⟨rfl, b2⟩
            replace b1 := bnext b1 b2
            go_wp2_with fail
            go_ret
            exact ⟨rfl, b1⟩

end Go.Proofs.Ytnjonglljlbcbaa
