/- The program's own states of a port (gen_porown.py). -/
import Derived.Test.YtnjonglljlbcbaaPorLaws1
import Derived.Test.YtnjonglljlbcbaaStr
import Derived.Test.YtnjonglljlbcbaaBuild
namespace Go.Proofs.Ytnjonglljlbcbaa
open Go.RowKit Go.Proofs
set_option maxRecDepth 50000
set_option linter.unusedVariables false
set_option linter.unusedSimpArgs false

def partI (s : Int) : Int := if s = 8 then 3 else if s = 9 then 3 else if s = 4 then 2 else if s = 7 then 2 else if s = 5 then 1 else if s = 6 then 1 else 0
theorem part_hears (s : Int) : decide (2 ≤ partI s) = hearsB s := by
  unfold partI hearsB
  rw [Bool.eq_iff_iff]
  repeat' split
  all_goals (simp; try omega)
theorem part_follows (s : Int) : decide (3 ≤ partI s) = folI s := by
  unfold partI folI
  rw [Bool.eq_iff_iff]
  repeat' split
  all_goals (simp; try omega)
theorem part_alive (s : Int) : decide (1 ≤ partI s) = aliveB s := by
  unfold partI aliveB
  rw [Bool.eq_iff_iff]
  repeat' split
  all_goals (simp; try omega)
set_option maxRecDepth 100000 in
set_option maxHeartbeats 8000000 in
theorem part_any (s : Int) (w : World) : Calls Try.prog 24 #[.int .i64 s] w fun e w' => e = .returned (.int .i64 (partI s)) ∧ w' = w := by
  by_cases h8 : s = 8
  · subst h8
    go_enter Try.func24, Try.ntmps24
    go_wp2_with fail
    go_ret
    exact ⟨rfl, rfl⟩
  have b8 : (s == 8) = false := beq_false_of_ne h8
  by_cases h9 : s = 9
  · subst h9
    go_enter Try.func24, Try.ntmps24
    go_wp2_with fail
    go_ret
    exact ⟨rfl, rfl⟩
  have b9 : (s == 9) = false := beq_false_of_ne h9
  by_cases h4 : s = 4
  · subst h4
    go_enter Try.func24, Try.ntmps24
    go_wp2_with fail
    go_ret
    exact ⟨rfl, rfl⟩
  have b4 : (s == 4) = false := beq_false_of_ne h4
  by_cases h7 : s = 7
  · subst h7
    go_enter Try.func24, Try.ntmps24
    go_wp2_with fail
    go_ret
    exact ⟨rfl, rfl⟩
  have b7 : (s == 7) = false := beq_false_of_ne h7
  by_cases h5 : s = 5
  · subst h5
    go_enter Try.func24, Try.ntmps24
    go_wp2_with fail
    go_ret
    exact ⟨rfl, rfl⟩
  have b5 : (s == 5) = false := beq_false_of_ne h5
  by_cases h6 : s = 6
  · subst h6
    go_enter Try.func24, Try.ntmps24
    go_wp2_with fail
    go_ret
    exact ⟨rfl, rfl⟩
  have b6 : (s == 6) = false := beq_false_of_ne h6
  have e1 : partI s = 0 := by unfold partI; simp only [h8, h9, h4, h7, h5, h6, if_false]
  rw [e1]
  clear e1 h8 h9 h4 h7 h5 h6
  go_enter Try.func24, Try.ntmps24
  go_wp2_with fail
  go_ret
  exact ⟨rfl, rfl⟩

set_option maxRecDepth 100000 in
set_option maxHeartbeats 8000000 in
theorem ownHears_any (s : Int) (w : World) : Calls Try.prog 11 #[.int .i64 s] w fun e w' => e = .returned (.bool (hearsB s)) ∧ w' = w := by
  have e1 := part_hears s
  go_enter Try.func11, Try.ntmps11
  go_wp2_with fail
  refine (part_any s _).mono ?_
  rintro e w' ⟨rfl, rfl⟩
  go_wp2_with fail
  go_ret
  exact ⟨rfl, rfl⟩

set_option maxRecDepth 100000 in
set_option maxHeartbeats 8000000 in
theorem ownFollows_any (s : Int) (w : World) : Calls Try.prog 13 #[.int .i64 s] w fun e w' => e = .returned (.bool (folI s)) ∧ w' = w := by
  have e1 := part_follows s
  go_enter Try.func13, Try.ntmps13
  go_wp2_with fail
  refine (part_any s _).mono ?_
  rintro e w' ⟨rfl, rfl⟩
  go_wp2_with fail
  go_ret
  exact ⟨rfl, rfl⟩

set_option maxRecDepth 100000 in
set_option maxHeartbeats 8000000 in
theorem ownAlive_any (s : Int) (w : World) : Calls Try.prog 15 #[.int .i64 s] w fun e w' => e = .returned (.bool (aliveB s)) ∧ w' = w := by
  have e1 := part_alive s
  go_enter Try.func15, Try.ntmps15
  go_wp2_with fail
  refine (part_any s _).mono ?_
  rintro e w' ⟨rfl, rfl⟩
  go_wp2_with fail
  go_ret
  exact ⟨rfl, rfl⟩

set_option maxRecDepth 100000 in
set_option maxHeartbeats 8000000 in
theorem turned_any (s a b : Int) (w : World) : Calls Try.prog 21 #[.int .i64 s, .int .i64 a, .int .i64 b] w fun e w' => e = .returned (.int .i64 (if s = a then b else s)) ∧ w' = w := by
  by_cases h : s = a
  · subst h
    rw [if_pos rfl]
    go_enter Try.func21, Try.ntmps21
    go_wp2_with fail
    go_ret
    exact ⟨rfl, rfl⟩
  · have hb : (s == a) = false := beq_false_of_ne h
    rw [if_neg h]
    clear h
    go_enter Try.func21, Try.ntmps21
    go_wp2_with fail
    go_ret
    exact ⟨rfl, rfl⟩

set_option maxRecDepth 100000 in
set_option maxHeartbeats 8000000 in
theorem silent_any (s : Int) (so : Bool) (w : World) : Calls Try.prog 22 #[.int .i64 s, .bool so] w fun e w' => e = .returned (.int .i64 (if hearsB s then (if so then 4 else 6) else s)) ∧ w' = w := by
  have HH := hid (ownHears_any s)
  cases hh : hearsB s with
  | false =>
    have e1 : (if false = true then (if so then (4 : Int) else 6) else s) = s := rfl
    rw [e1]
    clear e1
    rw [hh] at HH
    clear hh
    go_enter Try.func22, Try.ntmps22
    go_wp2_with fail
    refine (HH.out _).mono ?_
    rintro e w' ⟨rfl, rfl⟩
    go_wp2_with fail
    go_ret
    exact ⟨rfl, rfl⟩
  | true =>
    rw [hh] at HH
    clear hh
    cases so
    · show Calls Try.prog _ _ _ fun e w' => e = .returned (.int .i64 6) ∧ w' = w
      go_enter Try.func22, Try.ntmps22
      go_wp2_with fail
      refine (HH.out _).mono ?_
      rintro e w' ⟨rfl, rfl⟩
      go_wp2_with fail
      go_ret
      exact ⟨rfl, rfl⟩
    · show Calls Try.prog _ _ _ fun e w' => e = .returned (.int .i64 4) ∧ w' = w
      go_enter Try.func22, Try.ntmps22
      go_wp2_with fail
      refine (HH.out _).mono ?_
      rintro e w' ⟨rfl, rfl⟩
      go_wp2_with fail
      go_ret
      exact ⟨rfl, rfl⟩

set_option maxRecDepth 100000 in
set_option maxHeartbeats 8000000 in
theorem next_own (s v : Int) (so : Bool) (w : World) : Calls Try.prog 7 #[.int .i64 s, .int .i64 v, .bool so] w fun e w' => e = .returned (.int .i64 (nxtI s v so)) ∧ w' = w := by
  by_cases h1 : v = 1
  · subst h1
    have e1 : nxtI s 1 so = if s = 1 then 4 else s := by unfold nxtI; simp
    rw [e1]
    clear e1
    have HC := hid (turned_any s 1 4)
    generalize (if s = 1 then (4 : Int) else s) = r at *
    go_enter Try.func7, Try.ntmps7
    go_wp2_with fail
    refine (HC.out _).mono ?_
    rintro e w' ⟨rfl, rfl⟩
    go_wp2_with fail
    go_ret
    exact ⟨rfl, rfl⟩
  have b1 : (v == 1) = false := beq_false_of_ne h1
  by_cases h2 : v = 2
  · subst h2
    by_cases h : s = 3
    · subst h
      go_enter Try.func7, Try.ntmps7
      go_wp2_with fail
      go_ret
      exact ⟨rfl, rfl⟩
    · have hb : (s == 3) = false := beq_false_of_ne h
      have e1 : nxtI s 2 so = 2 := by unfold nxtI; simp [h]
      rw [e1]
      clear e1 h
      go_enter Try.func7, Try.ntmps7
      go_wp2_with fail
      go_ret
      exact ⟨rfl, rfl⟩
  have b2 : (v == 2) = false := beq_false_of_ne h2
  by_cases h3 : v = 3
  · subst h3
    have e1 : nxtI s 3 so = if s = 2 then 1 else s := by unfold nxtI; simp
    rw [e1]
    clear e1
    have HC := hid (turned_any s 2 1)
    generalize (if s = 2 then (1 : Int) else s) = r at *
    go_enter Try.func7, Try.ntmps7
    go_wp2_with fail
    refine (HC.out _).mono ?_
    rintro e w' ⟨rfl, rfl⟩
    go_wp2_with fail
    go_ret
    exact ⟨rfl, rfl⟩
  have b3 : (v == 3) = false := beq_false_of_ne h3
  by_cases h4 : v = 4
  · subst h4
    have e1 : nxtI s 4 so = if hearsB s then (if so then 4 else 6) else s := by unfold nxtI; simp
    rw [e1]
    clear e1
    have HC := hid (silent_any s so)
    generalize (if hearsB s then (if so then (4 : Int) else 6) else s) = r at *
    go_enter Try.func7, Try.ntmps7
    go_wp2_with fail
    refine (HC.out _).mono ?_
    rintro e w' ⟨rfl, rfl⟩
    go_wp2_with fail
    go_ret
    exact ⟨rfl, rfl⟩
  have b4 : (v == 4) = false := beq_false_of_ne h4
  by_cases h5 : v = 5
  · subst h5
    have e1 : nxtI s 5 so = if s = 5 then 6 else s := by unfold nxtI; simp
    rw [e1]
    clear e1
    have HC := hid (turned_any s 5 6)
    generalize (if s = 5 then (6 : Int) else s) = r at *
    go_enter Try.func7, Try.ntmps7
    go_wp2_with fail
    refine (HC.out _).mono ?_
    rintro e w' ⟨rfl, rfl⟩
    go_wp2_with fail
    go_ret
    exact ⟨rfl, rfl⟩
  have b5 : (v == 5) = false := beq_false_of_ne h5
  by_cases h6 : v = 6
  · subst h6
    have e1 : nxtI s 6 so = if s = 8 then 9 else s := by unfold nxtI; simp
    rw [e1]
    clear e1
    have HC := hid (turned_any s 8 9)
    generalize (if s = 8 then (9 : Int) else s) = r at *
    go_enter Try.func7, Try.ntmps7
    go_wp2_with fail
    refine (HC.out _).mono ?_
    rintro e w' ⟨rfl, rfl⟩
    go_wp2_with fail
    go_ret
    exact ⟨rfl, rfl⟩
  have b6 : (v == 6) = false := beq_false_of_ne h6
  by_cases h7 : v = 7
  · subst h7
    have e1 : nxtI s 7 so = 3 := by unfold nxtI; simp
    rw [e1]
    clear e1
    go_enter Try.func7, Try.ntmps7
    go_wp2_with fail
    go_ret
    exact ⟨rfl, rfl⟩
  have b7 : (v == 7) = false := beq_false_of_ne h7
  by_cases h8 : v = 8
  · subst h8
    have e1 : nxtI s 8 so = if s = 3 then 1 else s := by unfold nxtI; simp
    rw [e1]
    clear e1
    have HC := hid (turned_any s 3 1)
    generalize (if s = 3 then (1 : Int) else s) = r at *
    go_enter Try.func7, Try.ntmps7
    go_wp2_with fail
    refine (HC.out _).mono ?_
    rintro e w' ⟨rfl, rfl⟩
    go_wp2_with fail
    go_ret
    exact ⟨rfl, rfl⟩
  have b8 : (v == 8) = false := beq_false_of_ne h8
  have e1 : nxtI s v so = s := by unfold nxtI; simp only [h1, h2, h3, h4, h5, h6, h7, h8, if_false]
  rw [e1]
  clear e1 h1 h2 h3 h4 h5 h6 h7 h8
  go_enter Try.func7, Try.ntmps7
  go_wp2_with fail
  go_ret
  exact ⟨rfl, rfl⟩

set_option maxRecDepth 100000 in
set_option maxHeartbeats 8000000 in
theorem unled_any (s d : Int) (hd : d = 1 ∨ d = 2 ∨ d = 3 ∨ d = 4 ∨ d = 5) (w : World) : Calls Try.prog 23 #[.int .i64 s, .int .i64 d] w fun e w' => e = .returned (.int .i64 (if d = 1 then 6 else if d = 2 then 6 else if d = 3 then (if s = 6 then 6 else 5) else 7)) ∧ w' = w := by
  rcases hd with rfl | rfl | rfl | rfl | rfl
  · go_enter Try.func23, Try.ntmps23
    go_wp2_with fail
    go_ret
    exact ⟨rfl, rfl⟩
  · go_enter Try.func23, Try.ntmps23
    go_wp2_with fail
    go_ret
    exact ⟨rfl, rfl⟩
  · by_cases h : s = 6
    · subst h
      go_enter Try.func23, Try.ntmps23
      go_wp2_with fail
      go_ret
      exact ⟨rfl, rfl⟩
    · have hb : (s == 6) = false := beq_false_of_ne h
      have hn : (s != 6) = true := bne_iff_ne.2 h
      rw [if_neg (by decide), if_neg (by decide), if_pos rfl, if_neg h]
      clear h
      go_enter Try.func23, Try.ntmps23
      go_wp2_with fail
      go_ret
      exact ⟨rfl, rfl⟩
  · go_enter Try.func23, Try.ntmps23
    go_wp2_with fail
    go_ret
    exact ⟨rfl, rfl⟩
  · go_enter Try.func23, Try.ntmps23
    go_wp2_with fail
    go_ret
    exact ⟨rfl, rfl⟩

set_option maxRecDepth 100000 in
set_option maxHeartbeats 8000000 in
theorem decided_own (s d : Int) (same so : Bool) (w : World) : Calls Try.prog 9 #[.int .i64 s, .int .i64 d, .bool same, .bool so] w fun e w' => e = .returned (.int .i64 (decI s d same so)) ∧ w' = w := by
  have HA := hid (ownAlive_any s)
  have HF := hid (ownFollows_any s)
  cases ha : aliveB s with
  | false =>
    rw [ha] at HA
    have e1 : decI s d same so = s := by unfold decI; simp [ha]
    rw [e1]
    clear e1 ha HF
    go_enter Try.func9, Try.ntmps9
    go_wp2_with fail
    refine (HA.out _).mono ?_
    rintro e w' ⟨rfl, rfl⟩
    go_wp2_with fail
    go_ret
    exact ⟨rfl, rfl⟩
  | true =>
    rw [ha] at HA
    by_cases h1 : d = 1
    · subst h1
      cases so with
      | true =>
        have e1 : decI s 1 same true = 4 := by unfold decI; simp [ha]
        rw [e1]
        clear e1 ha HF
        go_enter Try.func9, Try.ntmps9
        go_wp2_with fail
        refine (HA.out _).mono ?_
        rintro e w' ⟨rfl, rfl⟩
        go_wp2_with fail
        go_ret
        exact ⟨rfl, rfl⟩
      | false =>
        have e1 : decI s 1 same false = (if (1 : Int) = 1 then 6 else if (1 : Int) = 2 then 6 else if (1 : Int) = 3 then (if s = 6 then 6 else 5) else 7) := by unfold decI; simp [ha]
        rw [e1]
        clear e1 ha HF
        have HU := hid (unled_any s 1 (by decide))
        generalize (if (1 : Int) = 1 then (6 : Int) else if (1 : Int) = 2 then 6 else if (1 : Int) = 3 then (if s = 6 then 6 else 5) else 7) = r at *
        go_enter Try.func9, Try.ntmps9
        go_wp2_with fail
        refine (HA.out _).mono ?_
        rintro e w' ⟨rfl, rfl⟩
        go_wp2_with fail
        refine (HU.out _).mono ?_
        rintro e w' ⟨rfl, rfl⟩
        go_wp2_with fail
        go_ret
        exact ⟨rfl, rfl⟩
    have b1 : (d == 1) = false := beq_false_of_ne h1
    by_cases h2 : d = 2
    · subst h2
      cases so with
      | true =>
        have e1 : decI s 2 same true = 4 := by unfold decI; simp [ha]
        rw [e1]
        clear e1 ha HF
        go_enter Try.func9, Try.ntmps9
        go_wp2_with fail
        refine (HA.out _).mono ?_
        rintro e w' ⟨rfl, rfl⟩
        go_wp2_with fail
        go_ret
        exact ⟨rfl, rfl⟩
      | false =>
        have e1 : decI s 2 same false = (if (2 : Int) = 1 then 6 else if (2 : Int) = 2 then 6 else if (2 : Int) = 3 then (if s = 6 then 6 else 5) else 7) := by unfold decI; simp [ha]
        rw [e1]
        clear e1 ha HF
        have HU := hid (unled_any s 2 (by decide))
        generalize (if (2 : Int) = 1 then (6 : Int) else if (2 : Int) = 2 then 6 else if (2 : Int) = 3 then (if s = 6 then 6 else 5) else 7) = r at *
        go_enter Try.func9, Try.ntmps9
        go_wp2_with fail
        refine (HA.out _).mono ?_
        rintro e w' ⟨rfl, rfl⟩
        go_wp2_with fail
        refine (HU.out _).mono ?_
        rintro e w' ⟨rfl, rfl⟩
        go_wp2_with fail
        go_ret
        exact ⟨rfl, rfl⟩
    have b2 : (d == 2) = false := beq_false_of_ne h2
    by_cases h3 : d = 3
    · subst h3
      cases so with
      | true =>
        have e1 : decI s 3 same true = 4 := by unfold decI; simp [ha]
        rw [e1]
        clear e1 ha HF
        go_enter Try.func9, Try.ntmps9
        go_wp2_with fail
        refine (HA.out _).mono ?_
        rintro e w' ⟨rfl, rfl⟩
        go_wp2_with fail
        go_ret
        exact ⟨rfl, rfl⟩
      | false =>
        have e1 : decI s 3 same false = (if (3 : Int) = 1 then 6 else if (3 : Int) = 2 then 6 else if (3 : Int) = 3 then (if s = 6 then 6 else 5) else 7) := by unfold decI; simp [ha]; split <;> first | rfl | assumption
        rw [e1]
        clear e1 ha HF
        have HU := hid (unled_any s 3 (by decide))
        generalize (if (3 : Int) = 1 then (6 : Int) else if (3 : Int) = 2 then 6 else if (3 : Int) = 3 then (if s = 6 then 6 else 5) else 7) = r at *
        go_enter Try.func9, Try.ntmps9
        go_wp2_with fail
        refine (HA.out _).mono ?_
        rintro e w' ⟨rfl, rfl⟩
        go_wp2_with fail
        refine (HU.out _).mono ?_
        rintro e w' ⟨rfl, rfl⟩
        go_wp2_with fail
        go_ret
        exact ⟨rfl, rfl⟩
    have b3 : (d == 3) = false := beq_false_of_ne h3
    by_cases h4 : d = 4
    · subst h4
      cases so with
      | true =>
        have e1 : decI s 4 same true = 4 := by unfold decI; simp [ha]
        rw [e1]
        clear e1 ha HF
        go_enter Try.func9, Try.ntmps9
        go_wp2_with fail
        refine (HA.out _).mono ?_
        rintro e w' ⟨rfl, rfl⟩
        go_wp2_with fail
        go_ret
        exact ⟨rfl, rfl⟩
      | false =>
        have e1 : decI s 4 same false = (if (4 : Int) = 1 then 6 else if (4 : Int) = 2 then 6 else if (4 : Int) = 3 then (if s = 6 then 6 else 5) else 7) := by unfold decI; simp [ha]
        rw [e1]
        clear e1 ha HF
        have HU := hid (unled_any s 4 (by decide))
        generalize (if (4 : Int) = 1 then (6 : Int) else if (4 : Int) = 2 then 6 else if (4 : Int) = 3 then (if s = 6 then 6 else 5) else 7) = r at *
        go_enter Try.func9, Try.ntmps9
        go_wp2_with fail
        refine (HA.out _).mono ?_
        rintro e w' ⟨rfl, rfl⟩
        go_wp2_with fail
        refine (HU.out _).mono ?_
        rintro e w' ⟨rfl, rfl⟩
        go_wp2_with fail
        go_ret
        exact ⟨rfl, rfl⟩
    have b4 : (d == 4) = false := beq_false_of_ne h4
    by_cases h5 : d = 5
    · subst h5
      cases so with
      | true =>
        have e1 : decI s 5 same true = 4 := by unfold decI; simp [ha]
        rw [e1]
        clear e1 ha HF
        go_enter Try.func9, Try.ntmps9
        go_wp2_with fail
        refine (HA.out _).mono ?_
        rintro e w' ⟨rfl, rfl⟩
        go_wp2_with fail
        go_ret
        exact ⟨rfl, rfl⟩
      | false =>
        have e1 : decI s 5 same false = (if (5 : Int) = 1 then 6 else if (5 : Int) = 2 then 6 else if (5 : Int) = 3 then (if s = 6 then 6 else 5) else 7) := by unfold decI; simp [ha]
        rw [e1]
        clear e1 ha HF
        have HU := hid (unled_any s 5 (by decide))
        generalize (if (5 : Int) = 1 then (6 : Int) else if (5 : Int) = 2 then 6 else if (5 : Int) = 3 then (if s = 6 then 6 else 5) else 7) = r at *
        go_enter Try.func9, Try.ntmps9
        go_wp2_with fail
        refine (HA.out _).mono ?_
        rintro e w' ⟨rfl, rfl⟩
        go_wp2_with fail
        refine (HU.out _).mono ?_
        rintro e w' ⟨rfl, rfl⟩
        go_wp2_with fail
        go_ret
        exact ⟨rfl, rfl⟩
    have b5 : (d == 5) = false := beq_false_of_ne h5
    by_cases h6 : d = 6
    · subst h6
      cases same with
      | false =>
        have e1 : decI s 6 false so = 8 := by unfold decI; simp [ha]
        rw [e1]
        clear e1 ha HF
        go_enter Try.func9, Try.ntmps9
        go_wp2_with fail
        refine (HA.out _).mono ?_
        rintro e w' ⟨rfl, rfl⟩
        go_wp2_with fail
        go_ret
        exact ⟨rfl, rfl⟩
      | true =>
        cases hf : folI s with
        | true =>
          rw [hf] at HF
          have e1 : decI s 6 true so = s := by unfold decI; simp [ha, hf]
          rw [e1]
          clear e1 ha hf
          go_enter Try.func9, Try.ntmps9
          go_wp2_with fail
          refine (HA.out _).mono ?_
          rintro e w' ⟨rfl, rfl⟩
          go_wp2_with fail
          refine (HF.out _).mono ?_
          rintro e w' ⟨rfl, rfl⟩
          go_wp2_with fail
          go_ret
          exact ⟨rfl, rfl⟩
        | false =>
          rw [hf] at HF
          have e1 : decI s 6 true so = 8 := by unfold decI; simp [ha, hf]
          rw [e1]
          clear e1 ha hf
          go_enter Try.func9, Try.ntmps9
          go_wp2_with fail
          refine (HA.out _).mono ?_
          rintro e w' ⟨rfl, rfl⟩
          go_wp2_with fail
          refine (HF.out _).mono ?_
          rintro e w' ⟨rfl, rfl⟩
          go_wp2_with fail
          go_ret
          exact ⟨rfl, rfl⟩
    have b6 : (d == 6) = false := beq_false_of_ne h6
    have e1 : decI s d same so = s := by
      unfold decI
      rw [if_neg (by rw [ha]; simp)]
      repeat' split
      all_goals first | rfl | omega
    rw [e1]
    clear e1 h1 h2 h3 h4 h5 h6 ha HF
    go_enter Try.func9, Try.ntmps9
    go_wp2_with fail
    refine (HA.out _).mono ?_
    rintro e w' ⟨rfl, rfl⟩
    go_wp2_with fail
    go_ret
    exact ⟨rfl, rfl⟩

def nmK : RowK { l : List ByteArray // l.length = 10 } := ⟨fun a => a.1.map .string, 10, by decide, fun a => by rw [List.length_map, a.2], fun a u hu => by obtain ⟨x, -, rfl⟩ := List.mem_map.1 hu; rfl⟩
theorem nmT : StrT nmK 34 := ⟨⟨_, Try.underlying34, rfl⟩, by kernel_rfl⟩
def nmL : { l : List ByteArray // l.length = 10 } := ⟨[(⟨#[]⟩ : ByteArray), (⟨#[105, 110, 105, 116, 105, 97, 108, 105, 122, 105, 110, 103]⟩ : ByteArray), (⟨#[102, 97, 117, 108, 116, 121]⟩ : ByteArray), (⟨#[100, 105, 115, 97, 98, 108, 101, 100]⟩ : ByteArray), (⟨#[108, 105, 115, 116, 101, 110, 105, 110, 103]⟩ : ByteArray), (⟨#[112, 114, 101, 109, 97, 115, 116, 101, 114]⟩ : ByteArray), (⟨#[109, 97, 115, 116, 101, 114]⟩ : ByteArray), (⟨#[112, 97, 115, 115, 105, 118, 101]⟩ : ByteArray), (⟨#[117, 110, 99, 97, 108, 105, 98, 114, 97, 116, 101, 100]⟩ : ByteArray), (⟨#[115, 108, 97, 118, 101]⟩ : ByteArray)], rfl⟩
def nmZ : { l : List ByteArray // l.length = 10 } := ⟨List.replicate 10 ⟨#[]⟩, rfl⟩
set_option maxRecDepth 100000 in
set_option maxHeartbeats 8000000 in
theorem name_own (s : Int) (w : World) : Calls Try.prog 17 #[.int .i64 s] w fun e w' => e = .returned (.string (nameS s)) ∧ Below w.heap.size w w' := by
  by_cases h : 0 ≤ s ∧ s < 10
  · obtain rfl | rfl | rfl | rfl | rfl | rfl | rfl | rfl | rfl | rfl : s = 0 ∨ s = 1 ∨ s = 2 ∨ s = 3 ∨ s = 4 ∨ s = 5 ∨ s = 6 ∨ s = 7 ∨ s = 8 ∨ s = 9 := by omega
    · rw [show nameS 0 = (⟨#[]⟩ : ByteArray) by kernel_rfl]
      go_enter Try.func17, Try.ntmps17
      have e := Box.new w (nmK.enc nmZ) 34
      have nb := bnew w (Obj.cells (nmK.enc nmZ).toArray 34)
      go_upto_region 2 with (first | (guard_target =~ wpList _ _ _ (⟨some 4, _, _, _, _, _⟩ :: _) _ _; refine wpList_build_any (op := ⟨some 4, .build _ _, _, _, _, _⟩) (by rfl) _ _ (by rfl) _ (by rfl) (nmK.enc nmL).toArray (by kernel_rfl) ?_) | (guard_target =~ wpList _ _ _ (⟨none, _, _, _, _, _⟩ :: _) _ _; refine nmT.store (op := ⟨none, .store _ _ _, _, _, _, _⟩) (by rfl) _ _ (by rfl) (w.heap.size) (nmL) (nmZ) _ (by rfl) (by rfl) e ?_))
      have hZ := e.rowK (nmK.enc nmL)
      have hW := below_setRow nb (Nat.le_refl _) (nmK.enc nmL).toArray
      change Code.wp Try.prog _ _ _ ((w.alloc (Obj.cells (nmK.enc nmZ).toArray 34)).setRow w.heap.size (nmK.enc nmL).toArray)
      generalize (w.alloc (Obj.cells (nmK.enc nmZ).toArray 34)).setRow w.heap.size (nmK.enc nmL).toArray = W at *
      have hW2 := hid hW
      generalize w.heap.size = G at hZ hW ⊢
      clear nb e hW
      have hc := hZ.cell 0 (.string (⟨#[]⟩ : ByteArray)) (by rfl)
      go_wp2_with fail
      go_ret
      exact ⟨rfl, hW2.out⟩
    · rw [show nameS 1 = (⟨#[105, 110, 105, 116, 105, 97, 108, 105, 122, 105, 110, 103]⟩ : ByteArray) by kernel_rfl]
      go_enter Try.func17, Try.ntmps17
      have e := Box.new w (nmK.enc nmZ) 34
      have nb := bnew w (Obj.cells (nmK.enc nmZ).toArray 34)
      go_upto_region 2 with (first | (guard_target =~ wpList _ _ _ (⟨some 4, _, _, _, _, _⟩ :: _) _ _; refine wpList_build_any (op := ⟨some 4, .build _ _, _, _, _, _⟩) (by rfl) _ _ (by rfl) _ (by rfl) (nmK.enc nmL).toArray (by kernel_rfl) ?_) | (guard_target =~ wpList _ _ _ (⟨none, _, _, _, _, _⟩ :: _) _ _; refine nmT.store (op := ⟨none, .store _ _ _, _, _, _, _⟩) (by rfl) _ _ (by rfl) (w.heap.size) (nmL) (nmZ) _ (by rfl) (by rfl) e ?_))
      have hZ := e.rowK (nmK.enc nmL)
      have hW := below_setRow nb (Nat.le_refl _) (nmK.enc nmL).toArray
      change Code.wp Try.prog _ _ _ ((w.alloc (Obj.cells (nmK.enc nmZ).toArray 34)).setRow w.heap.size (nmK.enc nmL).toArray)
      generalize (w.alloc (Obj.cells (nmK.enc nmZ).toArray 34)).setRow w.heap.size (nmK.enc nmL).toArray = W at *
      have hW2 := hid hW
      generalize w.heap.size = G at hZ hW ⊢
      clear nb e hW
      have hc := hZ.cell 1 (.string (⟨#[105, 110, 105, 116, 105, 97, 108, 105, 122, 105, 110, 103]⟩ : ByteArray)) (by rfl)
      go_wp2_with fail
      go_ret
      exact ⟨rfl, hW2.out⟩
    · rw [show nameS 2 = (⟨#[102, 97, 117, 108, 116, 121]⟩ : ByteArray) by kernel_rfl]
      go_enter Try.func17, Try.ntmps17
      have e := Box.new w (nmK.enc nmZ) 34
      have nb := bnew w (Obj.cells (nmK.enc nmZ).toArray 34)
      go_upto_region 2 with (first | (guard_target =~ wpList _ _ _ (⟨some 4, _, _, _, _, _⟩ :: _) _ _; refine wpList_build_any (op := ⟨some 4, .build _ _, _, _, _, _⟩) (by rfl) _ _ (by rfl) _ (by rfl) (nmK.enc nmL).toArray (by kernel_rfl) ?_) | (guard_target =~ wpList _ _ _ (⟨none, _, _, _, _, _⟩ :: _) _ _; refine nmT.store (op := ⟨none, .store _ _ _, _, _, _, _⟩) (by rfl) _ _ (by rfl) (w.heap.size) (nmL) (nmZ) _ (by rfl) (by rfl) e ?_))
      have hZ := e.rowK (nmK.enc nmL)
      have hW := below_setRow nb (Nat.le_refl _) (nmK.enc nmL).toArray
      change Code.wp Try.prog _ _ _ ((w.alloc (Obj.cells (nmK.enc nmZ).toArray 34)).setRow w.heap.size (nmK.enc nmL).toArray)
      generalize (w.alloc (Obj.cells (nmK.enc nmZ).toArray 34)).setRow w.heap.size (nmK.enc nmL).toArray = W at *
      have hW2 := hid hW
      generalize w.heap.size = G at hZ hW ⊢
      clear nb e hW
      have hc := hZ.cell 2 (.string (⟨#[102, 97, 117, 108, 116, 121]⟩ : ByteArray)) (by rfl)
      go_wp2_with fail
      go_ret
      exact ⟨rfl, hW2.out⟩
    · rw [show nameS 3 = (⟨#[100, 105, 115, 97, 98, 108, 101, 100]⟩ : ByteArray) by kernel_rfl]
      go_enter Try.func17, Try.ntmps17
      have e := Box.new w (nmK.enc nmZ) 34
      have nb := bnew w (Obj.cells (nmK.enc nmZ).toArray 34)
      go_upto_region 2 with (first | (guard_target =~ wpList _ _ _ (⟨some 4, _, _, _, _, _⟩ :: _) _ _; refine wpList_build_any (op := ⟨some 4, .build _ _, _, _, _, _⟩) (by rfl) _ _ (by rfl) _ (by rfl) (nmK.enc nmL).toArray (by kernel_rfl) ?_) | (guard_target =~ wpList _ _ _ (⟨none, _, _, _, _, _⟩ :: _) _ _; refine nmT.store (op := ⟨none, .store _ _ _, _, _, _, _⟩) (by rfl) _ _ (by rfl) (w.heap.size) (nmL) (nmZ) _ (by rfl) (by rfl) e ?_))
      have hZ := e.rowK (nmK.enc nmL)
      have hW := below_setRow nb (Nat.le_refl _) (nmK.enc nmL).toArray
      change Code.wp Try.prog _ _ _ ((w.alloc (Obj.cells (nmK.enc nmZ).toArray 34)).setRow w.heap.size (nmK.enc nmL).toArray)
      generalize (w.alloc (Obj.cells (nmK.enc nmZ).toArray 34)).setRow w.heap.size (nmK.enc nmL).toArray = W at *
      have hW2 := hid hW
      generalize w.heap.size = G at hZ hW ⊢
      clear nb e hW
      have hc := hZ.cell 3 (.string (⟨#[100, 105, 115, 97, 98, 108, 101, 100]⟩ : ByteArray)) (by rfl)
      go_wp2_with fail
      go_ret
      exact ⟨rfl, hW2.out⟩
    · rw [show nameS 4 = (⟨#[108, 105, 115, 116, 101, 110, 105, 110, 103]⟩ : ByteArray) by kernel_rfl]
      go_enter Try.func17, Try.ntmps17
      have e := Box.new w (nmK.enc nmZ) 34
      have nb := bnew w (Obj.cells (nmK.enc nmZ).toArray 34)
      go_upto_region 2 with (first | (guard_target =~ wpList _ _ _ (⟨some 4, _, _, _, _, _⟩ :: _) _ _; refine wpList_build_any (op := ⟨some 4, .build _ _, _, _, _, _⟩) (by rfl) _ _ (by rfl) _ (by rfl) (nmK.enc nmL).toArray (by kernel_rfl) ?_) | (guard_target =~ wpList _ _ _ (⟨none, _, _, _, _, _⟩ :: _) _ _; refine nmT.store (op := ⟨none, .store _ _ _, _, _, _, _⟩) (by rfl) _ _ (by rfl) (w.heap.size) (nmL) (nmZ) _ (by rfl) (by rfl) e ?_))
      have hZ := e.rowK (nmK.enc nmL)
      have hW := below_setRow nb (Nat.le_refl _) (nmK.enc nmL).toArray
      change Code.wp Try.prog _ _ _ ((w.alloc (Obj.cells (nmK.enc nmZ).toArray 34)).setRow w.heap.size (nmK.enc nmL).toArray)
      generalize (w.alloc (Obj.cells (nmK.enc nmZ).toArray 34)).setRow w.heap.size (nmK.enc nmL).toArray = W at *
      have hW2 := hid hW
      generalize w.heap.size = G at hZ hW ⊢
      clear nb e hW
      have hc := hZ.cell 4 (.string (⟨#[108, 105, 115, 116, 101, 110, 105, 110, 103]⟩ : ByteArray)) (by rfl)
      go_wp2_with fail
      go_ret
      exact ⟨rfl, hW2.out⟩
    · rw [show nameS 5 = (⟨#[112, 114, 101, 109, 97, 115, 116, 101, 114]⟩ : ByteArray) by kernel_rfl]
      go_enter Try.func17, Try.ntmps17
      have e := Box.new w (nmK.enc nmZ) 34
      have nb := bnew w (Obj.cells (nmK.enc nmZ).toArray 34)
      go_upto_region 2 with (first | (guard_target =~ wpList _ _ _ (⟨some 4, _, _, _, _, _⟩ :: _) _ _; refine wpList_build_any (op := ⟨some 4, .build _ _, _, _, _, _⟩) (by rfl) _ _ (by rfl) _ (by rfl) (nmK.enc nmL).toArray (by kernel_rfl) ?_) | (guard_target =~ wpList _ _ _ (⟨none, _, _, _, _, _⟩ :: _) _ _; refine nmT.store (op := ⟨none, .store _ _ _, _, _, _, _⟩) (by rfl) _ _ (by rfl) (w.heap.size) (nmL) (nmZ) _ (by rfl) (by rfl) e ?_))
      have hZ := e.rowK (nmK.enc nmL)
      have hW := below_setRow nb (Nat.le_refl _) (nmK.enc nmL).toArray
      change Code.wp Try.prog _ _ _ ((w.alloc (Obj.cells (nmK.enc nmZ).toArray 34)).setRow w.heap.size (nmK.enc nmL).toArray)
      generalize (w.alloc (Obj.cells (nmK.enc nmZ).toArray 34)).setRow w.heap.size (nmK.enc nmL).toArray = W at *
      have hW2 := hid hW
      generalize w.heap.size = G at hZ hW ⊢
      clear nb e hW
      have hc := hZ.cell 5 (.string (⟨#[112, 114, 101, 109, 97, 115, 116, 101, 114]⟩ : ByteArray)) (by rfl)
      go_wp2_with fail
      go_ret
      exact ⟨rfl, hW2.out⟩
    · rw [show nameS 6 = (⟨#[109, 97, 115, 116, 101, 114]⟩ : ByteArray) by kernel_rfl]
      go_enter Try.func17, Try.ntmps17
      have e := Box.new w (nmK.enc nmZ) 34
      have nb := bnew w (Obj.cells (nmK.enc nmZ).toArray 34)
      go_upto_region 2 with (first | (guard_target =~ wpList _ _ _ (⟨some 4, _, _, _, _, _⟩ :: _) _ _; refine wpList_build_any (op := ⟨some 4, .build _ _, _, _, _, _⟩) (by rfl) _ _ (by rfl) _ (by rfl) (nmK.enc nmL).toArray (by kernel_rfl) ?_) | (guard_target =~ wpList _ _ _ (⟨none, _, _, _, _, _⟩ :: _) _ _; refine nmT.store (op := ⟨none, .store _ _ _, _, _, _, _⟩) (by rfl) _ _ (by rfl) (w.heap.size) (nmL) (nmZ) _ (by rfl) (by rfl) e ?_))
      have hZ := e.rowK (nmK.enc nmL)
      have hW := below_setRow nb (Nat.le_refl _) (nmK.enc nmL).toArray
      change Code.wp Try.prog _ _ _ ((w.alloc (Obj.cells (nmK.enc nmZ).toArray 34)).setRow w.heap.size (nmK.enc nmL).toArray)
      generalize (w.alloc (Obj.cells (nmK.enc nmZ).toArray 34)).setRow w.heap.size (nmK.enc nmL).toArray = W at *
      have hW2 := hid hW
      generalize w.heap.size = G at hZ hW ⊢
      clear nb e hW
      have hc := hZ.cell 6 (.string (⟨#[109, 97, 115, 116, 101, 114]⟩ : ByteArray)) (by rfl)
      go_wp2_with fail
      go_ret
      exact ⟨rfl, hW2.out⟩
    · rw [show nameS 7 = (⟨#[112, 97, 115, 115, 105, 118, 101]⟩ : ByteArray) by kernel_rfl]
      go_enter Try.func17, Try.ntmps17
      have e := Box.new w (nmK.enc nmZ) 34
      have nb := bnew w (Obj.cells (nmK.enc nmZ).toArray 34)
      go_upto_region 2 with (first | (guard_target =~ wpList _ _ _ (⟨some 4, _, _, _, _, _⟩ :: _) _ _; refine wpList_build_any (op := ⟨some 4, .build _ _, _, _, _, _⟩) (by rfl) _ _ (by rfl) _ (by rfl) (nmK.enc nmL).toArray (by kernel_rfl) ?_) | (guard_target =~ wpList _ _ _ (⟨none, _, _, _, _, _⟩ :: _) _ _; refine nmT.store (op := ⟨none, .store _ _ _, _, _, _, _⟩) (by rfl) _ _ (by rfl) (w.heap.size) (nmL) (nmZ) _ (by rfl) (by rfl) e ?_))
      have hZ := e.rowK (nmK.enc nmL)
      have hW := below_setRow nb (Nat.le_refl _) (nmK.enc nmL).toArray
      change Code.wp Try.prog _ _ _ ((w.alloc (Obj.cells (nmK.enc nmZ).toArray 34)).setRow w.heap.size (nmK.enc nmL).toArray)
      generalize (w.alloc (Obj.cells (nmK.enc nmZ).toArray 34)).setRow w.heap.size (nmK.enc nmL).toArray = W at *
      have hW2 := hid hW
      generalize w.heap.size = G at hZ hW ⊢
      clear nb e hW
      have hc := hZ.cell 7 (.string (⟨#[112, 97, 115, 115, 105, 118, 101]⟩ : ByteArray)) (by rfl)
      go_wp2_with fail
      go_ret
      exact ⟨rfl, hW2.out⟩
    · rw [show nameS 8 = (⟨#[117, 110, 99, 97, 108, 105, 98, 114, 97, 116, 101, 100]⟩ : ByteArray) by kernel_rfl]
      go_enter Try.func17, Try.ntmps17
      have e := Box.new w (nmK.enc nmZ) 34
      have nb := bnew w (Obj.cells (nmK.enc nmZ).toArray 34)
      go_upto_region 2 with (first | (guard_target =~ wpList _ _ _ (⟨some 4, _, _, _, _, _⟩ :: _) _ _; refine wpList_build_any (op := ⟨some 4, .build _ _, _, _, _, _⟩) (by rfl) _ _ (by rfl) _ (by rfl) (nmK.enc nmL).toArray (by kernel_rfl) ?_) | (guard_target =~ wpList _ _ _ (⟨none, _, _, _, _, _⟩ :: _) _ _; refine nmT.store (op := ⟨none, .store _ _ _, _, _, _, _⟩) (by rfl) _ _ (by rfl) (w.heap.size) (nmL) (nmZ) _ (by rfl) (by rfl) e ?_))
      have hZ := e.rowK (nmK.enc nmL)
      have hW := below_setRow nb (Nat.le_refl _) (nmK.enc nmL).toArray
      change Code.wp Try.prog _ _ _ ((w.alloc (Obj.cells (nmK.enc nmZ).toArray 34)).setRow w.heap.size (nmK.enc nmL).toArray)
      generalize (w.alloc (Obj.cells (nmK.enc nmZ).toArray 34)).setRow w.heap.size (nmK.enc nmL).toArray = W at *
      have hW2 := hid hW
      generalize w.heap.size = G at hZ hW ⊢
      clear nb e hW
      have hc := hZ.cell 8 (.string (⟨#[117, 110, 99, 97, 108, 105, 98, 114, 97, 116, 101, 100]⟩ : ByteArray)) (by rfl)
      go_wp2_with fail
      go_ret
      exact ⟨rfl, hW2.out⟩
    · rw [show nameS 9 = (⟨#[115, 108, 97, 118, 101]⟩ : ByteArray) by kernel_rfl]
      go_enter Try.func17, Try.ntmps17
      have e := Box.new w (nmK.enc nmZ) 34
      have nb := bnew w (Obj.cells (nmK.enc nmZ).toArray 34)
      go_upto_region 2 with (first | (guard_target =~ wpList _ _ _ (⟨some 4, _, _, _, _, _⟩ :: _) _ _; refine wpList_build_any (op := ⟨some 4, .build _ _, _, _, _, _⟩) (by rfl) _ _ (by rfl) _ (by rfl) (nmK.enc nmL).toArray (by kernel_rfl) ?_) | (guard_target =~ wpList _ _ _ (⟨none, _, _, _, _, _⟩ :: _) _ _; refine nmT.store (op := ⟨none, .store _ _ _, _, _, _, _⟩) (by rfl) _ _ (by rfl) (w.heap.size) (nmL) (nmZ) _ (by rfl) (by rfl) e ?_))
      have hZ := e.rowK (nmK.enc nmL)
      have hW := below_setRow nb (Nat.le_refl _) (nmK.enc nmL).toArray
      change Code.wp Try.prog _ _ _ ((w.alloc (Obj.cells (nmK.enc nmZ).toArray 34)).setRow w.heap.size (nmK.enc nmL).toArray)
      generalize (w.alloc (Obj.cells (nmK.enc nmZ).toArray 34)).setRow w.heap.size (nmK.enc nmL).toArray = W at *
      have hW2 := hid hW
      generalize w.heap.size = G at hZ hW ⊢
      clear nb e hW
      have hc := hZ.cell 9 (.string (⟨#[115, 108, 97, 118, 101]⟩ : ByteArray)) (by rfl)
      go_wp2_with fail
      go_ret
      exact ⟨rfl, hW2.out⟩
  · rw [show nameS s = (⟨#[]⟩ : ByteArray) from by
      unfold nameS
      repeat' split
      all_goals first | rfl | omega]
    have h0 : 10 ≤ s ∨ s < 0 := by omega
    clear h
    by_cases hn : s < 0
    · clear h0
      go_enter Try.func17, Try.ntmps17
      have e := Box.new w (nmK.enc nmZ) 34
      have nb := bnew w (Obj.cells (nmK.enc nmZ).toArray 34)
      go_upto_region 2 with (first | (guard_target =~ wpList _ _ _ (⟨some 4, _, _, _, _, _⟩ :: _) _ _; refine wpList_build_any (op := ⟨some 4, .build _ _, _, _, _, _⟩) (by rfl) _ _ (by rfl) _ (by rfl) (nmK.enc nmL).toArray (by kernel_rfl) ?_) | (guard_target =~ wpList _ _ _ (⟨none, _, _, _, _, _⟩ :: _) _ _; refine nmT.store (op := ⟨none, .store _ _ _, _, _, _, _⟩) (by rfl) _ _ (by rfl) (w.heap.size) (nmL) (nmZ) _ (by rfl) (by rfl) e ?_))
      have hZ := e.rowK (nmK.enc nmL)
      have hW := below_setRow nb (Nat.le_refl _) (nmK.enc nmL).toArray
      change Code.wp Try.prog _ _ _ ((w.alloc (Obj.cells (nmK.enc nmZ).toArray 34)).setRow w.heap.size (nmK.enc nmL).toArray)
      generalize (w.alloc (Obj.cells (nmK.enc nmZ).toArray 34)).setRow w.heap.size (nmK.enc nmL).toArray = W at *
      have hW2 := hid hW
      generalize w.heap.size = G at hZ hW ⊢
      clear nb e hW
      go_wp2_with fail
      go_ret
      exact ⟨rfl, hW2.out⟩
    · have hg : 10 ≤ s := by omega
      clear h0
      go_enter Try.func17, Try.ntmps17
      have e := Box.new w (nmK.enc nmZ) 34
      have nb := bnew w (Obj.cells (nmK.enc nmZ).toArray 34)
      go_upto_region 2 with (first | (guard_target =~ wpList _ _ _ (⟨some 4, _, _, _, _, _⟩ :: _) _ _; refine wpList_build_any (op := ⟨some 4, .build _ _, _, _, _, _⟩) (by rfl) _ _ (by rfl) _ (by rfl) (nmK.enc nmL).toArray (by kernel_rfl) ?_) | (guard_target =~ wpList _ _ _ (⟨none, _, _, _, _, _⟩ :: _) _ _; refine nmT.store (op := ⟨none, .store _ _ _, _, _, _, _⟩) (by rfl) _ _ (by rfl) (w.heap.size) (nmL) (nmZ) _ (by rfl) (by rfl) e ?_))
      have hZ := e.rowK (nmK.enc nmL)
      have hW := below_setRow nb (Nat.le_refl _) (nmK.enc nmL).toArray
      change Code.wp Try.prog _ _ _ ((w.alloc (Obj.cells (nmK.enc nmZ).toArray 34)).setRow w.heap.size (nmK.enc nmL).toArray)
      generalize (w.alloc (Obj.cells (nmK.enc nmZ).toArray 34)).setRow w.heap.size (nmK.enc nmL).toArray = W at *
      have hW2 := hid hW
      generalize w.heap.size = G at hZ hW ⊢
      clear nb e hW
      go_wp2_with fail
      go_ret
      exact ⟨rfl, hW2.out⟩

theorem below_same {n : Nat} {w w' : World} (h : w' = w) : Below n w w' := h ▸ Below.refl _ _
theorem ownNextP : CNextP := fun s e so w => (next_own s e so w).mono fun _ _ h => ⟨h.1, below_same h.2⟩
theorem ownDecP : CDecP := fun s d same so w => (decided_own s d same so w).mono fun _ _ h => ⟨h.1, below_same h.2⟩
theorem ownHearsP : CHearsP := fun s w => (ownHears_any s w).mono fun _ _ h => ⟨h.1, below_same h.2⟩
theorem ownFollP : CFollP := fun s w => (ownFollows_any s w).mono fun _ _ h => ⟨h.1, below_same h.2⟩
theorem ownAliveP : CAliveP := fun s w => (ownAlive_any s w).mono fun _ _ h => ⟨h.1, below_same h.2⟩
theorem ownNameP : CNameP := fun s w => name_own s w
end Go.Proofs.Ytnjonglljlbcbaa
