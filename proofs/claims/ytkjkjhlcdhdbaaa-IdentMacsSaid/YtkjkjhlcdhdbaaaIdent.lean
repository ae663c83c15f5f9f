/- Package ident, the calls without bytes: which one is the lesser, who is meant, what may be; package cmp's Compare. -/
import Derived.Test.YtkjkjhlcdhdbaaaBase
import Derived.OwnWalk
namespace Go.Proofs.Ytkjkjhlcdhdbaaa
open Go.RowKit Go.Proofs
set_option linter.unusedVariables false
set_option linter.unusedSimpArgs false

/-- A port's identity as a value. -/
abbrev portV (c p : Int) : Value := .agg #[.int .u64 c, .int .i64 p]

/-- -1, 0, 1 of two numbers. -/
def cmpI (a b : Int) : Int := if a < b then -1 else if b < a then 1 else 0

theorem cmpI_lt {a b : Int} (h : a < b) : cmpI a b = -1 := if_pos h
theorem cmpI_gt {a b : Int} (h : b < a) : cmpI a b = 1 := by unfold cmpI; rw [if_neg (by omega), if_pos h]
theorem cmpI_eq {a b : Int} (h : a = b) : cmpI a b = 0 := by unfold cmpI; rw [if_neg (by omega), if_neg (by omega)]

/-- .. of two ports: the clock, then the port. -/
def cmpP (a a' b b' : Int) : Int := if a = b then cmpI a' b' else cmpI a b

theorem cmpP_same {a a' b b' : Int} (h : a = b) : cmpP a a' b b' = cmpI a' b' := if_pos h
theorem cmpP_other {a a' b b' : Int} (h : a ≠ b) : cmpP a a' b b' = cmpI a b := if_neg h

def mayP (p : Int) : Bool := decide (0 ≤ p ∧ p ≤ 65535)

/-- Whether a target (t, t') means a port (p, p'). -/
def meantB (t t' p p' : Int) : Bool := (decide (t = 18446744073709551615) || decide (t = p)) && (decide (t' = 65535) || decide (t' = p'))

set_option maxHeartbeats 400000 in
theorem nanU_any (a : Int) (w : World) :
    Calls Try.prog 38 #[.int .u64 a] w fun e w' => e = .returned (.bool false) ∧ w = w' := by
  go_enter Try.func38, Try.ntmps38
  go_wp2
  go_ret
  exact ⟨rfl, rfl⟩

set_option maxHeartbeats 400000 in
theorem nanI_any (a : Int) (w : World) :
    Calls Try.prog 39 #[.int .i64 a] w fun e w' => e = .returned (.bool false) ∧ w = w' := by
  go_enter Try.func39, Try.ntmps39
  go_wp2
  go_ret
  exact ⟨rfl, rfl⟩

set_option maxHeartbeats 800000 in
theorem cmpU_any (a b : Int) (w : World) :
    Calls Try.prog 32 #[.int .u64 a, .int .u64 b] w fun e w' => e = .returned (.int .i64 (cmpI a b)) ∧ w = w' := by
  by_cases h1 : a < b
  · rw [cmpI_lt h1]
    go_enter Try.func32, Try.ntmps32
    go_wp2_with fail
    refine (nanU_any _ _).mono ?_
    rintro e w' ⟨rfl, rfl⟩
    go_wp2_with fail
    refine (nanU_any _ _).mono ?_
    rintro e w' ⟨rfl, rfl⟩
    go_wp2_with fail
    go_ret
    exact ⟨rfl, rfl⟩
  by_cases h2 : b < a
  · rw [cmpI_gt h2]
    go_enter Try.func32, Try.ntmps32
    go_wp2_with fail
    refine (nanU_any _ _).mono ?_
    rintro e w' ⟨rfl, rfl⟩
    go_wp2_with fail
    refine (nanU_any _ _).mono ?_
    rintro e w' ⟨rfl, rfl⟩
    go_wp2_with fail
    go_ret
    exact ⟨rfl, rfl⟩
  rw [cmpI_eq (by omega)]
  go_enter Try.func32, Try.ntmps32
  go_wp2_with fail
  refine (nanU_any _ _).mono ?_
  rintro e w' ⟨rfl, rfl⟩
  go_wp2_with fail
  refine (nanU_any _ _).mono ?_
  rintro e w' ⟨rfl, rfl⟩
  go_wp2_with fail
  go_ret
  exact ⟨rfl, rfl⟩

set_option maxHeartbeats 800000 in
theorem cmpI_any (a b : Int) (w : World) :
    Calls Try.prog 33 #[.int .i64 a, .int .i64 b] w fun e w' => e = .returned (.int .i64 (cmpI a b)) ∧ w = w' := by
  by_cases h1 : a < b
  · rw [cmpI_lt h1]
    go_enter Try.func33, Try.ntmps33
    go_wp2_with fail
    refine (nanI_any _ _).mono ?_
    rintro e w' ⟨rfl, rfl⟩
    go_wp2_with fail
    refine (nanI_any _ _).mono ?_
    rintro e w' ⟨rfl, rfl⟩
    go_wp2_with fail
    go_ret
    exact ⟨rfl, rfl⟩
  by_cases h2 : b < a
  · rw [cmpI_gt h2]
    go_enter Try.func33, Try.ntmps33
    go_wp2_with fail
    refine (nanI_any _ _).mono ?_
    rintro e w' ⟨rfl, rfl⟩
    go_wp2_with fail
    refine (nanI_any _ _).mono ?_
    rintro e w' ⟨rfl, rfl⟩
    go_wp2_with fail
    go_ret
    exact ⟨rfl, rfl⟩
  rw [cmpI_eq (by omega)]
  go_enter Try.func33, Try.ntmps33
  go_wp2_with fail
  refine (nanI_any _ _).mono ?_
  rintro e w' ⟨rfl, rfl⟩
  go_wp2_with fail
  refine (nanI_any _ _).mono ?_
  rintro e w' ⟨rfl, rfl⟩
  go_wp2_with fail
  go_ret
  exact ⟨rfl, rfl⟩

set_option maxHeartbeats 400000 in
theorem identMay_any (c p : Int) (w : World) :
    Calls Try.prog 16 #[portV c p] w fun e w' => e = .returned (.bool (mayP p)) ∧ Below w.heap.size w w' := by
  by_cases h : 0 ≤ p
  · go_enter Try.func16, Try.ntmps16
    go_wp2
    go_ret
    exact ⟨ret_bool (by unfold mayP; first | (simp [h]; done) | (symm; rw [decide_eq_false_iff_not]; omega)), bnew _ _⟩
  · go_enter Try.func16, Try.ntmps16
    go_wp2
    go_ret
    exact ⟨ret_bool (by unfold mayP; first | (simp [h]; done) | (symm; rw [decide_eq_false_iff_not]; omega)), bnew _ _⟩

set_option maxHeartbeats 400000 in
theorem refIdentMay_any (c p : Int) (w : World) :
    Calls Try.prog 17 #[portV c p] w fun e w' => e = .returned (.bool (mayP p)) ∧ Below w.heap.size w w' := by
  by_cases h : 0 ≤ p
  · go_enter Try.func17, Try.ntmps17
    go_wp2
    go_ret
    exact ⟨ret_bool (by unfold mayP; first | (simp [h]; done) | (symm; rw [decide_eq_false_iff_not]; omega)), bnew _ _⟩
  · go_enter Try.func17, Try.ntmps17
    go_wp2
    go_ret
    exact ⟨ret_bool (by unfold mayP; first | (simp [h]; done) | (symm; rw [decide_eq_false_iff_not]; omega)), bnew _ _⟩

theorem bnew2 (w : World) (o o' : Obj) : Below w.heap.size w ((w.alloc o).alloc o') := (bnew w o).alloc (bnew w o).size _

set_option maxHeartbeats 800000 in
theorem compare_any (a a' b b' : Int) (w : World) :
    Calls Try.prog 19 #[portV a a', portV b b'] w fun e w' => e = .returned (.int .i64 (cmpP a a' b b')) ∧ Below w.heap.size w w' := by
  by_cases h1 : a = b
  · subst h1
    rw [cmpP_same rfl]
    by_cases h2 : a' = b'
    · subst h2
      rw [cmpI_eq rfl]
      go_enter Try.func19, Try.ntmps19
      go_wp2
      go_ret
      exact ⟨rfl, bnew2 _ _ _⟩
    · go_enter Try.func19, Try.ntmps19
      go_wp2_with fail
      refine (cmpI_any _ _ _).mono ?_
      rintro e w' ⟨rfl, rfl⟩
      go_wp2_with fail
      go_ret
      exact ⟨rfl, bnew2 _ _ _⟩
  · rw [cmpP_other h1]
    go_enter Try.func19, Try.ntmps19
    go_wp2_with fail
    refine (cmpU_any _ _ _).mono ?_
    rintro e w' ⟨rfl, rfl⟩
    go_wp2_with fail
    go_ret
    exact ⟨rfl, bnew2 _ _ _⟩

set_option maxHeartbeats 800000 in
theorem refCompare_any (a a' b b' : Int) (w : World) :
    Calls Try.prog 20 #[portV a a', portV b b'] w fun e w' => e = .returned (.int .i64 (cmpP a a' b b')) ∧ Below w.heap.size w w' := by
  by_cases h1 : a < b
  · rw [cmpP_other (by omega), cmpI_lt h1]
    go_enter Try.func20, Try.ntmps20
    go_wp2
    go_ret
    exact ⟨rfl, bnew2 _ _ _⟩
  by_cases h2 : b < a
  · rw [cmpP_other (by omega), cmpI_gt h2]
    go_enter Try.func20, Try.ntmps20
    go_wp2
    go_ret
    exact ⟨rfl, bnew2 _ _ _⟩
  obtain rfl : a = b := by omega
  rw [cmpP_same rfl]
  clear h1 h2
  by_cases h3 : a' < b'
  · rw [cmpI_lt h3]
    go_enter Try.func20, Try.ntmps20
    go_wp2
    go_ret
    exact ⟨rfl, bnew2 _ _ _⟩
  by_cases h4 : b' < a'
  · rw [cmpI_gt h4]
    go_enter Try.func20, Try.ntmps20
    go_wp2
    go_ret
    exact ⟨rfl, bnew2 _ _ _⟩
  rw [cmpI_eq (by omega)]
  go_enter Try.func20, Try.ntmps20
  go_wp2
  go_ret
  exact ⟨rfl, bnew2 _ _ _⟩

theorem decide_beq (a b : Int) : (a == b) = decide (a = b) := by rw [Bool.eq_iff_iff, beq_iff_eq, decide_eq_true_iff]

theorem meantB_all {t' p p' : Int} : meantB 18446744073709551615 t' p p' = (decide (t' = 65535) || decide (t' = p')) := by unfold meantB; simp
theorem meantB_no {t t' p p' : Int} (h : t ≠ 18446744073709551615) (h' : t ≠ p) : meantB t t' p p' = false := by unfold meantB; simp [h, h']
theorem meantB_one {t' p p' : Int} : meantB p t' p p' = (decide (t' = 65535) || decide (t' = p')) := by unfold meantB; simp

set_option maxHeartbeats 800000 in
theorem refMeant_any (t t' p p' : Int) (w : World) :
    Calls Try.prog 22 #[portV t t', portV p p'] w fun e w' => e = .returned (.bool (meantB t t' p p')) ∧ Below w.heap.size w w' := by
  by_cases h1 : t = 18446744073709551615
  · subst h1
    rw [meantB_all]
    by_cases h2 : t' = 65535
    · subst h2
      go_enter Try.func22, Try.ntmps22
      go_wp2
      go_ret
      exact ⟨ret_bool (by simp), bnew2 _ _ _⟩
    · go_enter Try.func22, Try.ntmps22
      go_wp2
      go_ret
      exact ⟨ret_bool (by simp [h2, decide_beq]), bnew2 _ _ _⟩
  by_cases h3 : t = p
  · subst h3
    rw [meantB_one]
    by_cases h2 : t' = 65535
    · subst h2
      go_enter Try.func22, Try.ntmps22
      go_wp2
      go_ret
      exact ⟨ret_bool (by simp), bnew2 _ _ _⟩
    · go_enter Try.func22, Try.ntmps22
      go_wp2
      go_ret
      exact ⟨ret_bool (by simp [h2, decide_beq]), bnew2 _ _ _⟩
  rw [meantB_no h1 h3]
  go_enter Try.func22, Try.ntmps22
  go_wp2
  go_ret
  exact ⟨rfl, bnew2 _ _ _⟩

set_option maxHeartbeats 800000 in
theorem meant_any (t t' p p' : Int) (w : World) :
    Calls Try.prog 21 #[portV t t', portV p p'] w fun e w' => e = .returned (.bool (meantB t t' p p')) ∧ Below w.heap.size w w' := by
  by_cases h1 : t = 18446744073709551615
  · subst h1
    by_cases h2 : t' = 65535
    · subst h2
      go_enter Try.func21, Try.ntmps21
      go_wp2
      all_goals
        go_ret
        exact ⟨ret_bool (by unfold meantB; simp_all), bnew2 _ _ _⟩
    · go_enter Try.func21, Try.ntmps21
      go_wp2
      all_goals
        go_ret
        exact ⟨ret_bool (by unfold meantB; simp_all), bnew2 _ _ _⟩
  by_cases h2 : t' = 65535
  · subst h2
    go_enter Try.func21, Try.ntmps21
    go_wp2
    all_goals
      go_ret
      exact ⟨ret_bool (by unfold meantB; simp_all), bnew2 _ _ _⟩
  · go_enter Try.func21, Try.ntmps21
    go_wp2
    all_goals
      go_ret
      exact ⟨ret_bool (by unfold meantB; simp_all), bnew2 _ _ _⟩
end Go.Proofs.Ytkjkjhlcdhdbaaa
