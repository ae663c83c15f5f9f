/- Package quality, the calls without bytes: what may be, which one is the better; the document's own. -/
import Derived.Test.YtknbflipockegaaCmp
import Derived.Test.YtknbflipockegaaRow
namespace Go.Proofs.Ytknbflipockegaa
open Go.RowKit Go.Proofs
set_option linter.unusedVariables false
set_option linter.unusedSimpArgs false

/-- A quality as a value. -/
abbrev qualV (c a v : Int) : Value := .agg #[.int .i64 c, .int .i64 a, .int .i64 v]

/-- The first one that is not 0. -/
def orI : List Int → Int
  | [] => 0
  | z :: zs => if z = 0 then orI zs else z

theorem orI_drop (zs : List Int) : ∀ (k : Nat) (h : k < zs.length), orI (zs.drop k) = if zs[k] = 0 then orI (zs.drop (k + 1)) else zs[k] := by
  intro k h
  rw [List.drop_eq_getElem_cons h]
  rfl

/-- -1, 0, 1 of two qualities. -/
def cmpQ (c a v c' a' v' : Int) : Int := if c = c' then (if a = a' then cmpI v v' else cmpI a a') else cmpI c c'

theorem cmpI_zero {a b : Int} : cmpI a b = 0 ↔ a = b := by
  unfold cmpI
  split
  · omega
  · split <;> omega

theorem orI_three (c a v c' a' v' : Int) : orI [cmpI c c', cmpI a a', cmpI v v'] = cmpQ c a v c' a' v' := by
  unfold cmpQ
  simp only [orI, cmpI_zero]
  by_cases h1 : c = c'
  · rw [if_pos h1, if_pos h1]
    by_cases h2 : a = a'
    · rw [if_pos h2, if_pos h2]
      by_cases h3 : v = v'
      · rw [if_pos h3, cmpI_zero.2 h3]
      · rw [if_neg h3]
    · rw [if_neg h2, if_neg h2]
  · rw [if_neg h1, if_neg h1]

def in1 (x : Int) : Bool := decide (0 ≤ x ∧ x < 256)
def in2 (x : Int) : Bool := decide (0 ≤ x ∧ x < 65536)
def mayQ (c a v : Int) : Bool := in1 c && in1 a && in2 v

theorem in1_iff {x : Int} : in1 x = true ↔ 0 ≤ x ∧ x < 256 := by simp [in1]
theorem in2_iff {x : Int} : in2 x = true ↔ 0 ≤ x ∧ x < 65536 := by simp [in2]
theorem mayQ_iff {c a v : Int} : mayQ c a v = true ↔ in1 c = true ∧ in1 a = true ∧ in2 v = true := by simp [mayQ, and_assoc]

set_option maxHeartbeats 400000 in
theorem fits1_any (x : Int) (w : World) :
    Calls Try.prog 23 #[.int .i64 x, .int .i64 1] w fun e w' => e = .returned (.bool (in1 x)) ∧ w = w' := by
  by_cases h : 0 ≤ x
  · go_enter Try.func23, Try.ntmps23
    go_wp2
    go_ret
    exact ⟨ret_bool (by unfold in1; first | (simp [h]; done) | (symm; rw [decide_eq_false_iff_not]; omega)), rfl⟩
  · go_enter Try.func23, Try.ntmps23
    go_wp2
    go_ret
    exact ⟨ret_bool (by unfold in1; symm; rw [decide_eq_false_iff_not]; omega), rfl⟩

set_option maxHeartbeats 400000 in
theorem fits2_any (x : Int) (w : World) :
    Calls Try.prog 23 #[.int .i64 x, .int .i64 2] w fun e w' => e = .returned (.bool (in2 x)) ∧ w = w' := by
  by_cases h : 0 ≤ x
  · go_enter Try.func23, Try.ntmps23
    go_wp2
    go_ret
    exact ⟨ret_bool (by unfold in2; first | (simp [h]; done) | (symm; rw [decide_eq_false_iff_not]; omega)), rfl⟩
  · go_enter Try.func23, Try.ntmps23
    go_wp2
    go_ret
    exact ⟨ret_bool (by unfold in2; symm; rw [decide_eq_false_iff_not]; omega), rfl⟩

set_option maxHeartbeats 800000 in
theorem mayQ_any (c a v : Int) (w : World) :
    Calls Try.prog 13 #[qualV c a v] w fun e w' => e = .returned (.bool (mayQ c a v)) ∧ Below w.heap.size w w' := by
  unfold mayQ
  cases h1 : in1 c
  · have H1 := hid h1
    clear h1
    go_enter Try.func13, Try.ntmps13
    go_wp2_with fail
    refine (fits1_any _ _).mono ?_
    rintro e w' ⟨rfl, rfl⟩
    rw [H1.out]
    go_wp2_with fail
    go_ret
    exact ⟨rfl, bnew _ _⟩
  cases h2 : in1 a
  · have H1 := hid h1
    have H2 := hid h2
    clear h1 h2
    go_enter Try.func13, Try.ntmps13
    go_wp2_with fail
    refine (fits1_any _ _).mono ?_
    rintro e w' ⟨rfl, rfl⟩
    rw [H1.out]
    go_wp2_with fail
    refine (fits1_any _ _).mono ?_
    rintro e w' ⟨rfl, rfl⟩
    rw [H2.out]
    go_wp2_with fail
    go_ret
    exact ⟨rfl, bnew _ _⟩
  have H1 := hid h1
  have H2 := hid h2
  clear h1 h2
  go_enter Try.func13, Try.ntmps13
  go_wp2_with fail
  refine (fits1_any _ _).mono ?_
  rintro e w' ⟨rfl, rfl⟩
  rw [H1.out]
  go_wp2_with fail
  refine (fits1_any _ _).mono ?_
  rintro e w' ⟨rfl, rfl⟩
  rw [H2.out]
  go_wp2_with fail
  refine (fits2_any _ _).mono ?_
  rintro e w' ⟨rfl, rfl⟩
  go_wp2_with fail
  go_ret
  exact ⟨rfl, bnew _ _⟩

set_option maxHeartbeats 400000 in
theorem refIn_any (x f t : Int) (w : World) :
    Calls Try.prog 24 #[.int .i64 x, .int .i64 f, .int .i64 t] w fun e w' => e = .returned (.bool (decide (f ≤ x ∧ x ≤ t))) ∧ w = w' := by
  by_cases h : f ≤ x
  · go_enter Try.func24, Try.ntmps24
    go_wp2
    go_ret
    exact ⟨ret_bool (by simp [h]), rfl⟩
  · go_enter Try.func24, Try.ntmps24
    go_wp2
    go_ret
    exact ⟨ret_bool (by simp; omega), rfl⟩

theorem in1_le (x : Int) : decide (0 ≤ x ∧ x ≤ 255) = in1 x := by unfold in1; rw [decide_eq_decide]; omega
theorem in2_le (x : Int) : decide (0 ≤ x ∧ x ≤ 65535) = in2 x := by unfold in2; rw [decide_eq_decide]; omega

set_option maxHeartbeats 800000 in
theorem refMayQ_any (c a v : Int) (w : World) :
    Calls Try.prog 14 #[qualV c a v] w fun e w' => e = .returned (.bool (mayQ c a v)) ∧ Below w.heap.size w w' := by
  unfold mayQ
  cases h1 : in1 c
  · have H1 := hid h1
    clear h1
    go_enter Try.func14, Try.ntmps14
    go_wp2_with fail
    refine (refIn_any _ _ _ _).mono ?_
    rintro e w' ⟨rfl, rfl⟩
    rw [in1_le, H1.out]
    go_wp2_with fail
    go_ret
    exact ⟨rfl, bnew _ _⟩
  cases h2 : in1 a
  · have H1 := hid h1
    have H2 := hid h2
    clear h1 h2
    go_enter Try.func14, Try.ntmps14
    go_wp2_with fail
    refine (refIn_any _ _ _ _).mono ?_
    rintro e w' ⟨rfl, rfl⟩
    rw [in1_le, H1.out]
    go_wp2_with fail
    refine (refIn_any _ _ _ _).mono ?_
    rintro e w' ⟨rfl, rfl⟩
    rw [in1_le, H2.out]
    go_wp2_with fail
    go_ret
    exact ⟨rfl, bnew _ _⟩
  have H1 := hid h1
  have H2 := hid h2
  clear h1 h2
  go_enter Try.func14, Try.ntmps14
  go_wp2_with fail
  refine (refIn_any _ _ _ _).mono ?_
  rintro e w' ⟨rfl, rfl⟩
  rw [in1_le, H1.out]
  go_wp2_with fail
  refine (refIn_any _ _ _ _).mono ?_
  rintro e w' ⟨rfl, rfl⟩
  rw [in1_le, H2.out]
  go_wp2_with fail
  refine (refIn_any _ _ _ _).mono ?_
  rintro e w' ⟨rfl, rfl⟩
  rw [in2_le]
  go_wp2_with fail
  go_ret
  exact ⟨rfl, bnew _ _⟩

set_option maxHeartbeats 400000 in
theorem refOrder_any (a b : Int) (w : World) :
    Calls Try.prog 25 #[.int .i64 a, .int .i64 b] w fun e w' => e = .returned (.int .i64 (cmpI a b)) ∧ w = w' := by
  by_cases h1 : a < b
  · rw [cmpI_lt h1]
    go_enter Try.func25, Try.ntmps25
    go_wp2
    go_ret
    exact ⟨rfl, rfl⟩
  by_cases h2 : b < a
  · rw [cmpI_gt h2]
    go_enter Try.func25, Try.ntmps25
    go_wp2
    go_ret
    exact ⟨rfl, rfl⟩
  rw [cmpI_eq (by omega)]
  go_enter Try.func25, Try.ntmps25
  go_wp2
  go_ret
  exact ⟨rfl, rfl⟩

theorem cmpQ_c {c a v c' a' v' : Int} (h : ¬ c = c') : cmpQ c a v c' a' v' = cmpI c c' := if_neg h
theorem cmpQ_a {c a v a' v' : Int} (h : ¬ a = a') : cmpQ c a v c a' v' = cmpI a a' := by unfold cmpQ; rw [if_pos rfl, if_neg h]
theorem cmpQ_v {c a v v' : Int} : cmpQ c a v c a v' = cmpI v v' := by unfold cmpQ; rw [if_pos rfl, if_pos rfl]

theorem bnew2q (w : World) (o o' : Obj) : Below w.heap.size w ((w.alloc o).alloc o') := (bnew w o).alloc (bnew w o).size _

set_option maxHeartbeats 800000 in
theorem refCompareQ_any (c a v c' a' v' : Int) (w : World) :
    Calls Try.prog 16 #[qualV c a v, qualV c' a' v'] w fun e w' => e = .returned (.int .i64 (cmpQ c a v c' a' v')) ∧ Below w.heap.size w w' := by
  by_cases h1 : c = c'
  · subst h1
    by_cases h2 : a = a'
    · subst h2
      rw [cmpQ_v]
      go_enter Try.func16, Try.ntmps16
      go_wp2_with fail
      refine (refOrder_any _ _ _).mono ?_
      rintro e w' ⟨rfl, rfl⟩
      rw [cmpI_eq rfl]
      go_wp2_with fail
      refine (refOrder_any _ _ _).mono ?_
      rintro e w' ⟨rfl, rfl⟩
      rw [cmpI_eq rfl]
      go_wp2_with fail
      refine (refOrder_any _ _ _).mono ?_
      rintro e w' ⟨rfl, rfl⟩
      go_wp2_with fail
      go_ret
      exact ⟨rfl, bnew2q _ _ _⟩
    · rw [cmpQ_a h2]
      have hz : ¬ cmpI a a' = 0 := fun h => h2 (cmpI_zero.1 h)
      generalize hX : cmpI a a' = X at *
      have HX := hid hX
      clear hX
      clear h2
      go_enter Try.func16, Try.ntmps16
      go_wp2_with fail
      refine (refOrder_any _ _ _).mono ?_
      rintro e w' ⟨rfl, rfl⟩
      rw [cmpI_eq rfl]
      go_wp2_with fail
      refine (refOrder_any _ _ _).mono ?_
      rintro e w' ⟨rfl, rfl⟩
      rw [HX.out]
      go_wp2_with fail
      go_ret
      exact ⟨rfl, bnew2q _ _ _⟩
  · rw [cmpQ_c h1]
    have hz : ¬ cmpI c c' = 0 := fun h => h1 (cmpI_zero.1 h)
    generalize hX : cmpI c c' = X at *
    have HX := hid hX
    clear hX
    clear h1
    go_enter Try.func16, Try.ntmps16
    go_wp2_with fail
    refine (refOrder_any _ _ _).mono ?_
    rintro e w' ⟨rfl, rfl⟩
    rw [HX.out]
    go_wp2_with fail
    go_ret
    exact ⟨rfl, bnew2q _ _ _⟩
end Go.Proofs.Ytknbflipockegaa
