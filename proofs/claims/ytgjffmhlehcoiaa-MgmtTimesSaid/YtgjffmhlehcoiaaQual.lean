/- Package quality, the calls without bytes: what may be, which one is the better; the document's own. -/
import Derived.Test.YtgjffmhlehcoiaaCmp
import Derived.Test.YtgjffmhlehcoiaaRow
namespace Go.Proofs.Ytgjffmhlehcoiaa
open Go.RowKit Go.Proofs
set_option maxRecDepth 50000
set_option linter.unusedVariables false
set_option linter.unusedSimpArgs false

/-- A quality as a value. -/
abbrev qualV (c a v : Int) : Value := .agg #[.int .i64 c, .int .i64 a, .int .i64 v]

/-- The first one that is not 0. -/
def orI : List Int → Int
  | [] => 0
  | z :: zs => if z = 0 then orI zs else z

theorem orI_drop (zs : List Int) : ∀ (k : Nat) (h : k < zs.length), orI (zs.drop k) = if zs[k] = 0 then orI (zs.drop (k + 1)) else zs[k] := by
  intro k h
  rw [List.drop_eq_getElem_cons h]
  rfl

/-- -1, 0, 1 of two qualities. -/
def cmpQ (c a v c' a' v' : Int) : Int := if c = c' then (if a = a' then cmpI v v' else cmpI a a') else cmpI c c'

theorem cmpI_zero {a b : Int} : cmpI a b = 0 ↔ a = b := by
  unfold cmpI
  split
  · omega
  · split <;> omega

theorem orI_three (c a v c' a' v' : Int) : orI [cmpI c c', cmpI a a', cmpI v v'] = cmpQ c a v c' a' v' := by
  unfold cmpQ
  simp only [orI, cmpI_zero]
  by_cases h1 : c = c'
  · rw [if_pos h1, if_pos h1]
    by_cases h2 : a = a'
    · rw [if_pos h2, if_pos h2]
      by_cases h3 : v = v'
      · rw [if_pos h3, cmpI_zero.2 h3]
      · rw [if_neg h3]
    · rw [if_neg h2, if_neg h2]
  · rw [if_neg h1, if_neg h1]

def in1 (x : Int) : Bool := decide (0 ≤ x ∧ x < 256)
def in2 (x : Int) : Bool := decide (0 ≤ x ∧ x < 65536)
def mayQ (c a v : Int) : Bool := in1 c && in1 a && in2 v

theorem in1_iff {x : Int} : in1 x = true ↔ 0 ≤ x ∧ x < 256 := by simp [in1]
theorem in2_iff {x : Int} : in2 x = true ↔ 0 ≤ x ∧ x < 65536 := by simp [in2]
theorem mayQ_iff {c a v : Int} : mayQ c a v = true ↔ in1 c = true ∧ in1 a = true ∧ in2 v = true := by simp [mayQ, and_assoc]

set_option maxHeartbeats 400000 in
theorem fits1_any (x : Int) (w : World) :
    Calls Try.prog 50 #[.int .i64 x, .int .i64 1] w fun e w' => e = .returned (.bool (in1 x)) ∧ w = w' := by
  by_cases h : 0 ≤ x
  · go_enter Try.func50, Try.ntmps50
    go_wp2
    go_ret
    exact ⟨ret_bool (by unfold in1; first | (simp [h]; done) | (symm; rw [decide_eq_false_iff_not]; omega)), rfl⟩
  · go_enter Try.func50, Try.ntmps50
    go_wp2
    go_ret
    exact ⟨ret_bool (by unfold in1; symm; rw [decide_eq_false_iff_not]; omega), rfl⟩

set_option maxHeartbeats 400000 in
theorem fits2_any (x : Int) (w : World) :
    Calls Try.prog 50 #[.int .i64 x, .int .i64 2] w fun e w' => e = .returned (.bool (in2 x)) ∧ w = w' := by
  by_cases h : 0 ≤ x
  · go_enter Try.func50, Try.ntmps50
    go_wp2
    go_ret
    exact ⟨ret_bool (by unfold in2; first | (simp [h]; done) | (symm; rw [decide_eq_false_iff_not]; omega)), rfl⟩
  · go_enter Try.func50, Try.ntmps50
    go_wp2
    go_ret
    exact ⟨ret_bool (by unfold in2; symm; rw [decide_eq_false_iff_not]; omega), rfl⟩

set_option maxHeartbeats 800000 in
theorem mayQ_any (c a v : Int) (w : World) :
    Calls Try.prog 43 #[qualV c a v] w fun e w' => e = .returned (.bool (mayQ c a v)) ∧ Below w.heap.size w w' := by
  unfold mayQ
  cases h1 : in1 c
  · have H1 := hid h1
    clear h1
    go_enter Try.func43, Try.ntmps43
    go_wp2_with fail
    refine (fits1_any _ _).mono ?_
    rintro e w' ⟨rfl, rfl⟩
    rw [H1.out]
    go_wp2_with fail
    go_ret
    exact ⟨rfl, bnew _ _⟩
  cases h2 : in1 a
  · have H1 := hid h1
    have H2 := hid h2
    clear h1 h2
    go_enter Try.func43, Try.ntmps43
    go_wp2_with fail
    refine (fits1_any _ _).mono ?_
    rintro e w' ⟨rfl, rfl⟩
    rw [H1.out]
    go_wp2_with fail
    refine (fits1_any _ _).mono ?_
    rintro e w' ⟨rfl, rfl⟩
    rw [H2.out]
    go_wp2_with fail
    go_ret
    exact ⟨rfl, bnew _ _⟩
  have H1 := hid h1
  have H2 := hid h2
  clear h1 h2
  go_enter Try.func43, Try.ntmps43
  go_wp2_with fail
  refine (fits1_any _ _).mono ?_
  rintro e w' ⟨rfl, rfl⟩
  rw [H1.out]
  go_wp2_with fail
  refine (fits1_any _ _).mono ?_
  rintro e w' ⟨rfl, rfl⟩
  rw [H2.out]
  go_wp2_with fail
  refine (fits2_any _ _).mono ?_
  rintro e w' ⟨rfl, rfl⟩
  go_wp2_with fail
  go_ret
  exact ⟨rfl, bnew _ _⟩

set_option maxHeartbeats 400000 in
theorem refIn_any (x f t : Int) (w : World) :
    Calls Try.prog 15 #[.int .i64 x, .int .i64 f, .int .i64 t] w fun e w' => e = .returned (.bool (decide (f ≤ x ∧ x ≤ t))) ∧ w = w' := by
  by_cases h : f ≤ x
  · go_enter Try.func15, Try.ntmps15
    go_wp2
    go_ret
    exact ⟨ret_bool (by simp [h]), rfl⟩
  · go_enter Try.func15, Try.ntmps15
    go_wp2
    go_ret
    exact ⟨ret_bool (by simp; omega), rfl⟩

theorem in1_le (x : Int) : decide (0 ≤ x ∧ x ≤ 255) = in1 x := by unfold in1; rw [decide_eq_decide]; omega
theorem in2_le (x : Int) : decide (0 ≤ x ∧ x ≤ 65535) = in2 x := by unfold in2; rw [decide_eq_decide]; omega

set_option maxHeartbeats 800000 in
theorem refMayQ_any (c a v : Int) (w : World) :
    Calls Try.prog 16 #[qualV c a v] w fun e w' => e = .returned (.bool (mayQ c a v)) ∧ Below w.heap.size w w' := by
  unfold mayQ
  cases h1 : in1 c
  · have H1 := hid h1
    clear h1
    go_enter Try.func16, Try.ntmps16
    go_wp2_with fail
    refine (refIn_any _ _ _ _).mono ?_
    rintro e w' ⟨rfl, rfl⟩
    rw [in1_le, H1.out]
    go_wp2_with fail
    go_ret
    exact ⟨rfl, bnew _ _⟩
  cases h2 : in1 a
  · have H1 := hid h1
    have H2 := hid h2
    clear h1 h2
    go_enter Try.func16, Try.ntmps16
    go_wp2_with fail
    refine (refIn_any _ _ _ _).mono ?_
    rintro e w' ⟨rfl, rfl⟩
    rw [in1_le, H1.out]
    go_wp2_with fail
    refine (refIn_any _ _ _ _).mono ?_
    rintro e w' ⟨rfl, rfl⟩
    rw [in1_le, H2.out]
    go_wp2_with fail
    go_ret
    exact ⟨rfl, bnew _ _⟩
  have H1 := hid h1
  have H2 := hid h2
  clear h1 h2
  go_enter Try.func16, Try.ntmps16
  go_wp2_with fail
  refine (refIn_any _ _ _ _).mono ?_
  rintro e w' ⟨rfl, rfl⟩
  rw [in1_le, H1.out]
  go_wp2_with fail
  refine (refIn_any _ _ _ _).mono ?_
  rintro e w' ⟨rfl, rfl⟩
  rw [in1_le, H2.out]
  go_wp2_with fail
  refine (refIn_any _ _ _ _).mono ?_
  rintro e w' ⟨rfl, rfl⟩
  rw [in2_le]
  go_wp2_with fail
  go_ret
  exact ⟨rfl, bnew _ _⟩

end Go.Proofs.Ytgjffmhlehcoiaa
