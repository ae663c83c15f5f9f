/- The walks of the laws PairExchanges, PairTurns, PairShift, PairEven. -/
import Derived.Test.YtcnhgcnfekldlaaPairRef
import Derived.Test.YtcnhgcnfekldlaaPlace
namespace Go.Proofs.Ytcnhgcnfekldlaa
open Go.RowKit Go.Proofs
set_option linter.unusedVariables false
set_option linter.unusedSimpArgs false

set_option maxHeartbeats 800000 in
theorem pairExchanges_walk (a0 : Int) (w0 : (Lit.int .i64 a0).wf = true) (a1 : Int) (w1 : (Lit.int .i64 a1).wf = true) (a2 : Int) (w2 : (Lit.int .i64 a2).wf = true) (a3 : Int) (w3 : (Lit.int .i64 a3).wf = true) (w : World) :
    Calls Try.prog 3 #[.int .i64 a0, .int .i64 a1, .int .i64 a2, .int .i64 a3] w fun e w' => e = .returned (.bool true) ∧ Below w.heap.size w w' := by
  clear w0 w1 w2 w3
  go_enter Try.func3, Try.ntmps3
  go_wp2_with fail
  refine (exchange_any _ _ _ _ _).mono ?_
  rintro e w' ⟨rfl, rfl⟩
  go_wp2_with fail
  refine (refExchange_any _ _ _ _ _).mono ?_
  rintro e w' ⟨rfl, hbel⟩
  go_wp2_with fail
  refine (awake03_any _).mono ?_
  rintro e w' ⟨rfl, rfl⟩
  go_wp2_with fail
  go_ret
  exact ⟨rfl, hbel⟩

/-- Four stamps, what they tell given beforehand. -/
theorem exchange_of {t1 t2 t3 t4 : Int} (o d : Int) (w : World) (h1 : 0 ≤ t1 ∧ t1 ≤ 4000000000000000) (h2 : 0 ≤ t2 ∧ t2 ≤ 4000000000000000) (h3 : 0 ≤ t3 ∧ t3 ≤ 4000000000000000) (h4 : 0 ≤ t4 ∧ t4 ≤ 4000000000000000)
    (ho : (t2 - t1 - (t4 - t3)) / 2 = o) (hd : (t2 - t1 + (t4 - t3)) / 2 = d) :
    Calls Try.prog 8 #[.int .i64 t1, .int .i64 t2, .int .i64 t3, .int .i64 t4] w fun e w' => e = .returned (.tuple #[.int .i64 o, .int .i64 d, .bool true]) ∧ w = w' := by
  have hy : allB t1 t2 t3 t4 = true := allB_iff.2 ⟨h1, h2, h3, h4⟩
  have := exchange_any t1 t2 t3 t4 w
  unfold exO exD at this
  rw [hy, if_pos rfl, if_pos rfl, ho, hd] at this
  exact this

theorem exchange_no {t1 t2 t3 t4 : Int} (w : World) (h : ¬ (0 ≤ t1 ∧ t1 ≤ 4000000000000000)) :
    Calls Try.prog 8 #[.int .i64 t1, .int .i64 t2, .int .i64 t3, .int .i64 t4] w fun e w' => e = .returned (.tuple #[.int .i64 0, .int .i64 0, .bool false]) ∧ w = w' := by
  have hy : allB t1 t2 t3 t4 = false := by unfold allB; rw [stampB_no h]; rfl
  have := exchange_any t1 t2 t3 t4 w
  unfold exO exD at this
  rw [hy] at this
  exact this

set_option maxHeartbeats 1600000 in
theorem pairShift_walk (a0 : Int) (w0 : (Lit.int .i64 a0).wf = true) (a1 : Int) (w1 : (Lit.int .i64 a1).wf = true) (a2 : Int) (w2 : (Lit.int .i64 a2).wf = true) (a3 : Int) (w3 : (Lit.int .i64 a3).wf = true) (w : World) :
    Calls Try.prog 6 #[.int .i64 a0, .int .i64 a1, .int .i64 a2, .int .i64 a3] w fun e w' => e = .returned (.bool true) ∧ Below w.heap.size w w' := by
  clear w0 w1 w2 w3
  go_enter Try.func6, Try.ntmps6
  go_wp2_with fail
  refine (place_in _ _ _ (by decide) (by decide)).mono ?_
  rintro e w' ⟨s, rfl, hs0, hs1, _, rfl⟩
  go_wp2_with fail
  refine (place_in _ _ _ (by decide) (by decide)).mono ?_
  rintro e w' ⟨o, rfl, ho0, ho1, _, rfl⟩
  go_wp2_with fail
  refine (place_in _ _ _ (by decide) (by decide)).mono ?_
  rintro e w' ⟨d, rfl, hd0, hd1, _, rfl⟩
  go_wp2_with fail
  refine (place_in _ _ _ (by decide) (by decide)).mono ?_
  rintro e w' ⟨x, rfl, hx0, hx1, _, rfl⟩
  go_wp2_with fail
  refine (exchange_of o d _ (by omega) (by omega) (by omega) (by omega) (by omega) (by omega)).mono ?_
  rintro e w' ⟨rfl, rfl⟩
  go_wp2_with fail
  refine (exchange_of (o + x) d _ (by omega) (by omega) (by omega) (by omega) (by omega) (by omega)).mono ?_
  rintro e w' ⟨rfl, rfl⟩
  go_wp2_with fail
  refine (awake03_any _).mono ?_
  rintro e w' ⟨rfl, rfl⟩
  go_wp2_with fail
  go_ret
  exact ⟨rfl, Below.refl _ _⟩

set_option maxHeartbeats 1600000 in
theorem pairEven_walk (a0 : Int) (w0 : (Lit.int .i64 a0).wf = true) (a1 : Int) (w1 : (Lit.int .i64 a1).wf = true) (a2 : Int) (w2 : (Lit.int .i64 a2).wf = true) (w : World) :
    Calls Try.prog 7 #[.int .i64 a0, .int .i64 a1, .int .i64 a2] w fun e w' => e = .returned (.bool true) ∧ Below w.heap.size w w' := by
  clear w0 w1 w2
  go_enter Try.func7, Try.ntmps7
  go_wp2_with fail
  refine (place_in _ _ _ (by decide) (by decide)).mono ?_
  rintro e w' ⟨s, rfl, hs0, hs1, _, rfl⟩
  go_wp2_with fail
  refine (place_in _ _ _ (by decide) (by decide)).mono ?_
  rintro e w' ⟨d, rfl, hd0, hd1, _, rfl⟩
  go_wp2_with fail
  refine (place_in _ _ _ (by decide) (by decide)).mono ?_
  rintro e w' ⟨x, rfl, hx0, hx1, _, rfl⟩
  go_wp2_with fail
  refine (exchange_of 0 d _ (by omega) (by omega) (by omega) (by omega) (by omega) (by omega)).mono ?_
  rintro e w' ⟨rfl, rfl⟩
  go_wp2_with fail
  refine (exchange_no _ (by omega)).mono ?_
  rintro e w' ⟨rfl, rfl⟩
  go_wp2_with fail
  refine (awake03_any _).mono ?_
  rintro e w' ⟨rfl, rfl⟩
  go_wp2_with fail
  go_ret
  exact ⟨rfl, Below.refl _ _⟩

theorem i2_mul {n : Int} (h : n.natAbs < 4503599627370496) : FloatKind.f64.format.mul 4611686018427387904 (floatOfInt .f64 n) = some (floatOfInt .f64 (2 * n)) := by
  rw [← fl_two]
  exact fl_mul (by decide) (by omega) (by omega) (by omega)

theorem run_fmul {a b c : Nat} (t : TypeId) (h : FloatKind.f64.format.mul a b = some c) (w : World) : (binOp .mul t (.float .f64 a) (.float .f64 b)).run Try.prog w = .ok (.float .f64 c) w :=
  run_float_arith w .mul t .f64 a b c h

theorem run_fsub {a b c : Nat} (t : TypeId) (h : FloatKind.f64.format.sub a b = some c) (w : World) : (binOp .sub t (.float .f64 a) (.float .f64 b)).run Try.prog w = .ok (.float .f64 c) w :=
  run_float_arith w .sub t .f64 a b c h

set_option maxHeartbeats 1600000 in
theorem pairTurns_walk (a0 : Int) (w0 : (Lit.int .i64 a0).wf = true) (a1 : Int) (w1 : (Lit.int .i64 a1).wf = true) (w : World) :
    Calls Try.prog 4 #[.int .i64 a0, .int .i64 a1] w fun e w' => e = .returned (.bool true) ∧ Below w.heap.size w w' := by
  clear w0 w1
  go_enter Try.func4, Try.ntmps4
  go_wp2_with fail
  refine (place_in _ _ _ (by decide) (by decide)).mono ?_
  rintro e w' ⟨x', rfl, hx0, hx1, _, rfl⟩
  go_wp2_with fail
  refine (place_in _ _ _ (by decide) (by decide)).mono ?_
  rintro e w' ⟨y', rfl, hy0, hy1, _, rfl⟩
  go_wp2_with fail
  obtain ⟨x, hx⟩ : ∃ x, x = x' - 549755813888 := ⟨_, rfl⟩
  obtain ⟨y, hy⟩ : ∃ y, y = y' - 549755813888 := ⟨_, rfl⟩
  have bx0 : -549755813888 ≤ x := by omega
  have bx1 : x < 549755813888 := by omega
  have by0 : -549755813888 ≤ y := by omega
  have by1 : y < 549755813888 := by omega
  have px := hid (show partB x = true from partB_iff.2 (by omega))
  have py := hid (show partB y = true from partB_iff.2 (by omega))
  have pt := hid (show partB (x - y) = true from partB_iff.2 (by omega))
  have pu := hid (show partB (x + y) = true from partB_iff.2 (by omega))
  have m1 := run_fmul 33 (i2_mul (n := (x - y) / 2) (by omega))
  have m2 := run_fmul 33 (i2_mul (n := (x + y) / 2) (by omega))
  have o1 := ord_eq (a := x - y - (x + y)) (b := -2 * y) (by omega) (by omega) (by omega)
  have o2 := ord_eq (a := x - y + (x + y)) (b := 2 * x) (by omega) (by omega) (by omega)
  have o3 : FloatKind.f64.format.order 0 0 = some .eq := by rw [← fl_zero]; exact ord_eq (by decide) (by decide) rfl
  have o4 : FloatKind.f64.format.order 4607182418800017408 0 = some .gt := by rw [← fl_zero, ← fl_one]; exact ord_gt (by decide) (by decide) (by decide)
  have o5 : FloatKind.f64.format.order 4607182418800017408 4607182418800017408 = some .eq := by rw [← fl_one]; exact ord_eq (by decide) (by decide) rfl
  have s1 := run_fsub 33 (fl_sub (a := x - y) (b := 2 * ((x - y) / 2)) (by omega) (by omega) (by omega))
  have s2 := run_fsub 33 (fl_sub (a := x + y) (b := 2 * ((x + y) / 2)) (by omega) (by omega) (by omega))
  have hr : (x - y - 2 * ((x - y) / 2) = 0 ∧ x + y - 2 * ((x + y) / 2) = 0) ∨ (x - y - 2 * ((x - y) / 2) = 1 ∧ x + y - 2 * ((x + y) / 2) = 1) := by omega
  rw [← hx, ← hy]
  clear hx hy hx0 hx1 hy0 hy1
  rcases hr with ⟨r1, r2⟩ | ⟨r1, r2⟩
  all_goals
    rw [r1] at s1
    rw [r2] at s2
    first | rw [fl_zero] at s1 s2 | rw [fl_one] at s1 s2
    clear r1 r2
    refine (of_yes _ _ _ px.out py.out).mono ?_
    rintro e w' ⟨rfl, rfl⟩
    go_wp2_with fail
    refine (turned_yes _ _ _ px.out py.out).mono ?_
    rintro e w' ⟨rfl, rfl⟩
    go_wp2_with fail
    refine (turned_yes _ _ _ pt.out pu.out).mono ?_
    rintro e w' ⟨rfl, rfl⟩
    go_wp2_with fail
    refine (offset_yes _ _ _ px.out py.out).mono ?_
    rintro e w' ⟨rfl, rfl⟩
    go_wp2_with fail
    refine (delay_yes _ _ _ px.out py.out).mono ?_
    rintro e w' ⟨rfl, rfl⟩
    go_wp2_with fail
    refine (awake03_any _).mono ?_
    rintro e w' ⟨rfl, rfl⟩
    go_wp2_with fail
    go_ret
    exact ⟨rfl, Below.refl _ _⟩
end Go.Proofs.Ytcnhgcnfekldlaa
