/- Package pair: the contracts of its calls on whole numbers. -/
import Derived.Test.YtcnhgcnfekldlaaBase
import Derived.Laws.Externs
import Derived.OwnWalk
import Derived.Test.YtcnhgcnfekldlaaFloat
namespace Go.Proofs.Ytcnhgcnfekldlaa
open Go.RowKit Go.Proofs
set_option linter.unusedVariables false

/-- May a number be a part of a pair? -/
def partB (n : Int) : Bool := decide (-4000000000000000 ≤ n ∧ n ≤ 4000000000000000)

theorem partB_iff {n : Int} : partB n = true ↔ -4000000000000000 ≤ n ∧ n ≤ 4000000000000000 := by unfold partB; simp
theorem partB_no {n : Int} (h : ¬ (-4000000000000000 ≤ n ∧ n ≤ 4000000000000000)) : partB n = false := by unfold partB; simpa using h

/-- Is a time a stamp? -/
def stampB (n : Int) : Bool := decide (0 ≤ n ∧ n ≤ 4000000000000000)

theorem stampB_iff {n : Int} : stampB n = true ↔ 0 ≤ n ∧ n ≤ 4000000000000000 := by unfold stampB; simp
theorem stampB_no {n : Int} (h : ¬ (0 ≤ n ∧ n ≤ 4000000000000000)) : stampB n = false := by unfold stampB; simpa using h

theorem ord_lt {a b : Int} (ha : a.natAbs < 9007199254740992) (hb : b.natAbs < 9007199254740992) (h : a < b) : FloatKind.f64.format.order (floatOfInt .f64 a) (floatOfInt .f64 b) = some .lt := by
  rw [fl_order ha hb]
  show some (compareOfLessAndEq a b) = _
  unfold compareOfLessAndEq
  rw [if_pos h]

theorem ord_eq {a b : Int} (ha : a.natAbs < 9007199254740992) (hb : b.natAbs < 9007199254740992) (h : a = b) : FloatKind.f64.format.order (floatOfInt .f64 a) (floatOfInt .f64 b) = some .eq := by
  rw [fl_order ha hb]
  show some (compareOfLessAndEq a b) = _
  unfold compareOfLessAndEq
  rw [if_neg (by omega), if_pos h]

theorem ord_gt {a b : Int} (ha : a.natAbs < 9007199254740992) (hb : b.natAbs < 9007199254740992) (h : b < a) : FloatKind.f64.format.order (floatOfInt .f64 a) (floatOfInt .f64 b) = some .gt := by
  rw [fl_order ha hb]
  show some (compareOfLessAndEq a b) = _
  unfold compareOfLessAndEq
  rw [if_neg (by omega), if_neg (by omega)]

/-- A whole float as an int. -/
theorem conv_int {n : Int} (h : n.natAbs < 9007199254740992) (w : World) : (convert 33 3 (.float .f64 (floatOfInt .f64 n))).run Try.prog w = .ok (.int .i64 n) w :=
  run_convert_float_int w 33 3 .f64 .i64 _ n (by kernel_rfl) (by kernel_rfl) (fl_toInt h)

/-- A float's bits. -/
@[go_sem] theorem bits_call (b : Nat) (w : World) : (callFunc 29 #[.float .f64 b]).run Try.prog w = .ok (.value (.int .u64 b)) w := by
  rw [run_callFunc_extern Try.func29 (e := Extern.MathFloatBits.float64bits) (by kernel_rfl) (by kernel_rfl) (by kernel_rfl) (by kernel_rfl)]
  rfl

set_option maxHeartbeats 400000 in
theorem mayStamp_any (t : Int) (w : World) :
    Calls Try.prog 19 #[.int .i64 t] w fun e w' => e = .returned (.bool (stampB t)) ∧ w = w' := by
  by_cases h0 : 0 ≤ t
  · by_cases h1 : t ≤ 4000000000000000
    · go_enter Try.func19, Try.ntmps19
      go_wp2
      go_ret
      exact ⟨ret_bool (stampB_iff.2 ⟨h0, h1⟩).symm, rfl⟩
    · go_enter Try.func19, Try.ntmps19
      go_wp2
      go_ret
      exact ⟨ret_bool (stampB_no (by omega)).symm, rfl⟩
  · go_enter Try.func19, Try.ntmps19
    go_wp2
    go_ret
    exact ⟨ret_bool (stampB_no (by omega)).symm, rfl⟩

set_option maxHeartbeats 400000 in
theorem mayPart_any (t : Int) (w : World) :
    Calls Try.prog 23 #[.int .i64 t] w fun e w' => e = .returned (.bool (partB t)) ∧ w = w' := by
  by_cases h0 : -4000000000000000 ≤ t
  · by_cases h1 : t ≤ 4000000000000000
    · go_enter Try.func23, Try.ntmps23
      go_wp2
      go_ret
      exact ⟨ret_bool (partB_iff.2 ⟨h0, h1⟩).symm, rfl⟩
    · go_enter Try.func23, Try.ntmps23
      go_wp2
      go_ret
      exact ⟨ret_bool (partB_no (by omega)).symm, rfl⟩
  · go_enter Try.func23, Try.ntmps23
    go_wp2
    go_ret
    exact ⟨ret_bool (partB_no (by omega)).symm, rfl⟩

set_option maxHeartbeats 400000 in
theorem half_any (n : Int) (w : World) (h : n.natAbs < 9007199254740992) :
    Calls Try.prog 25 #[.float .f64 (floatOfInt .f64 n)] w fun e w' => e = .returned (.int .i64 (n / 2)) ∧ w = w' := by
  have hc := conv_int h
  go_enter Try.func25, Try.ntmps25
  go_wp2
  go_ret
  exact ⟨ret_int (by omega), rfl⟩

set_option maxHeartbeats 400000 in
theorem part_yes (n : Int) (w : World) (h : partB n = true) :
    Calls Try.prog 28 #[.float .f64 (floatOfInt .f64 n)] w fun e w' => e = .returned (.tuple #[.int .i64 n, .bool true]) ∧ w = w' := by
  obtain ⟨h0, h1⟩ := partB_iff.1 h
  have hn : n.natAbs < 9007199254740992 := by omega
  have hc := conv_int hn
  have Hn := hid hn
  clear h hn
  rcases Int.lt_or_eq_of_le h0 with h2 | h2
  · have o1 := ord_lt (by decide) Hn.out h2
    rw [fl_min] at o1
    rcases Int.lt_or_eq_of_le h1 with h3 | h3
    · have o2 := ord_lt Hn.out (by decide) h3
      rw [fl_max] at o2
      clear h0 h1 h2 h3
      go_enter Try.func28, Try.ntmps28
      go_wp2
      go_ret2
      exact ⟨rfl, rfl⟩
    · have o2 := ord_eq Hn.out (by decide) h3
      rw [fl_max] at o2
      clear h0 h1 h2 h3
      go_enter Try.func28, Try.ntmps28
      go_wp2
      go_ret2
      exact ⟨rfl, rfl⟩
  · have o1 := ord_eq (by decide) Hn.out h2
    rw [fl_min] at o1
    have o2 := ord_lt Hn.out (by decide) (show n < 4000000000000000 by omega)
    rw [fl_max] at o2
    clear h0 h1 h2
    go_enter Try.func28, Try.ntmps28
    go_wp2
    go_ret2
    exact ⟨rfl, rfl⟩

set_option maxHeartbeats 400000 in
theorem of_yes (a b : Int) (w : World) (ha : partB a = true) (hb : partB b = true) :
    Calls Try.prog 12 #[.int .i64 a, .int .i64 b] w fun e w' => e = .returned (.tuple #[.complex .f64 (floatOfInt .f64 a) (floatOfInt .f64 b), .bool true]) ∧ w = w' := by
  have Ha := hid ha
  have Hb := hid hb
  clear ha hb
  go_enter Try.func12, Try.ntmps12
  go_wp2_with fail
  refine (mayPart_any _ _).mono ?_
  rintro e w' ⟨rfl, rfl⟩
  rw [Ha.out]
  go_wp2_with fail
  refine (mayPart_any _ _).mono ?_
  rintro e w' ⟨rfl, rfl⟩
  rw [Hb.out]
  go_wp2_with fail
  go_ret2
  exact ⟨rfl, rfl⟩

set_option maxHeartbeats 400000 in
theorem parts_yes (a b : Int) (w : World) (ha : partB a = true) (hb : partB b = true) :
    Calls Try.prog 24 #[.complex .f64 (floatOfInt .f64 a) (floatOfInt .f64 b)] w fun e w' => e = .returned (.tuple #[.int .i64 a, .int .i64 b, .bool true]) ∧ w = w' := by
  have Ha := hid ha
  have Hb := hid hb
  clear ha hb
  go_enter Try.func24, Try.ntmps24
  go_wp2_with fail
  refine (part_yes _ _ Ha.out).mono ?_
  rintro e w' ⟨rfl, rfl⟩
  go_wp2_with fail
  refine (part_yes _ _ Hb.out).mono ?_
  rintro e w' ⟨rfl, rfl⟩
  go_wp2_with fail
  go_ret3
  exact ⟨rfl, rfl⟩

/-- A pair times 1 + i. -/
theorem turn_mul {a b : Int} (ha : partB a = true) (hb : partB b = true) :
    cMulBits (floatOfInt .f64 a) (floatOfInt .f64 b) 4607182418800017408 4607182418800017408 = some (floatOfInt .f64 (a - b), floatOfInt .f64 (a + b)) := by
  obtain ⟨h0, h1⟩ := partB_iff.1 ha
  obtain ⟨h2, h3⟩ := partB_iff.1 hb
  have ma : FloatKind.f64.format.mul (floatOfInt .f64 a) (floatOfInt .f64 1) = some (floatOfInt .f64 a) := by
    have := fl_mul (a := a) (b := 1) (by omega) (by decide) (by omega) (by omega)
    rwa [Int.mul_one] at this
  have mb : FloatKind.f64.format.mul (floatOfInt .f64 b) (floatOfInt .f64 1) = some (floatOfInt .f64 b) := by
    have := fl_mul (a := b) (b := 1) (by omega) (by decide) (by omega) (by omega)
    rwa [Int.mul_one] at this
  have hs := fl_sub (a := a) (b := b) (by omega) (by omega) (by omega)
  have hp := fl_add (a := a) (b := b) (by omega) (by omega) (by omega)
  rw [← fl_one]
  unfold cMulBits floatBits
  simp only [ma, mb, hs, hp, Option.bind_some]

set_option maxHeartbeats 400000 in
theorem turned_yes (a b : Int) (w : World) (ha : partB a = true) (hb : partB b = true) :
    Calls Try.prog 13 #[.complex .f64 (floatOfInt .f64 a) (floatOfInt .f64 b)] w fun e w' => e = .returned (.tuple #[.complex .f64 (floatOfInt .f64 (a - b)) (floatOfInt .f64 (a + b)), .bool true]) ∧ w = w' := by
  have hm : ∀ w : World, (binOp .mul 27 (.complex .f64 (floatOfInt .f64 a) (floatOfInt .f64 b)) (.complex .f64 4607182418800017408 4607182418800017408)).run Try.prog w = .ok (.complex .f64 (floatOfInt .f64 (a - b)) (floatOfInt .f64 (a + b))) w :=
    fun w => run_complex_mul w _ _ _ _ _ _ _ (turn_mul ha hb)
  have Ha := hid ha
  have Hb := hid hb
  clear ha hb
  go_enter Try.func13, Try.ntmps13
  go_wp2_with fail
  refine (parts_yes _ _ _ Ha.out Hb.out).mono ?_
  rintro e w' ⟨rfl, rfl⟩
  go_wp2_with fail
  go_ret2
  exact ⟨rfl, rfl⟩

set_option maxHeartbeats 400000 in
theorem offset_yes (a b : Int) (w : World) (ha : partB a = true) (hb : partB b = true) :
    Calls Try.prog 14 #[.complex .f64 (floatOfInt .f64 a) (floatOfInt .f64 b)] w fun e w' => e = .returned (.tuple #[.int .i64 ((a - b) / 2), .bool true]) ∧ w = w' := by
  have hd : (a - b).natAbs < 9007199254740992 := by
    obtain ⟨h0, h1⟩ := partB_iff.1 ha
    obtain ⟨h2, h3⟩ := partB_iff.1 hb
    omega
  have Ha := hid ha
  have Hb := hid hb
  have Hd := hid hd
  clear ha hb hd
  go_enter Try.func14, Try.ntmps14
  go_wp2_with fail
  refine (turned_yes _ _ _ Ha.out Hb.out).mono ?_
  rintro e w' ⟨rfl, rfl⟩
  go_wp2_with fail
  refine (half_any _ _ Hd.out).mono ?_
  rintro e w' ⟨rfl, rfl⟩
  go_wp2_with fail
  go_ret2
  exact ⟨rfl, rfl⟩

set_option maxHeartbeats 400000 in
theorem delay_yes (a b : Int) (w : World) (ha : partB a = true) (hb : partB b = true) :
    Calls Try.prog 15 #[.complex .f64 (floatOfInt .f64 a) (floatOfInt .f64 b)] w fun e w' => e = .returned (.tuple #[.int .i64 ((a + b) / 2), .bool true]) ∧ w = w' := by
  have hd : (a + b).natAbs < 9007199254740992 := by
    obtain ⟨h0, h1⟩ := partB_iff.1 ha
    obtain ⟨h2, h3⟩ := partB_iff.1 hb
    omega
  have Ha := hid ha
  have Hb := hid hb
  have Hd := hid hd
  clear ha hb hd
  go_enter Try.func15, Try.ntmps15
  go_wp2_with fail
  refine (turned_yes _ _ _ Ha.out Hb.out).mono ?_
  rintro e w' ⟨rfl, rfl⟩
  go_wp2_with fail
  refine (half_any _ _ Hd.out).mono ?_
  rintro e w' ⟨rfl, rfl⟩
  go_wp2_with fail
  go_ret2
  exact ⟨rfl, rfl⟩

/-- Are four times stamps? -/
def allB (t1 t2 t3 t4 : Int) : Bool := stampB t1 && stampB t2 && stampB t3 && stampB t4

/-- Offset and delay of four times; nought where they are no stamps. -/
def exO (t1 t2 t3 t4 : Int) : Int := if allB t1 t2 t3 t4 then (t2 - t1 - (t4 - t3)) / 2 else 0
def exD (t1 t2 t3 t4 : Int) : Int := if allB t1 t2 t3 t4 then (t2 - t1 + (t4 - t3)) / 2 else 0

theorem allB_iff {t1 t2 t3 t4 : Int} : allB t1 t2 t3 t4 = true ↔ (0 ≤ t1 ∧ t1 ≤ 4000000000000000) ∧ (0 ≤ t2 ∧ t2 ≤ 4000000000000000) ∧ (0 ≤ t3 ∧ t3 ≤ 4000000000000000) ∧ (0 ≤ t4 ∧ t4 ≤ 4000000000000000) := by
  unfold allB
  rw [Bool.and_eq_true, Bool.and_eq_true, Bool.and_eq_true, stampB_iff, stampB_iff, stampB_iff, stampB_iff, and_assoc, and_assoc]

theorem ret_ex {a b c d : Int} {x y : Bool} (h : a = c) (h' : b = d) (h'' : x = y) : Ending.returned (.tuple #[.int .i64 a, .int .i64 b, .bool x]) = .returned (.tuple #[.int .i64 c, .int .i64 d, .bool y]) := by rw [h, h', h'']

theorem sub_wrap {a b : Int} (ha : 0 ≤ a ∧ a ≤ 4000000000000000) (hb : 0 ≤ b ∧ b ≤ 4000000000000000) : partB (a - b) = true := partB_iff.2 (by omega)

set_option maxHeartbeats 1600000 in
theorem exchange_any (t1 t2 t3 t4 : Int) (w : World) :
    Calls Try.prog 8 #[.int .i64 t1, .int .i64 t2, .int .i64 t3, .int .i64 t4] w fun e w' => e = .returned (.tuple #[.int .i64 (exO t1 t2 t3 t4), .int .i64 (exD t1 t2 t3 t4), .bool (allB t1 t2 t3 t4)]) ∧ w = w' := by
  cases h1 : stampB t1
  · have hno : allB t1 t2 t3 t4 = false := by unfold allB; rw [h1]; rfl
    have HO : exO t1 t2 t3 t4 = 0 := by unfold exO; rw [hno]; rfl
    have HD : exD t1 t2 t3 t4 = 0 := by unfold exD; rw [hno]; rfl
    rw [HO, HD, hno]
    have H1 := hid h1
    clear h1 hno HO HD
    go_enter Try.func8, Try.ntmps8
    go_wp2_with fail
    refine (mayStamp_any _ _).mono ?_
    rintro e w' ⟨rfl, rfl⟩
    rw [H1.out]
    go_wp2_with fail
    go_ret3
    exact ⟨rfl, rfl⟩
  cases h2 : stampB t2
  · have hno : allB t1 t2 t3 t4 = false := by unfold allB; rw [h1, h2]; rfl
    have HO : exO t1 t2 t3 t4 = 0 := by unfold exO; rw [hno]; rfl
    have HD : exD t1 t2 t3 t4 = 0 := by unfold exD; rw [hno]; rfl
    rw [HO, HD, hno]
    have H1 := hid h1
    have H2 := hid h2
    clear h1 h2 hno HO HD
    go_enter Try.func8, Try.ntmps8
    go_wp2_with fail
    refine (mayStamp_any _ _).mono ?_
    rintro e w' ⟨rfl, rfl⟩
    rw [H1.out]
    go_wp2_with fail
    refine (mayStamp_any _ _).mono ?_
    rintro e w' ⟨rfl, rfl⟩
    rw [H2.out]
    go_wp2_with fail
    go_ret3
    exact ⟨rfl, rfl⟩
  cases h3 : stampB t3
  · have hno : allB t1 t2 t3 t4 = false := by unfold allB; rw [h1, h2, h3]; rfl
    have HO : exO t1 t2 t3 t4 = 0 := by unfold exO; rw [hno]; rfl
    have HD : exD t1 t2 t3 t4 = 0 := by unfold exD; rw [hno]; rfl
    rw [HO, HD, hno]
    have H1 := hid h1
    have H2 := hid h2
    have H3 := hid h3
    clear h1 h2 h3 hno HO HD
    go_enter Try.func8, Try.ntmps8
    go_wp2_with fail
    refine (mayStamp_any _ _).mono ?_
    rintro e w' ⟨rfl, rfl⟩
    rw [H1.out]
    go_wp2_with fail
    refine (mayStamp_any _ _).mono ?_
    rintro e w' ⟨rfl, rfl⟩
    rw [H2.out]
    go_wp2_with fail
    refine (mayStamp_any _ _).mono ?_
    rintro e w' ⟨rfl, rfl⟩
    rw [H3.out]
    go_wp2_with fail
    go_ret3
    exact ⟨rfl, rfl⟩
  cases h4 : stampB t4
  · have hno : allB t1 t2 t3 t4 = false := by unfold allB; rw [h1, h2, h3, h4]; rfl
    have HO : exO t1 t2 t3 t4 = 0 := by unfold exO; rw [hno]; rfl
    have HD : exD t1 t2 t3 t4 = 0 := by unfold exD; rw [hno]; rfl
    rw [HO, HD, hno]
    have H1 := hid h1
    have H2 := hid h2
    have H3 := hid h3
    have H4 := hid h4
    clear h1 h2 h3 h4 hno HO HD
    go_enter Try.func8, Try.ntmps8
    go_wp2_with fail
    refine (mayStamp_any _ _).mono ?_
    rintro e w' ⟨rfl, rfl⟩
    rw [H1.out]
    go_wp2_with fail
    refine (mayStamp_any _ _).mono ?_
    rintro e w' ⟨rfl, rfl⟩
    rw [H2.out]
    go_wp2_with fail
    refine (mayStamp_any _ _).mono ?_
    rintro e w' ⟨rfl, rfl⟩
    rw [H3.out]
    go_wp2_with fail
    refine (mayStamp_any _ _).mono ?_
    rintro e w' ⟨rfl, rfl⟩
    rw [H4.out]
    go_wp2_with fail
    go_ret3
    exact ⟨rfl, rfl⟩
  · have hyes : allB t1 t2 t3 t4 = true := by unfold allB; rw [h1, h2, h3, h4]; rfl
    have HO : exO t1 t2 t3 t4 = (t2 - t1 - (t4 - t3)) / 2 := by unfold exO; rw [hyes]; rfl
    have HD : exD t1 t2 t3 t4 = (t2 - t1 + (t4 - t3)) / 2 := by unfold exD; rw [hyes]; rfl
    rw [HO, HD, hyes]
    have P1 := hid (sub_wrap (stampB_iff.1 h2) (stampB_iff.1 h1))
    have P2 := hid (sub_wrap (stampB_iff.1 h4) (stampB_iff.1 h3))
    obtain ⟨b10, b11⟩ := stampB_iff.1 h1
    obtain ⟨b20, b21⟩ := stampB_iff.1 h2
    obtain ⟨b30, b31⟩ := stampB_iff.1 h3
    obtain ⟨b40, b41⟩ := stampB_iff.1 h4
    have H1 := hid h1
    have H2 := hid h2
    have H3 := hid h3
    have H4 := hid h4
    clear h1 h2 h3 h4 hyes HO HD
    go_enter Try.func8, Try.ntmps8
    go_wp2_with fail
    refine (mayStamp_any _ _).mono ?_
    rintro e w' ⟨rfl, rfl⟩
    rw [H1.out]
    go_wp2_with fail
    refine (mayStamp_any _ _).mono ?_
    rintro e w' ⟨rfl, rfl⟩
    rw [H2.out]
    go_wp2_with fail
    refine (mayStamp_any _ _).mono ?_
    rintro e w' ⟨rfl, rfl⟩
    rw [H3.out]
    go_wp2_with fail
    refine (mayStamp_any _ _).mono ?_
    rintro e w' ⟨rfl, rfl⟩
    rw [H4.out]
    go_wp2_with fail
    refine (of_yes _ _ _ P1.out P2.out).mono ?_
    rintro e w' ⟨rfl, rfl⟩
    go_wp2_with fail
    refine (offset_yes _ _ _ P1.out P2.out).mono ?_
    rintro e w' ⟨rfl, rfl⟩
    go_wp2_with fail
    refine (delay_yes _ _ _ P1.out P2.out).mono ?_
    rintro e w' ⟨rfl, rfl⟩
    go_wp2_with fail
    go_ret3
    exact ⟨rfl, rfl⟩
end Go.Proofs.Ytcnhgcnfekldlaa
