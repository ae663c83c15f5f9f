/- The walk of the law PairSames. -/
import Derived.Test.YtcnhgcnfekldlaaPairMean
import Derived.Test.YtcnhgcnfekldlaaPlace
import Derived.Deep.DeepCutAuto
namespace Go.Proofs.Ytcnhgcnfekldlaa
open Go.RowKit Go.Proofs
set_option linter.unusedVariables false
set_option linter.unusedSimpArgs false

theorem run_min_fl {P : Program} {a b : Int} (ha : a.natAbs < 9007199254740992) (hb : b.natAbs < 9007199254740992) (ts : Array TypeId) (t : TypeId) (w : World) :
    (Builtin.min_ ts t #[.float .f64 (floatOfInt .f64 a), .float .f64 (floatOfInt .f64 b)]).run P w = .ok (.float .f64 (floatOfInt .f64 (min a b))) w := by
  simp only [Builtin.min_, Builtin.min2, List.foldlM]
  rcases Int.lt_trichotomy a b with h | h | h
  · rw [ord_lt ha hb h, show min a b = a by omega]; rfl
  · rw [ord_eq ha hb h]; subst h; rw [show min a a = a by omega]; simp
  · rw [ord_gt ha hb h, show min a b = b by omega]; rfl

theorem run_max_fl {P : Program} {a b : Int} (ha : a.natAbs < 9007199254740992) (hb : b.natAbs < 9007199254740992) (ts : Array TypeId) (t : TypeId) (w : World) :
    (Builtin.max_ ts t #[.float .f64 (floatOfInt .f64 a), .float .f64 (floatOfInt .f64 b)]).run P w = .ok (.float .f64 (floatOfInt .f64 (max a b))) w := by
  simp only [Builtin.max_, Builtin.max2, List.foldlM]
  rcases Int.lt_trichotomy a b with h | h | h
  · rw [ord_lt ha hb h, show max a b = b by omega]; rfl
  · rw [ord_eq ha hb h]; subst h; rw [show max a a = a by omega]; simp
  · rw [ord_gt ha hb h, show max a b = a by omega]; rfl

theorem ord_le {a b : Int} (ha : a.natAbs < 9007199254740992) (hb : b.natAbs < 9007199254740992) (h : a ≤ b) :
    (FloatKind.f64.format.order (floatOfInt .f64 a) (floatOfInt .f64 b) == some .lt || FloatKind.f64.format.order (floatOfInt .f64 a) (floatOfInt .f64 b) == some .eq) = true := by
  rcases Int.lt_or_eq_of_le h with h | h
  · rw [ord_lt ha hb h]; rfl
  · rw [ord_eq ha hb h]; rfl

theorem ord_ge {a b : Int} (ha : a.natAbs < 9007199254740992) (hb : b.natAbs < 9007199254740992) (h : b ≤ a) :
    (FloatKind.f64.format.order (floatOfInt .f64 a) (floatOfInt .f64 b) == some .gt || FloatKind.f64.format.order (floatOfInt .f64 a) (floatOfInt .f64 b) == some .eq) = true := by
  rcases Int.lt_or_eq_of_le h with h | h
  · rw [ord_gt ha hb h]; rfl
  · rw [ord_eq ha hb h.symm]; rfl

set_option maxHeartbeats 400000 in
theorem between_yes (v s t : Int) (w : World) (hv : v.natAbs < 1000000000) (hs : s.natAbs < 1000000000) (ht : t.natAbs < 1000000000) (h0 : min s t ≤ v) (h1 : v ≤ max s t) :
    Calls Try.prog 18 #[.float .f64 (floatOfInt .f64 v), .float .f64 (floatOfInt .f64 s), .float .f64 (floatOfInt .f64 t)] w fun e w' => e = .returned (.bool true) ∧ w = w' := by
  have hmin := fun ts t' w => run_min_fl (P := Try.prog) (a := s) (b := t) (by omega) (by omega) ts t' w
  have hmax := fun ts t' w => run_max_fl (P := Try.prog) (a := s) (b := t) (by omega) (by omega) ts t' w
  have o1 := ord_ge (a := v) (b := min s t) (by omega) (by omega) h0
  have o2 := ord_le (a := v) (b := max s t) (by omega) (by omega) h1
  generalize min s t = lo at *
  generalize max s t = hi at *
  have R1 := hid o1
  have R2 := hid o2
  rw [Bool.or_eq_true, beq_iff_eq, beq_iff_eq] at o1
  clear o2 h0 h1 hv hs ht
  go_enter Try.func18, Try.ntmps18
  go_wp2_with fail
  go_ret
  exact ⟨ret_bool (by rw [R1.out, R2.out]; rfl), rfl⟩

set_option maxHeartbeats 400000 in
theorem sames1_any (v : Int) (w : World) :
    Calls Try.prog 16 #[.int .i64 v] w fun e w' => ∃ y, e = .returned (.int .i64 y) ∧ -1000000 ≤ y ∧ y ≤ 1000000 ∧ w = w' := by
  go_enter Try.func16, Try.ntmps16
  go_wp2_with fail
  refine (place_in _ _ _ (by decide) (by decide)).mono ?_
  rintro e w' ⟨x, rfl, hx0, hx1, _, rfl⟩
  go_wp2_with fail
  go_ret
  exact ⟨_, rfl, by omega, by omega, rfl⟩

abbrev cx (a b : Int) : Value := .complex .f64 (floatOfInt .f64 a) (floatOfInt .f64 b)

theorem mean_same (v : Value) (a b : Int) (n : Nat) (w : World) (hR : RowOf w v (List.replicate n (cx a b))) (ha : partB a = true) (hb : partB b = true) (h1 : 1 ≤ n) (h2 : n ≤ 1000) :
    Calls Try.prog 17 #[v] w fun e w' => e = .returned (.tuple #[cx a b, .bool true]) ∧ w = w' := by
  have hs : ∀ (f : Int × Int → Int), ((List.replicate n (a, b)).map f).sum / (n : Int) = f (a, b) := fun f => by
    rw [List.map_replicate]
    have : ∀ k : Nat, (List.replicate k (f (a, b))).sum = (k : Int) * f (a, b) := fun k => by
      induction k with
      | zero => simp
      | succ k ih => rw [List.replicate_succ, List.sum_cons, ih, Int.natCast_succ, Int.add_mul]; omega
    rw [this, Int.mul_ediv_cancel_left _ (by omega)]
  have h := mean_yes v (List.replicate n (a, b)) w (by rw [List.map_replicate]; exact hR) (by intro z hz; rw [List.mem_replicate] at hz; rw [hz.2]; exact ⟨ha, hb⟩) (by rw [List.length_replicate]; exact h1) (by rw [List.length_replicate]; exact h2)
  unfold sumA sumB at h
  rw [List.length_replicate, hs, hs] at h
  exact h

theorem mean_two (v : Value) (a b c d : Int) (w : World) (hR : RowOf w v [cx a b, cx c d]) (ha : partB a = true) (hb : partB b = true) (hc : partB c = true) (hd : partB d = true) :
    Calls Try.prog 17 #[v] w fun e w' => e = .returned (.tuple #[cx ((a + c) / 2) ((b + d) / 2), .bool true]) ∧ w = w' := by
  have h := mean_yes v [(a, b), (c, d)] w hR (by intro z hz; simp only [List.mem_cons, List.not_mem_nil, or_false] at hz; rcases hz with rfl | rfl; exact ⟨ha, hb⟩; exact ⟨hc, hd⟩) (by simp) (by simp)
  unfold sumA sumB at h
  simp only [List.map_cons, List.map_nil, List.sum_cons, List.sum_nil, List.length_cons, List.length_nil, Int.add_zero] at h
  exact h

set_option maxRecDepth 100000 in
set_option maxHeartbeats 4000000 in
theorem pairSames_walk (a0 : Int) (w0 : (Lit.int .i64 a0).wf = true) (a1 : Int) (w1 : (Lit.int .i64 a1).wf = true) (a2 : Int) (w2 : (Lit.int .i64 a2).wf = true) (a3 : Int) (w3 : (Lit.int .i64 a3).wf = true) (a4 : Int) (w4 : (Lit.int .i64 a4).wf = true) (w : World) :
    Calls Try.prog 5 #[.int .i64 a0, .int .i64 a1, .int .i64 a2, .int .i64 a3, .int .i64 a4] w fun e w' => e = .returned (.bool true) ∧ Below w.heap.size w w' := by
  clear w0 w1 w2 w3 w4
  go_enter Try.func5, Try.ntmps5
  go_wp2_with fail
  refine (sames1_any _ _).mono ?_
  rintro e w' ⟨a, rfl, ha0, ha1, rfl⟩
  go_wp2_with fail
  refine (sames1_any _ _).mono ?_
  rintro e w' ⟨b, rfl, hb0, hb1, rfl⟩
  have pa := hid (show partB a = true from partB_iff.2 (by omega))
  have pb := hid (show partB b = true from partB_iff.2 (by omega))
  go_wp2_with fail
  refine (of_yes _ _ _ pa.out pb.out).mono ?_
  rintro e w' ⟨rfl, rfl⟩
  go_wp2_with fail
  refine (sames1_any _ _).mono ?_
  rintro e w' ⟨c, rfl, hc0, hc1, rfl⟩
  go_wp2_with fail
  refine (sames1_any _ _).mono ?_
  rintro e w' ⟨d, rfl, hd0, hd1, rfl⟩
  have pc := hid (show partB c = true from partB_iff.2 (by omega))
  have pd := hid (show partB d = true from partB_iff.2 (by omega))
  go_wp2_with fail
  refine (of_yes _ _ _ pc.out pd.out).mono ?_
  rintro e w' ⟨rfl, rfl⟩
  have Hord1 := ord_eq (a := a) (b := a) (by omega) (by omega) rfl
  have Hord2 := ord_eq (a := b) (b := b) (by omega) (by omega) rfl
  go_wp2_with fail
  have m0 : 0 ≤ a4 % 30 := by omega
  have m1 : a4 % 30 < 30 := by omega
  obtain ⟨m, hm⟩ : ∃ m : Nat, (m : Int) = a4 % 30 := ⟨(a4 % 30).toNat, by omega⟩
  have hm1 : m < 30 := by omega
  have Hm := hid hm
  clear m0 m1 hm
  go_loopw [16, 17] (fun l k wr => ∃ j : Nat, j ≤ m + 1 ∧ k = .int .i64 j ∧ OwnRow 27 wr w.heap.size l (List.replicate j (cx a b)) ∧ Below w.heap.size w wr) (fun _ k _ => m + 1 - (intOf k).toNat)
  case atStart => exact ⟨0, Nat.zero_le _, rfl, OwnRow.nil _ _ _, Below.refl _ _⟩
  case round =>
    obtain ⟨j, hj, rfl, hown, hbel⟩ := hrel
    go_wp2_with fail
    refine (place_any _ _ _ (by decide) (by decide)).mono ?_
    rintro e w' ⟨rfl, rfl⟩
    rw [← Hm.out]
    by_cases hlt : j ≤ m
    · have hB := hown.below (bnew wr (.cells #[cx a b] 27))
      have hlit := (OwnRow.lit 27 wr [cx a b] (by unfold maxLen; simp)).row
      have hsz : w.heap.size ≤ (wr.alloc (.cells #[cx a b] 27)).heap.size := Nat.le_trans hbel.size (bnew wr (.cells #[cx a b] 27)).size
      go_wp2_with (at_builtin; refine wpList_append_row (o := ⟨some 54, _, _, _, _, _⟩) rfl _ _ oneC rfl rfl w.heap.size _ _ (List.replicate j (cx a b)) [cx a b] rfl rfl hB hlit ?_ ?_ ?_ hsz ?_; (intro u hu; rw [List.mem_singleton] at hu; subst hu; rfl); (rw [List.length_replicate]; unfold maxLen; simp; omega); (rw [List.length_replicate]; simp; omega); intro l' w2 hown2 hbel2)
      go_roundw
      case rel => exact ⟨j + 1, by omega, by go_num, by rw [List.replicate_succ']; exact hown2, hbel.trans (((bnew wr _).mono hbel.size).trans hbel2)⟩
      case measure => simp [intOf]; omega
    · obtain rfl : j = m + 1 := by omega
      go_wp2_with fail
      refine (mean_same _ _ _ _ _ hown.row pa.out pb.out (by omega) (by omega)).mono ?_
      rintro e w' ⟨rfl, rfl⟩
      go_wp2_with fail
      refine (mean_two _ _ _ _ _ _ (OwnRow.lit 27 wr [cx a b, cx c d] (by unfold maxLen; simp)).row pa.out pb.out pc.out pd.out).mono ?_
      rintro e w' ⟨rfl, rfl⟩
      go_wp2_with fail
      refine (mean_none _).mono ?_
      rintro e w' ⟨rfl, rfl⟩
      go_wp2_with fail
      refine (between_yes _ _ _ _ (by omega) (by omega) (by omega) (by omega) (by omega)).mono ?_
      rintro e w' ⟨rfl, rfl⟩
      go_wp2_with fail
      refine (between_yes _ _ _ _ (by omega) (by omega) (by omega) (by omega) (by omega)).mono ?_
      rintro e w' ⟨rfl, rfl⟩
      go_wp2_with fail
      refine (awake03_any _).mono ?_
      rintro e w' ⟨rfl, rfl⟩
      go_wp2_with fail
      go_ret
      exact ⟨rfl, bnext hbel (bnew wr _)⟩
end Go.Proofs.Ytcnhgcnfekldlaa
