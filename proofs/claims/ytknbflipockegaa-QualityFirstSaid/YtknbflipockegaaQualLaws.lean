/- The law QualityParts: seven cases; the document's example (awake). -/
import Derived.Test.YtknbflipockegaaQualb
namespace Go.Proofs.Ytknbflipockegaa
open Go.RowKit Go.Proofs
set_option linter.unusedVariables false
set_option linter.unusedSimpArgs false

set_option maxHeartbeats 400000 in
theorem best_none (w : World) :
    Calls Try.prog 18 #[.slice none 0 0] w fun e w' => e = .returned (.int .i64 (-1)) ∧ w = w' := by
  go_enter Try.func18, Try.ntmps18
  go_wp2_with fail
  go_loop [3, 8] (fun b i => b = .int .i64 (-1) ∧ i = .int .i64 0) (fun _ _ => 0)
  case atStart => exact ⟨rfl, rfl⟩
  case round =>
    obtain ⟨rfl, rfl⟩ := hrel
    go_wp2_with fail
    go_ret
    exact ⟨rfl, rfl⟩

set_option maxHeartbeats 400000 in
theorem awake05_any (w : World) :
    Calls Try.prog 15 #[] w fun e w' => e = .returned (.bool true) ∧ Below w.heap.size w w' := by
  have HX : Hid (cmpQ 6 0 0 248 0 0 = -1) := hid (by decide)
  go_enter Try.func15, Try.ntmps15
  go_wp2_with fail
  refine (compareQ_is HX _).mono ?_
  rintro e w1 ⟨rfl, hbel⟩
  go_wp2_with fail
  refine (best_none _).mono ?_
  rintro e w2 ⟨rfl, rfl⟩
  go_wp2_with fail
  go_ret
  exact ⟨rfl, hbel⟩

set_option maxHeartbeats 1600000 in
theorem parts_c_lt (c a v c' a' v' : Int) (h : c < c') (hn : ¬ c = c') (w : World) :
    Calls Try.prog 6 #[qualV c a v, qualV c' a' v'] w fun e w' => e = .returned (.bool true) ∧ Below w.heap.size w w' := by
  have HX : Hid (cmpQ c a v c' a' v' = -1) := hid ((cmpQ_c hn).trans (cmpI_lt h))
  go_enter Try.func6, Try.ntmps6
  go_wp2_with fail
  obtain ⟨W, hWe, hbw, HA, HB, HC, HD, HE, HF⟩ := qbox2 w c a v c' a' v'
  rw [← hWe]
  clear hWe
  have cA := HA.out _ (Below.refl _ _)
  have cB := HB.out _ (Below.refl _ _)
  have cC := HC.out _ (Below.refl _ _)
  have cD := HD.out _ (Below.refl _ _)
  have cE := HE.out _ (Below.refl _ _)
  have cF := HF.out _ (Below.refl _ _)
  go_wp2_with fail
  refine (compareQ_is HX _).mono ?_
  rintro e w1 ⟨rfl, hbW⟩
  replace cA := HA.out _ hbW
  replace cB := HB.out _ hbW
  replace cC := HC.out _ hbW
  replace cD := HD.out _ hbW
  replace cE := HE.out _ hbW
  replace cF := HF.out _ hbW
  go_wp2_with fail
  refine (awake05_any _).mono ?_
  rintro e w2 ⟨rfl, hbel⟩
  go_wp2_with fail
  go_ret
  exact ⟨ret_bool (by first | rfl | (simp; done) | (simp; omega)), bnext hbw (bnext hbW hbel)⟩

set_option maxHeartbeats 1600000 in
theorem parts_c_gt (c a v c' a' v' : Int) (h : c' < c) (hn : ¬ c = c') (w : World) :
    Calls Try.prog 6 #[qualV c a v, qualV c' a' v'] w fun e w' => e = .returned (.bool true) ∧ Below w.heap.size w w' := by
  have HX : Hid (cmpQ c a v c' a' v' = 1) := hid ((cmpQ_c hn).trans (cmpI_gt h))
  go_enter Try.func6, Try.ntmps6
  go_wp2_with fail
  obtain ⟨W, hWe, hbw, HA, HB, HC, HD, HE, HF⟩ := qbox2 w c a v c' a' v'
  rw [← hWe]
  clear hWe
  have cA := HA.out _ (Below.refl _ _)
  have cB := HB.out _ (Below.refl _ _)
  have cC := HC.out _ (Below.refl _ _)
  have cD := HD.out _ (Below.refl _ _)
  have cE := HE.out _ (Below.refl _ _)
  have cF := HF.out _ (Below.refl _ _)
  go_wp2_with fail
  refine (compareQ_is HX _).mono ?_
  rintro e w1 ⟨rfl, hbW⟩
  replace cA := HA.out _ hbW
  replace cB := HB.out _ hbW
  replace cC := HC.out _ hbW
  replace cD := HD.out _ hbW
  replace cE := HE.out _ hbW
  replace cF := HF.out _ hbW
  go_wp2_with fail
  refine (awake05_any _).mono ?_
  rintro e w2 ⟨rfl, hbel⟩
  go_wp2_with fail
  go_ret
  exact ⟨ret_bool (by first | rfl | (simp; done) | (simp; omega)), bnext hbw (bnext hbW hbel)⟩

set_option maxHeartbeats 1600000 in
theorem parts_a_lt (c a v a' v' : Int) (h : a < a') (hn : ¬ a = a') (w : World) :
    Calls Try.prog 6 #[qualV c a v, qualV c a' v'] w fun e w' => e = .returned (.bool true) ∧ Below w.heap.size w w' := by
  have HX : Hid (cmpQ c a v c a' v' = -1) := hid ((cmpQ_a hn).trans (cmpI_lt h))
  go_enter Try.func6, Try.ntmps6
  go_wp2_with fail
  obtain ⟨W, hWe, hbw, HA, HB, HC, HD, HE, HF⟩ := qbox2 w c a v c a' v'
  rw [← hWe]
  clear hWe
  have cA := HA.out _ (Below.refl _ _)
  have cB := HB.out _ (Below.refl _ _)
  have cC := HC.out _ (Below.refl _ _)
  have cD := HD.out _ (Below.refl _ _)
  have cE := HE.out _ (Below.refl _ _)
  have cF := HF.out _ (Below.refl _ _)
  go_wp2_with fail
  refine (compareQ_is HX _).mono ?_
  rintro e w1 ⟨rfl, hbW⟩
  replace cA := HA.out _ hbW
  replace cB := HB.out _ hbW
  replace cC := HC.out _ hbW
  replace cD := HD.out _ hbW
  replace cE := HE.out _ hbW
  replace cF := HF.out _ hbW
  go_wp2_with fail
  refine (awake05_any _).mono ?_
  rintro e w2 ⟨rfl, hbel⟩
  go_wp2_with fail
  go_ret
  exact ⟨ret_bool (by first | rfl | (simp; done) | (simp; omega)), bnext hbw (bnext hbW hbel)⟩

set_option maxHeartbeats 1600000 in
theorem parts_a_gt (c a v a' v' : Int) (h : a' < a) (hn : ¬ a = a') (w : World) :
    Calls Try.prog 6 #[qualV c a v, qualV c a' v'] w fun e w' => e = .returned (.bool true) ∧ Below w.heap.size w w' := by
  have HX : Hid (cmpQ c a v c a' v' = 1) := hid ((cmpQ_a hn).trans (cmpI_gt h))
  go_enter Try.func6, Try.ntmps6
  go_wp2_with fail
  obtain ⟨W, hWe, hbw, HA, HB, HC, HD, HE, HF⟩ := qbox2 w c a v c a' v'
  rw [← hWe]
  clear hWe
  have cA := HA.out _ (Below.refl _ _)
  have cB := HB.out _ (Below.refl _ _)
  have cC := HC.out _ (Below.refl _ _)
  have cD := HD.out _ (Below.refl _ _)
  have cE := HE.out _ (Below.refl _ _)
  have cF := HF.out _ (Below.refl _ _)
  go_wp2_with fail
  refine (compareQ_is HX _).mono ?_
  rintro e w1 ⟨rfl, hbW⟩
  replace cA := HA.out _ hbW
  replace cB := HB.out _ hbW
  replace cC := HC.out _ hbW
  replace cD := HD.out _ hbW
  replace cE := HE.out _ hbW
  replace cF := HF.out _ hbW
  go_wp2_with fail
  refine (awake05_any _).mono ?_
  rintro e w2 ⟨rfl, hbel⟩
  go_wp2_with fail
  go_ret
  exact ⟨ret_bool (by first | rfl | (simp; done) | (simp; omega)), bnext hbw (bnext hbW hbel)⟩

set_option maxHeartbeats 1600000 in
theorem parts_v_lt (c a v v' : Int) (h : v < v') (hn : ¬ v = v') (w : World) :
    Calls Try.prog 6 #[qualV c a v, qualV c a v'] w fun e w' => e = .returned (.bool true) ∧ Below w.heap.size w w' := by
  have HX : Hid (cmpQ c a v c a v' = -1) := hid (cmpQ_v.trans (cmpI_lt h))
  go_enter Try.func6, Try.ntmps6
  go_wp2_with fail
  obtain ⟨W, hWe, hbw, HA, HB, HC, HD, HE, HF⟩ := qbox2 w c a v c a v'
  rw [← hWe]
  clear hWe
  have cA := HA.out _ (Below.refl _ _)
  have cB := HB.out _ (Below.refl _ _)
  have cC := HC.out _ (Below.refl _ _)
  have cD := HD.out _ (Below.refl _ _)
  have cE := HE.out _ (Below.refl _ _)
  have cF := HF.out _ (Below.refl _ _)
  go_wp2_with fail
  refine (compareQ_is HX _).mono ?_
  rintro e w1 ⟨rfl, hbW⟩
  replace cA := HA.out _ hbW
  replace cB := HB.out _ hbW
  replace cC := HC.out _ hbW
  replace cD := HD.out _ hbW
  replace cE := HE.out _ hbW
  replace cF := HF.out _ hbW
  go_wp2_with fail
  refine (awake05_any _).mono ?_
  rintro e w2 ⟨rfl, hbel⟩
  go_wp2_with fail
  go_ret
  exact ⟨ret_bool (by first | rfl | (simp; done) | (simp; omega)), bnext hbw (bnext hbW hbel)⟩

set_option maxHeartbeats 1600000 in
theorem parts_v_gt (c a v v' : Int) (h : v' < v) (hn : ¬ v = v') (w : World) :
    Calls Try.prog 6 #[qualV c a v, qualV c a v'] w fun e w' => e = .returned (.bool true) ∧ Below w.heap.size w w' := by
  have HX : Hid (cmpQ c a v c a v' = 1) := hid (cmpQ_v.trans (cmpI_gt h))
  go_enter Try.func6, Try.ntmps6
  go_wp2_with fail
  obtain ⟨W, hWe, hbw, HA, HB, HC, HD, HE, HF⟩ := qbox2 w c a v c a v'
  rw [← hWe]
  clear hWe
  have cA := HA.out _ (Below.refl _ _)
  have cB := HB.out _ (Below.refl _ _)
  have cC := HC.out _ (Below.refl _ _)
  have cD := HD.out _ (Below.refl _ _)
  have cE := HE.out _ (Below.refl _ _)
  have cF := HF.out _ (Below.refl _ _)
  go_wp2_with fail
  refine (compareQ_is HX _).mono ?_
  rintro e w1 ⟨rfl, hbW⟩
  replace cA := HA.out _ hbW
  replace cB := HB.out _ hbW
  replace cC := HC.out _ hbW
  replace cD := HD.out _ hbW
  replace cE := HE.out _ hbW
  replace cF := HF.out _ hbW
  go_wp2_with fail
  refine (awake05_any _).mono ?_
  rintro e w2 ⟨rfl, hbel⟩
  go_wp2_with fail
  go_ret
  exact ⟨ret_bool (by first | rfl | (simp; done) | (simp; omega)), bnext hbw (bnext hbW hbel)⟩

set_option maxHeartbeats 1600000 in
theorem parts_same (c a v : Int)  (w : World) :
    Calls Try.prog 6 #[qualV c a v, qualV c a v] w fun e w' => e = .returned (.bool true) ∧ Below w.heap.size w w' := by
  have HX : Hid (cmpQ c a v c a v = 0) := hid (cmpQ_v.trans (cmpI_eq rfl))
  go_enter Try.func6, Try.ntmps6
  go_wp2_with fail
  obtain ⟨W, hWe, hbw, HA, HB, HC, HD, HE, HF⟩ := qbox2 w c a v c a v
  rw [← hWe]
  clear hWe
  have cA := HA.out _ (Below.refl _ _)
  have cB := HB.out _ (Below.refl _ _)
  have cC := HC.out _ (Below.refl _ _)
  have cD := HD.out _ (Below.refl _ _)
  have cE := HE.out _ (Below.refl _ _)
  have cF := HF.out _ (Below.refl _ _)
  go_wp2_with fail
  refine (compareQ_is HX _).mono ?_
  rintro e w1 ⟨rfl, hbW⟩
  replace cA := HA.out _ hbW
  replace cB := HB.out _ hbW
  replace cC := HC.out _ hbW
  replace cD := HD.out _ hbW
  replace cE := HE.out _ hbW
  replace cF := HF.out _ hbW
  go_wp2_with fail
  refine (awake05_any _).mono ?_
  rintro e w2 ⟨rfl, hbel⟩
  go_wp2_with fail
  go_ret
  exact ⟨ret_bool (by first | rfl | (simp; done) | (simp; omega)), bnext hbw (bnext hbW hbel)⟩

theorem qualityParts_walk (c : Int) (w0 : (Lit.int .i64 c).wf = true) (a : Int) (w1 : (Lit.int .i64 a).wf = true) (v : Int) (w2 : (Lit.int .i64 v).wf = true) (c' : Int) (w3 : (Lit.int .i64 c').wf = true) (a' : Int) (w4 : (Lit.int .i64 a').wf = true) (v' : Int) (w5 : (Lit.int .i64 v').wf = true) (w : World) :
    Calls Try.prog 6 #[qualV c a v, qualV c' a' v'] w fun e w' => e = .returned (.bool true) ∧ Below w.heap.size w w' := by
  rcases Int.lt_trichotomy c c' with h | rfl | h
  · exact parts_c_lt c a v c' a' v' h (by omega) w
  · rcases Int.lt_trichotomy a a' with h | rfl | h
    · exact parts_a_lt c a v a' v' h (by omega) w
    · rcases Int.lt_trichotomy v v' with h | rfl | h
      · exact parts_v_lt c a v v' h (by omega) w
      · exact parts_same c a v w
      · exact parts_v_gt c a v v' h (by omega) w
    · exact parts_a_gt c a v a' v' h (by omega) w
  · exact parts_c_gt c a v c' a' v' h (by omega) w
end Go.Proofs.Ytknbflipockegaa
