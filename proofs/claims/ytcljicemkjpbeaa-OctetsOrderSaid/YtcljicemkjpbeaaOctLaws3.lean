/- The walks of the laws of package octets: bytes are in the numbers' order. -/
import Derived.Test.YtcljicemkjpbeaaOctc
import Derived.Deep.RegionWith
import Derived.Deep.DeepCutAuto
namespace Go.Proofs.Ytcljicemkjpbeaa
open Go.RowKit Go.Proofs
set_option linter.unusedVariables false

set_option maxHeartbeats 1600000 in
theorem octetsOrder_1 (a0 : Int) (a1 : Int) (a2 : Int) (w : World) (h : a2 % 7 = 0) :
    Calls Try.prog 5 #[.int .i64 a0, .int .i64 a1, .int .i64 a2] w fun e w' => e = .returned (.bool true) ∧ Below w.heap.size w w' := by
  go_enter Try.func5, Try.ntmps5
  go_wp2_with fail
  refine (place_any _ _ _ (by decide) (by decide)).mono ?_
  rintro e w' ⟨rfl, rfl⟩
  rw [h]
  clear h
  go_wp2_with fail
  refine (place_in _ _ _ (by decide) (by decide)).mono ?_
  rintro e w' ⟨x, rfl, hx0, hx1, _, rfl⟩
  go_wp2_with fail
  refine (place_in _ _ _ (by decide) (by decide)).mono ?_
  rintro e w' ⟨y, rfl, hy0, hy1, _, rfl⟩
  have e1 := less_putS x y 1 hx0 hy0 (by decide) (by simp; omega) (by simp; omega)
  have e2 := same_putS x y 1 hx0 hy0 (by decide) (by simp; omega) (by simp; omega)
  have e3 : (putS x 1).length = 1 := putS_length x 1 (by decide) (by decide)
  have E1 := hid e1
  have E2 := hid e2
  have E3 := hid e3
  clear e1 e2 e3
  go_wp2_with fail
  go_cut [10, 11] (fun s t w' => s = .string ⟨(putS x 1).toArray⟩ ∧ t = .string ⟨(putS y 1).toArray⟩ ∧ Below w.heap.size w w')
  case first =>
    go_region_with ((go_at_call 9; refine (put_any _ [] _ _ _ (Bytes.nil _) (by decide)).mono ?_; rintro e w1 ⟨v, rfl, hown, hbel⟩; have hst := hown.bytes.strs; have hr := Below.refl w1.heap.size w1; clear hown))
    all_goals (go_wp2_with fail; go_meet)
    all_goals exact ⟨rfl, rfl, bnext (bdrew (by assumption)) (by assumption)⟩
  case rest =>
    obtain ⟨rfl, rfl, hb⟩ := hcut
    have e1 := E1.out
    have e2 := E2.out
    have e3 := E3.out
    go_wp2_with fail
    refine (awake_any _).mono ?_
    rintro e w4 ⟨rfl, hb4⟩
    clear e1 e2 e3
    go_wp2_with fail
    go_ret
    exact ⟨rfl, bnext hb hb4⟩

set_option maxHeartbeats 1600000 in
theorem octetsOrder_2 (a0 : Int) (a1 : Int) (a2 : Int) (w : World) (h : a2 % 7 = 1) :
    Calls Try.prog 5 #[.int .i64 a0, .int .i64 a1, .int .i64 a2] w fun e w' => e = .returned (.bool true) ∧ Below w.heap.size w w' := by
  go_enter Try.func5, Try.ntmps5
  go_wp2_with fail
  refine (place_any _ _ _ (by decide) (by decide)).mono ?_
  rintro e w' ⟨rfl, rfl⟩
  rw [h]
  clear h
  go_wp2_with fail
  refine (place_in _ _ _ (by decide) (by decide)).mono ?_
  rintro e w' ⟨x, rfl, hx0, hx1, _, rfl⟩
  go_wp2_with fail
  refine (place_in _ _ _ (by decide) (by decide)).mono ?_
  rintro e w' ⟨y, rfl, hy0, hy1, _, rfl⟩
  have e1 := less_putS x y 2 hx0 hy0 (by decide) (by simp; omega) (by simp; omega)
  have e2 := same_putS x y 2 hx0 hy0 (by decide) (by simp; omega) (by simp; omega)
  have e3 : (putS x 2).length = 2 := putS_length x 2 (by decide) (by decide)
  have E1 := hid e1
  have E2 := hid e2
  have E3 := hid e3
  clear e1 e2 e3
  go_wp2_with fail
  go_cut [10, 11] (fun s t w' => s = .string ⟨(putS x 2).toArray⟩ ∧ t = .string ⟨(putS y 2).toArray⟩ ∧ Below w.heap.size w w')
  case first =>
    go_region_with ((go_at_call 9; refine (put_any _ [] _ _ _ (Bytes.nil _) (by decide)).mono ?_; rintro e w1 ⟨v, rfl, hown, hbel⟩; have hst := hown.bytes.strs; have hr := Below.refl w1.heap.size w1; clear hown))
    all_goals (go_wp2_with fail; go_meet)
    all_goals exact ⟨rfl, rfl, bnext (bdrew (by assumption)) (by assumption)⟩
  case rest =>
    obtain ⟨rfl, rfl, hb⟩ := hcut
    have e1 := E1.out
    have e2 := E2.out
    have e3 := E3.out
    go_wp2_with fail
    refine (awake_any _).mono ?_
    rintro e w4 ⟨rfl, hb4⟩
    clear e1 e2 e3
    go_wp2_with fail
    go_ret
    exact ⟨rfl, bnext hb hb4⟩

set_option maxHeartbeats 1600000 in
theorem octetsOrder_3 (a0 : Int) (a1 : Int) (a2 : Int) (w : World) (h : a2 % 7 = 2) :
    Calls Try.prog 5 #[.int .i64 a0, .int .i64 a1, .int .i64 a2] w fun e w' => e = .returned (.bool true) ∧ Below w.heap.size w w' := by
  go_enter Try.func5, Try.ntmps5
  go_wp2_with fail
  refine (place_any _ _ _ (by decide) (by decide)).mono ?_
  rintro e w' ⟨rfl, rfl⟩
  rw [h]
  clear h
  go_wp2_with fail
  refine (place_in _ _ _ (by decide) (by decide)).mono ?_
  rintro e w' ⟨x, rfl, hx0, hx1, _, rfl⟩
  go_wp2_with fail
  refine (place_in _ _ _ (by decide) (by decide)).mono ?_
  rintro e w' ⟨y, rfl, hy0, hy1, _, rfl⟩
  have e1 := less_putS x y 3 hx0 hy0 (by decide) (by simp; omega) (by simp; omega)
  have e2 := same_putS x y 3 hx0 hy0 (by decide) (by simp; omega) (by simp; omega)
  have e3 : (putS x 3).length = 3 := putS_length x 3 (by decide) (by decide)
  have E1 := hid e1
  have E2 := hid e2
  have E3 := hid e3
  clear e1 e2 e3
  go_wp2_with fail
  go_cut [10, 11] (fun s t w' => s = .string ⟨(putS x 3).toArray⟩ ∧ t = .string ⟨(putS y 3).toArray⟩ ∧ Below w.heap.size w w')
  case first =>
    go_region_with ((go_at_call 9; refine (put_any _ [] _ _ _ (Bytes.nil _) (by decide)).mono ?_; rintro e w1 ⟨v, rfl, hown, hbel⟩; have hst := hown.bytes.strs; have hr := Below.refl w1.heap.size w1; clear hown))
    all_goals (go_wp2_with fail; go_meet)
    all_goals exact ⟨rfl, rfl, bnext (bdrew (by assumption)) (by assumption)⟩
  case rest =>
    obtain ⟨rfl, rfl, hb⟩ := hcut
    have e1 := E1.out
    have e2 := E2.out
    have e3 := E3.out
    go_wp2_with fail
    refine (awake_any _).mono ?_
    rintro e w4 ⟨rfl, hb4⟩
    clear e1 e2 e3
    go_wp2_with fail
    go_ret
    exact ⟨rfl, bnext hb hb4⟩

set_option maxHeartbeats 1600000 in
theorem octetsOrder_4 (a0 : Int) (a1 : Int) (a2 : Int) (w : World) (h : a2 % 7 = 3) :
    Calls Try.prog 5 #[.int .i64 a0, .int .i64 a1, .int .i64 a2] w fun e w' => e = .returned (.bool true) ∧ Below w.heap.size w w' := by
  go_enter Try.func5, Try.ntmps5
  go_wp2_with fail
  refine (place_any _ _ _ (by decide) (by decide)).mono ?_
  rintro e w' ⟨rfl, rfl⟩
  rw [h]
  clear h
  go_wp2_with fail
  refine (place_in _ _ _ (by decide) (by decide)).mono ?_
  rintro e w' ⟨x, rfl, hx0, hx1, _, rfl⟩
  go_wp2_with fail
  refine (place_in _ _ _ (by decide) (by decide)).mono ?_
  rintro e w' ⟨y, rfl, hy0, hy1, _, rfl⟩
  have e1 := less_putS x y 4 hx0 hy0 (by decide) (by simp; omega) (by simp; omega)
  have e2 := same_putS x y 4 hx0 hy0 (by decide) (by simp; omega) (by simp; omega)
  have e3 : (putS x 4).length = 4 := putS_length x 4 (by decide) (by decide)
  have E1 := hid e1
  have E2 := hid e2
  have E3 := hid e3
  clear e1 e2 e3
  go_wp2_with fail
  go_cut [10, 11] (fun s t w' => s = .string ⟨(putS x 4).toArray⟩ ∧ t = .string ⟨(putS y 4).toArray⟩ ∧ Below w.heap.size w w')
  case first =>
    go_region_with ((go_at_call 9; refine (put_any _ [] _ _ _ (Bytes.nil _) (by decide)).mono ?_; rintro e w1 ⟨v, rfl, hown, hbel⟩; have hst := hown.bytes.strs; have hr := Below.refl w1.heap.size w1; clear hown))
    all_goals (go_wp2_with fail; go_meet)
    all_goals exact ⟨rfl, rfl, bnext (bdrew (by assumption)) (by assumption)⟩
  case rest =>
    obtain ⟨rfl, rfl, hb⟩ := hcut
    have e1 := E1.out
    have e2 := E2.out
    have e3 := E3.out
    go_wp2_with fail
    refine (awake_any _).mono ?_
    rintro e w4 ⟨rfl, hb4⟩
    clear e1 e2 e3
    go_wp2_with fail
    go_ret
    exact ⟨rfl, bnext hb hb4⟩

set_option maxHeartbeats 1600000 in
theorem octetsOrder_5 (a0 : Int) (a1 : Int) (a2 : Int) (w : World) (h : a2 % 7 = 4) :
    Calls Try.prog 5 #[.int .i64 a0, .int .i64 a1, .int .i64 a2] w fun e w' => e = .returned (.bool true) ∧ Below w.heap.size w w' := by
  go_enter Try.func5, Try.ntmps5
  go_wp2_with fail
  refine (place_any _ _ _ (by decide) (by decide)).mono ?_
  rintro e w' ⟨rfl, rfl⟩
  rw [h]
  clear h
  go_wp2_with fail
  refine (place_in _ _ _ (by decide) (by decide)).mono ?_
  rintro e w' ⟨x, rfl, hx0, hx1, _, rfl⟩
  go_wp2_with fail
  refine (place_in _ _ _ (by decide) (by decide)).mono ?_
  rintro e w' ⟨y, rfl, hy0, hy1, _, rfl⟩
  have e1 := less_putS x y 5 hx0 hy0 (by decide) (by simp; omega) (by simp; omega)
  have e2 := same_putS x y 5 hx0 hy0 (by decide) (by simp; omega) (by simp; omega)
  have e3 : (putS x 5).length = 5 := putS_length x 5 (by decide) (by decide)
  have E1 := hid e1
  have E2 := hid e2
  have E3 := hid e3
  clear e1 e2 e3
  go_wp2_with fail
  go_cut [10, 11] (fun s t w' => s = .string ⟨(putS x 5).toArray⟩ ∧ t = .string ⟨(putS y 5).toArray⟩ ∧ Below w.heap.size w w')
  case first =>
    go_region_with ((go_at_call 9; refine (put_any _ [] _ _ _ (Bytes.nil _) (by decide)).mono ?_; rintro e w1 ⟨v, rfl, hown, hbel⟩; have hst := hown.bytes.strs; have hr := Below.refl w1.heap.size w1; clear hown))
    all_goals (go_wp2_with fail; go_meet)
    all_goals exact ⟨rfl, rfl, bnext (bdrew (by assumption)) (by assumption)⟩
  case rest =>
    obtain ⟨rfl, rfl, hb⟩ := hcut
    have e1 := E1.out
    have e2 := E2.out
    have e3 := E3.out
    go_wp2_with fail
    refine (awake_any _).mono ?_
    rintro e w4 ⟨rfl, hb4⟩
    clear e1 e2 e3
    go_wp2_with fail
    go_ret
    exact ⟨rfl, bnext hb hb4⟩

set_option maxHeartbeats 1600000 in
theorem octetsOrder_6 (a0 : Int) (a1 : Int) (a2 : Int) (w : World) (h : a2 % 7 = 5) :
    Calls Try.prog 5 #[.int .i64 a0, .int .i64 a1, .int .i64 a2] w fun e w' => e = .returned (.bool true) ∧ Below w.heap.size w w' := by
  go_enter Try.func5, Try.ntmps5
  go_wp2_with fail
  refine (place_any _ _ _ (by decide) (by decide)).mono ?_
  rintro e w' ⟨rfl, rfl⟩
  rw [h]
  clear h
  go_wp2_with fail
  refine (place_in _ _ _ (by decide) (by decide)).mono ?_
  rintro e w' ⟨x, rfl, hx0, hx1, _, rfl⟩
  go_wp2_with fail
  refine (place_in _ _ _ (by decide) (by decide)).mono ?_
  rintro e w' ⟨y, rfl, hy0, hy1, _, rfl⟩
  have e1 := less_putS x y 6 hx0 hy0 (by decide) (by simp; omega) (by simp; omega)
  have e2 := same_putS x y 6 hx0 hy0 (by decide) (by simp; omega) (by simp; omega)
  have e3 : (putS x 6).length = 6 := putS_length x 6 (by decide) (by decide)
  have E1 := hid e1
  have E2 := hid e2
  have E3 := hid e3
  clear e1 e2 e3
  go_wp2_with fail
  go_cut [10, 11] (fun s t w' => s = .string ⟨(putS x 6).toArray⟩ ∧ t = .string ⟨(putS y 6).toArray⟩ ∧ Below w.heap.size w w')
  case first =>
    go_region_with ((go_at_call 9; refine (put_any _ [] _ _ _ (Bytes.nil _) (by decide)).mono ?_; rintro e w1 ⟨v, rfl, hown, hbel⟩; have hst := hown.bytes.strs; have hr := Below.refl w1.heap.size w1; clear hown))
    all_goals (go_wp2_with fail; go_meet)
    all_goals exact ⟨rfl, rfl, bnext (bdrew (by assumption)) (by assumption)⟩
  case rest =>
    obtain ⟨rfl, rfl, hb⟩ := hcut
    have e1 := E1.out
    have e2 := E2.out
    have e3 := E3.out
    go_wp2_with fail
    refine (awake_any _).mono ?_
    rintro e w4 ⟨rfl, hb4⟩
    clear e1 e2 e3
    go_wp2_with fail
    go_ret
    exact ⟨rfl, bnext hb hb4⟩

set_option maxHeartbeats 1600000 in
theorem octetsOrder_7 (a0 : Int) (a1 : Int) (a2 : Int) (w : World) (h : a2 % 7 = 6) :
    Calls Try.prog 5 #[.int .i64 a0, .int .i64 a1, .int .i64 a2] w fun e w' => e = .returned (.bool true) ∧ Below w.heap.size w w' := by
  go_enter Try.func5, Try.ntmps5
  go_wp2_with fail
  refine (place_any _ _ _ (by decide) (by decide)).mono ?_
  rintro e w' ⟨rfl, rfl⟩
  rw [h]
  clear h
  go_wp2_with fail
  refine (place_in _ _ _ (by decide) (by decide)).mono ?_
  rintro e w' ⟨x, rfl, hx0, hx1, _, rfl⟩
  go_wp2_with fail
  refine (place_in _ _ _ (by decide) (by decide)).mono ?_
  rintro e w' ⟨y, rfl, hy0, hy1, _, rfl⟩
  have e1 := less_putS x y 7 hx0 hy0 (by decide) (by simp; omega) (by simp; omega)
  have e2 := same_putS x y 7 hx0 hy0 (by decide) (by simp; omega) (by simp; omega)
  have e3 : (putS x 7).length = 7 := putS_length x 7 (by decide) (by decide)
  have E1 := hid e1
  have E2 := hid e2
  have E3 := hid e3
  clear e1 e2 e3
  go_wp2_with fail
  go_cut [10, 11] (fun s t w' => s = .string ⟨(putS x 7).toArray⟩ ∧ t = .string ⟨(putS y 7).toArray⟩ ∧ Below w.heap.size w w')
  case first =>
    go_region_with ((go_at_call 9; refine (put_any _ [] _ _ _ (Bytes.nil _) (by decide)).mono ?_; rintro e w1 ⟨v, rfl, hown, hbel⟩; have hst := hown.bytes.strs; have hr := Below.refl w1.heap.size w1; clear hown))
    all_goals (go_wp2_with fail; go_meet)
    all_goals exact ⟨rfl, rfl, bnext (bdrew (by assumption)) (by assumption)⟩
  case rest =>
    obtain ⟨rfl, rfl, hb⟩ := hcut
    have e1 := E1.out
    have e2 := E2.out
    have e3 := E3.out
    go_wp2_with fail
    refine (awake_any _).mono ?_
    rintro e w4 ⟨rfl, hb4⟩
    clear e1 e2 e3
    go_wp2_with fail
    go_ret
    exact ⟨rfl, bnext hb hb4⟩

theorem octetsOrder_walk (a0 : Int) (w0 : (Lit.int .i64 a0).wf = true) (a1 : Int) (w1 : (Lit.int .i64 a1).wf = true) (a2 : Int) (w2 : (Lit.int .i64 a2).wf = true) (w : World) :
    Calls Try.prog 5 #[.int .i64 a0, .int .i64 a1, .int .i64 a2] w fun e w' => e = .returned (.bool true) ∧ Below w.heap.size w w' := by
  have hk : a2 % 7 = 0 ∨ a2 % 7 = 1 ∨ a2 % 7 = 2 ∨ a2 % 7 = 3 ∨ a2 % 7 = 4 ∨ a2 % 7 = 5 ∨ a2 % 7 = 6 := by omega
  rcases hk with h | h | h | h | h | h | h
  · exact octetsOrder_1 a0 a1 a2 w h
  · exact octetsOrder_2 a0 a1 a2 w h
  · exact octetsOrder_3 a0 a1 a2 w h
  · exact octetsOrder_4 a0 a1 a2 w h
  · exact octetsOrder_5 a0 a1 a2 w h
  · exact octetsOrder_6 a0 a1 a2 w h
  · exact octetsOrder_7 a0 a1 a2 w h
end Go.Proofs.Ytcljicemkjpbeaa
