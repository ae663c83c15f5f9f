/- The walks of the laws of package stamp that hold no bytes. -/
import Derived.Test.YtlpfcacmfcobcaaStampc
import Derived.Test.YtlpfcacmfcobcaaStampRef
namespace Go.Proofs.Ytlpfcacmfcobcaa
open Go.RowKit Go.Proofs
set_option linter.unusedVariables false

set_option maxHeartbeats 800000 in
theorem stampNumbers_walk (a0 : Int) (w0 : (Lit.int .i64 a0).wf = true) (a1 : Int) (w1 : (Lit.int .i64 a1).wf = true) (w : World) :
    Calls Try.prog 4 #[.int .i64 a0, .int .i64 a1] w fun e w' => e = .returned (.bool true) ∧ Below w.heap.size w w' := by
  obtain ⟨h00, h01⟩ := i64_of_wf w0
  obtain ⟨h10, h11⟩ := i64_of_wf w1
  clear w0 w1
  go_enter Try.func4, Try.ntmps4
  go_wp2_with fail
  refine (floor_any _ _ h00 h01).mono ?_
  rintro e w' ⟨rfl, rfl⟩
  go_wp2_with fail
  refine (refFloor_any _ _ h00 h01).mono ?_
  rintro e w' ⟨rfl, rfl⟩
  go_wp2_with fail
  refine (add_any _ _ _ h00 h01 h10 h11).mono ?_
  rintro e w' ⟨rfl, rfl⟩
  go_wp2_with fail
  refine (refAdd_any _ _ _ h00 h01 h10 h11).mono ?_
  rintro e w' ⟨rfl, rfl⟩
  go_wp2_with fail
  refine (ticks_any _ _).mono ?_
  rintro e w' ⟨rfl, rfl⟩
  go_wp2_with fail
  refine (refTicks_any _ _).mono ?_
  rintro e w' ⟨rfl, rfl⟩
  go_wp2_with fail
  refine (nanos_any _ _).mono ?_
  rintro e w' ⟨rfl, rfl⟩
  go_wp2_with fail
  refine (refNanos_any _ _).mono ?_
  rintro e w' ⟨rfl, rfl⟩
  go_wp2_with fail
  refine (awake02_any _).mono ?_
  rintro e w' ⟨rfl, rfl⟩
  go_wp2_with fail
  go_ret
  exact ⟨rfl, Below.refl _ _⟩

set_option maxHeartbeats 800000 in
theorem stampFloors_walk (a0 : Int) (w0 : (Lit.int .i64 a0).wf = true) (w : World) :
    Calls Try.prog 6 #[.int .i64 a0] w fun e w' => e = .returned (.bool true) ∧ Below w.heap.size w w' := by
  obtain ⟨h00, h01⟩ := i64_of_wf w0
  clear w0
  obtain ⟨f, hf⟩ : ∃ f, f = a0 / 65536 := ⟨_, rfl⟩
  have hr0 : 0 ≤ a0 - f * 65536 := by omega
  have hr1 : a0 - f * 65536 < 65536 := by omega
  have hf0 : -140737488355328 ≤ f := by omega
  have hf1 : f ≤ 140737488355328 := by omega
  have Hf := hid hf
  clear hf
  by_cases hb : 70368744177664 < f
  · go_enter Try.func6, Try.ntmps6
    go_wp2_with fail
    refine (floor_any _ _ h00 h01).mono ?_
    rintro e w' ⟨rfl, rfl⟩
    rw [← Hf.out]
    go_wp2_with fail
    refine (awake02_any _).mono ?_
    rintro e w' ⟨rfl, rfl⟩
    go_wp2_with fail
    go_ret
    exact ⟨rfl, Below.refl _ _⟩
  by_cases hs : f < -70368744177664
  · go_enter Try.func6, Try.ntmps6
    go_wp2_with fail
    refine (floor_any _ _ h00 h01).mono ?_
    rintro e w' ⟨rfl, rfl⟩
    rw [← Hf.out]
    go_wp2_with fail
    refine (awake02_any _).mono ?_
    rintro e w' ⟨rfl, rfl⟩
    go_wp2_with fail
    go_ret
    exact ⟨rfl, Below.refl _ _⟩
  · go_enter Try.func6, Try.ntmps6
    go_wp2_with fail
    refine (floor_any _ _ h00 h01).mono ?_
    rintro e w' ⟨rfl, rfl⟩
    rw [← Hf.out]
    go_wp2_with fail
    refine (awake02_any _).mono ?_
    rintro e w' ⟨rfl, rfl⟩
    go_wp2_with fail
    go_ret
    exact ⟨rfl, Below.refl _ _⟩

set_option maxHeartbeats 800000 in
theorem stampSums_walk (a0 : Int) (w0 : (Lit.int .i64 a0).wf = true) (a1 : Int) (w1 : (Lit.int .i64 a1).wf = true) (w : World) :
    Calls Try.prog 7 #[.int .i64 a0, .int .i64 a1] w fun e w' => e = .returned (.bool true) ∧ Below w.heap.size w w' := by
  obtain ⟨h00, h01⟩ := i64_of_wf w0
  obtain ⟨h10, h11⟩ := i64_of_wf w1
  clear w0 w1
  have e0 : addI a0 0 = a0 := by unfold addI; omega
  obtain ⟨s, hs⟩ : ∃ s, s = addI a0 a1 := ⟨_, rfl⟩
  have hge : 0 ≤ a1 → a0 ≤ s := by intro; rw [hs]; unfold addI; omega
  have hle : a1 ≤ 0 → s ≤ a0 := by intro; rw [hs]; unfold addI; omega
  have E0 := hid e0
  have Hs := hid hs
  have Hge := hid hge
  have Hle := hid hle
  clear e0 hs hge hle
  rcases Int.lt_trichotomy a1 0 with h | rfl | h
  · have hl := Hle.out (by omega)
    go_enter Try.func7, Try.ntmps7
    go_wp2_with fail
    refine (add_any _ _ _ h00 h01 h10 h11).mono ?_
    rintro e w' ⟨rfl, rfl⟩
    rw [← Hs.out]
    go_wp2_with fail
    refine (add_any _ _ _ h10 h11 h00 h01).mono ?_
    rintro e w' ⟨rfl, rfl⟩
    rw [addI_comm, ← Hs.out]
    go_wp2_with fail
    refine (add_any _ _ _ h00 h01 (by decide) (by decide)).mono ?_
    rintro e w' ⟨rfl, rfl⟩
    rw [E0.out]
    go_wp2_with fail
    refine (awake02_any _).mono ?_
    rintro e w' ⟨rfl, rfl⟩
    go_wp2_with fail
    go_ret
    exact ⟨rfl, Below.refl _ _⟩
  · have hl := Hle.out (by omega)
    have hg := Hge.out (by omega)
    go_enter Try.func7, Try.ntmps7
    go_wp2_with fail
    refine (add_any _ _ _ h00 h01 h10 h11).mono ?_
    rintro e w' ⟨rfl, rfl⟩
    rw [← Hs.out]
    go_wp2_with fail
    refine (add_any _ _ _ h10 h11 h00 h01).mono ?_
    rintro e w' ⟨rfl, rfl⟩
    rw [addI_comm, ← Hs.out]
    go_wp2_with fail
    refine (add_any _ _ _ h00 h01 (by decide) (by decide)).mono ?_
    rintro e w' ⟨rfl, rfl⟩
    rw [E0.out]
    go_wp2_with fail
    refine (awake02_any _).mono ?_
    rintro e w' ⟨rfl, rfl⟩
    go_wp2_with fail
    go_ret
    exact ⟨rfl, Below.refl _ _⟩
  · have hg := Hge.out (by omega)
    go_enter Try.func7, Try.ntmps7
    go_wp2_with fail
    refine (add_any _ _ _ h00 h01 h10 h11).mono ?_
    rintro e w' ⟨rfl, rfl⟩
    rw [← Hs.out]
    go_wp2_with fail
    refine (add_any _ _ _ h10 h11 h00 h01).mono ?_
    rintro e w' ⟨rfl, rfl⟩
    rw [addI_comm, ← Hs.out]
    go_wp2_with fail
    refine (add_any _ _ _ h00 h01 (by decide) (by decide)).mono ?_
    rintro e w' ⟨rfl, rfl⟩
    rw [E0.out]
    go_wp2_with fail
    refine (awake02_any _).mono ?_
    rintro e w' ⟨rfl, rfl⟩
    go_wp2_with fail
    go_ret
    exact ⟨rfl, Below.refl _ _⟩

theorem eighI_next (k : Int) (h0 : -3 ≤ k) (h1 : k ≤ 3) : eighI (k + 1) = 2 * eighI k := by
  have h : k = -3 ∨ k = -2 ∨ k = -1 ∨ k = 0 ∨ k = 1 ∨ k = 2 ∨ k = 3 := by omega
  rcases h with rfl | rfl | rfl | rfl | rfl | rfl | rfl <;> decide

set_option maxHeartbeats 800000 in
theorem stampTwice_walk (a0 : Int) (w0 : (Lit.int .i64 a0).wf = true) (w : World) :
    Calls Try.prog 8 #[.int .i64 a0] w fun e w' => e = .returned (.bool true) ∧ Below w.heap.size w w' := by
  clear w0
  go_enter Try.func8, Try.ntmps8
  go_wp2_with fail
  refine (place_in _ _ _ (by decide) (by decide)).mono ?_
  rintro e w' ⟨y, rfl, hy0, hy1, _, rfl⟩
  obtain ⟨E, hE⟩ : ∃ E, E = eighI (y - 3) := ⟨_, rfl⟩
  have hn : eighI (y - 3 + 1) = 2 * E := by rw [hE]; exact eighI_next _ (by omega) (by omega)
  have hi := eighI_in (y - 3)
  rw [← hE] at hi
  obtain ⟨hi0, hi1⟩ := hi
  have hc : 125000000 * (2 * E) = 2 * (125000000 * E) := by omega
  have hd : E * 125000000 = 125000000 * E := by omega
  have HE := hid hE
  have Hn := hid hn
  have Hc := hid hc
  clear hE hn hc hd
  go_wp2_with fail
  refine (ticks_any _ _).mono ?_
  rintro e w' ⟨rfl, rfl⟩
  rw [Hn.out]
  go_wp2_with fail
  refine (ticks_any _ _).mono ?_
  rintro e w' ⟨rfl, rfl⟩
  rw [← HE.out]
  go_wp2_with fail
  refine (nanos_any _ _).mono ?_
  rintro e w' ⟨rfl, rfl⟩
  rw [Hn.out, Hc.out]
  go_wp2_with fail
  refine (nanos_any _ _).mono ?_
  rintro e w' ⟨rfl, rfl⟩
  rw [← HE.out]
  go_wp2_with fail
  refine (ticks_any _ _).mono ?_
  rintro e w' ⟨rfl, rfl⟩
  rw [← HE.out]
  go_wp2_with fail
  refine (nanos_any _ _).mono ?_
  rintro e w' ⟨rfl, rfl⟩
  rw [← HE.out]
  go_wp2_with fail
  refine (awake02_any _).mono ?_
  rintro e w' ⟨rfl, rfl⟩
  go_wp2_with fail
  go_ret
  exact ⟨rfl, Below.refl _ _⟩
end Go.Proofs.Ytlpfcacmfcobcaa
