/- Package stamp: the contracts of its calls. -/
import Derived.Test.YtgjffmhlehcoiaaStamp
namespace Go.Proofs.Ytgjffmhlehcoiaa
open Go.RowKit Go.Proofs
set_option maxRecDepth 50000
set_option linter.unusedVariables false

set_option maxHeartbeats 400000 in
theorem may_any (t : Int) (w : World) :
    Calls Try.prog 49 #[.int .i64 t] w fun e w' => e = .returned (.bool (mayB t)) ∧ w = w' := by
  by_cases h0 : 0 ≤ t
  · by_cases h1 : t ≤ 4000000000000000
    · go_enter Try.func49, Try.ntmps49
      go_wp2
      go_ret
      exact ⟨ret_bool (mayB_true h0 h1).symm, rfl⟩
    · go_enter Try.func49, Try.ntmps49
      go_wp2
      go_ret
      exact ⟨ret_bool (mayB_false (.inr (by omega))).symm, rfl⟩
  · go_enter Try.func49, Try.ntmps49
    go_wp2
    go_ret
    exact ⟨ret_bool (mayB_false (.inl (by omega))).symm, rfl⟩

theorem may_yes (t : Int) (w : World) (h : mayB t = true) :
    Calls Try.prog 49 #[.int .i64 t] w fun e w' => e = .returned (.bool true) ∧ w = w' := by
  have := may_any t w
  rwa [h] at this

theorem may_no (t : Int) (w : World) (h : mayB t = false) :
    Calls Try.prog 49 #[.int .i64 t] w fun e w' => e = .returned (.bool false) ∧ w = w' := by
  have := may_any t w
  rwa [h] at this

theorem new_on {w w1 w2 : World} {l m : List UInt8} {v2 : Value} (h1 : Below w.heap.size w w1) (h2 : Own w2 w1.heap.size v2 l) (h3 : Below w1.heap.size w1 w2) (e : l = m) : NewBytes w m (.returned v2) w2 :=
  ⟨v2, rfl, e ▸ h2.mono h1.size, bnext h1 h3⟩

set_option maxHeartbeats 400000 in
theorem stampPut_any (v : Value) (l : List UInt8) (t : Int) (w : World) (hB : Bytes w v l) (hl : l.length ≤ 140737488351232) :
    Calls Try.prog 37 #[v, .int .i64 t] w (NewBytes w (l ++ stampS t)) := by
  have hin := stampT_in t
  obtain ⟨hin0, hin1⟩ := hin
  cases hm : mayB t
  · have hT : stampT t = 0 := by unfold stampT; rw [hm]; rfl
    have Hm := hid hm
    have HT := hid hT
    clear hm hT hin0 hin1
    go_enter Try.func37, Try.ntmps37
    go_wp2_with fail
    refine (may_no _ _ Hm.out).mono ?_
    rintro e w' ⟨rfl, rfl⟩
    go_wp2_with fail
    refine (put_any _ l _ _ _ hB (by omega)).mono ?_
    rintro e w1 ⟨v1, rfl, hown, hbel⟩
    go_wp2_with fail
    refine (put_any _ _ _ _ _ hown.bytes (by rw [List.length_append, putS_length _ _ (by decide) (by decide)]; simp; omega)).mono ?_
    rintro e w2 ⟨v2, rfl, hown2, hbel2⟩
    go_wp2_with fail
    go_ret
    refine new_on hbel hown2 hbel2 ?_
    unfold stampS
    rw [HT.out, List.append_assoc]
    rfl
  · have hT : stampT t = t := by unfold stampT; rw [hm]; rfl
    rw [hT] at hin0 hin1
    have Hm := hid hm
    have HT := hid hT
    clear hm hT
    go_enter Try.func37, Try.ntmps37
    go_wp2_with fail
    refine (may_yes _ _ Hm.out).mono ?_
    rintro e w' ⟨rfl, rfl⟩
    go_wp2_with fail
    refine (put_any _ l _ _ _ hB (by omega)).mono ?_
    rintro e w1 ⟨v1, rfl, hown, hbel⟩
    go_wp2_with fail
    refine (put_any _ _ _ _ _ hown.bytes (by rw [List.length_append, putS_length _ _ (by decide) (by decide)]; simp; omega)).mono ?_
    rintro e w2 ⟨v2, rfl, hown2, hbel2⟩
    go_wp2_with fail
    go_ret
    refine new_on hbel hown2 hbel2 ?_
    unfold stampS
    rw [HT.out, List.append_assoc]






end Go.Proofs.Ytgjffmhlehcoiaa
