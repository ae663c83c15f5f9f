/- Contracts of the document's own answer for package stamp. -/
import Derived.Test.YtpelgbcccgdlbaaStamp
import Derived.Test.YtpelgbcccgdlbaaOctRef
namespace Go.Proofs.Ytpelgbcccgdlbaa
open Go.RowKit Go.Proofs
set_option linter.unusedVariables false

set_option maxHeartbeats 400000 in
theorem refMay_any (t : Int) (w : World) :
    Calls Try.prog 23 #[.int .i64 t] w fun e w' => e = .returned (.bool (mayB t)) ∧ w = w' := by
  by_cases h0 : 0 ≤ t
  · by_cases h1 : t ≤ 4000000000000000
    · go_enter Try.func23, Try.ntmps23
      go_wp2
      go_ret
      exact ⟨ret_bool (mayB_true h0 h1).symm, rfl⟩
    · go_enter Try.func23, Try.ntmps23
      go_wp2
      go_ret
      exact ⟨ret_bool (mayB_false (.inr (by omega))).symm, rfl⟩
  · go_enter Try.func23, Try.ntmps23
    go_wp2
    go_ret
    exact ⟨ret_bool (mayB_false (.inl (by omega))).symm, rfl⟩

theorem refMay_yes (t : Int) (w : World) (h : mayB t = true) :
    Calls Try.prog 23 #[.int .i64 t] w fun e w' => e = .returned (.bool true) ∧ w = w' := by
  have := refMay_any t w
  rwa [h] at this

theorem refMay_no (t : Int) (w : World) (h : mayB t = false) :
    Calls Try.prog 23 #[.int .i64 t] w fun e w' => e = .returned (.bool false) ∧ w = w' := by
  have := refMay_any t w
  rwa [h] at this

set_option maxHeartbeats 800000 in
theorem refStampPut_any (t : Int) (w : World) :
    Calls Try.prog 28 #[.int .i64 t] w (NewBytes w (stampS t)) := by
  have hin := stampT_in t
  obtain ⟨hin0, hin1⟩ := hin
  cases hm : mayB t
  · have hT : stampT t = 0 := by unfold stampT; rw [hm]; rfl
    have Hm := hid hm
    have HT := hid hT
    clear hm hT hin0 hin1
    go_enter Try.func28, Try.ntmps28
    go_wp2_with fail
    refine (refMay_no _ _ Hm.out).mono ?_
    rintro e w' ⟨rfl, rfl⟩
    go_wp2_with fail
    refine (refPut_any _ _ _).mono ?_
    rintro e w1 ⟨v1, rfl, hown, hbel⟩
    go_wp2_with fail
    refine (refPut_any _ _ _).mono ?_
    rintro e w2 ⟨v2, rfl, hown2, hbel2⟩
    have hownA := hown.below hbel2
    have hB2 := hown2.bytes
    have hbase : w.heap.size ≤ w2.heap.size := Nat.le_trans hbel.size hbel2.size
    have hlen : (putS 0 6).length + (putS 0 4).length ≤ 140737488355328 := by decide
    have hb12 := bnext hbel hbel2
    have Hlen := hid hlen
    clear hown hown2 hbel hbel2 hlen
    go_wp2_with (at_builtin; refine wpList_append_bytes rfl _ _ rfl rfl w.heap.size _ _ _ _ rfl rfl hownA hB2 Hlen.out hbase ?_; intro v3 w3 hown3 hbel3)
    go_ret
    refine ⟨v3, rfl, ?_, hb12.trans hbel3⟩
    unfold stampS
    rw [HT.out]
    exact hown3
  · have hT : stampT t = t := by unfold stampT; rw [hm]; rfl
    rw [hT] at hin0 hin1
    have Hm := hid hm
    have HT := hid hT
    clear hm hT
    have Hlen : Hid ((putS (t / 1000000000) 6).length + (putS (t % 1000000000) 4).length ≤ 140737488355328) := hid (by rw [putS_length _ 6 (by decide) (by decide), putS_length _ 4 (by decide) (by decide)]; decide)
    go_enter Try.func28, Try.ntmps28
    go_wp2_with fail
    refine (refMay_yes _ _ Hm.out).mono ?_
    rintro e w' ⟨rfl, rfl⟩
    go_wp2_with fail
    refine (refPut_any _ _ _).mono ?_
    rintro e w1 ⟨v1, rfl, hown, hbel⟩
    go_wp2_with fail
    refine (refPut_any _ _ _).mono ?_
    rintro e w2 ⟨v2, rfl, hown2, hbel2⟩
    have hownA := hown.below hbel2
    have hB2 := hown2.bytes
    have hbase : w.heap.size ≤ w2.heap.size := Nat.le_trans hbel.size hbel2.size
    have hb12 := bnext hbel hbel2
    clear hown hown2 hbel hbel2
    go_wp2_with (at_builtin; refine wpList_append_bytes rfl _ _ rfl rfl w.heap.size _ _ _ _ rfl rfl hownA hB2 Hlen.out hbase ?_; intro v3 w3 hown3 hbel3)
    go_ret
    refine ⟨v3, rfl, ?_, hb12.trans hbel3⟩
    unfold stampS
    rw [HT.out]
    exact hown3






end Go.Proofs.Ytpelgbcccgdlbaa
