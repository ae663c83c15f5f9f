/- The document's own FaultOf and ManageOf (chapter 8). -/
import Derived.Test.YtdhdlpoopehmlaaTlvRef2
import Derived.Test.YtdhdlpoopehmlaaOctRef
import Derived.Test.YtdhdlpoopehmlaaStrB
import Derived.BigQuiet
namespace Go.Proofs.Ytdhdlpoopehmlaa
open Go.RowKit Go.Proofs
set_option linter.unusedVariables false
set_option linter.unusedSimpArgs false

/-- An error that a TLV tells. -/
def faultOfT (q : T2) : Nat × Nat × Bool := if q.1 = 2 ∧ 8 ≤ q.2.length then (numAt q.2 0 2, numAt q.2 2 2, true) else (0, 0, false)

/-- 's[2:]'. -/
theorem slice_str (s : List UInt8) (h : 2 ≤ s.length) : (⟨s.toArray⟩ : ByteArray).extract 2 s.length = ⟨(s.drop 2).toArray⟩ := by
  apply ByteArray.ext
  simp [ByteArray.data_extract]
  exact List.take_of_length_le (by rw [List.length_drop]; exact Nat.le_refl _)

/-- A management that a TLV tells. -/
def manageOfT (q : T2) : Nat × List UInt8 × Bool := if q.1 = 1 ∧ 2 ≤ q.2.length then (numAt q.2 0 2, q.2.drop 2, true) else (0, [], false)

set_option maxRecDepth 100000 in
set_option maxHeartbeats 1600000 in
theorem refFaultOf_any (c : Int) (s : List UInt8) (w : World) (hs : s.length ≤ 140737488355328) :
    Calls Try.prog 37 #[tlvV (c, s)] w fun e w' => e = .returned (.tuple #[.int .i64 ((faultOfT (c, s)).1 : Nat), .int .i64 ((faultOfT (c, s)).2.1 : Nat), .bool (faultOfT (c, s)).2.2]) ∧ Below w.heap.size w w' := by
  obtain ⟨W, hW, hbW, HX, HY⟩ := box_tlv w (c, s)
  have c0 := HX.out _ (Below.refl _ _)
  have c1 := HY.out _ (Below.refl _ _)
  by_cases h2 : c = 2
  · subst h2
    have hK := refKnownT_any 2 s W (by omega)
    rw [show knownT (2, s) = decide (8 ≤ s.length) from rfl] at hK
    by_cases h8 : 8 ≤ s.length
    · rw [decide_eq_true h8] at hK
      rw [show faultOfT (2, s) = (numAt s 0 2, numAt s 2 2, true) from if_pos ⟨rfl, h8⟩]
      go_enter Try.func37, Try.ntmps37
      go_upto_region 1 with fail
      rw [← hW]
      clear hW
      go_wp2_with fail
      refine hK.mono ?_
      rintro e w1 ⟨rfl, hb1⟩
      have d0 := HY.out _ hb1
      have hbb := bnext hbW hb1
      clear hK c0 c1
      go_wp2_with (refine wpList_convert_str (o := ⟨some 20, _, _, _, _, _⟩) rfl _ rfl s rfl hs ?_; intro v2 w2 hv2 hb2)
      refine (refGet_ok v2 s 0 2 w2 hv2 hs (by decide) (by decide) (by decide) (standB_true (by decide) (by decide) (by omega))).mono ?_
      rintro e w' ⟨rfl, rfl⟩
      have d1 := HY.out _ (bnext hb1 hb2)
      replace hbb := bnext hbb hb2
      clear d0
      go_wp2_with (refine wpList_convert_str (o := ⟨some 27, _, _, _, _, _⟩) rfl _ rfl s rfl hs ?_; intro v3 w3 hv3 hb3)
      refine (refGet_ok v3 s 2 2 w3 hv3 hs (by decide) (by decide) (by decide) (standB_true (by decide) (by decide) (by omega))).mono ?_
      rintro e w' ⟨rfl, rfl⟩
      replace hbb := bnext hbb hb3
      go_wp2_with fail
      go_ret3
      exact ⟨rfl, hbb⟩
    · rw [decide_eq_false h8] at hK
      rw [show faultOfT (2, s) = (0, 0, false) from if_neg (fun h => h8 h.2)]
      go_enter Try.func37, Try.ntmps37
      go_upto_region 1 with fail
      rw [← hW]
      clear hW
      go_wp2_with fail
      refine hK.mono ?_
      rintro e w1 ⟨rfl, hb1⟩
      go_wp2_with fail
      go_ret3
      exact ⟨rfl, bnext hbW hb1⟩
  · rw [show faultOfT (c, s) = (0, 0, false) from if_neg (fun h => h2 h.1)]
    have hI : (c == 2) = false := beq_false_of_ne h2
    go_enter Try.func37, Try.ntmps37
    go_upto_region 1 with fail
    rw [← hW]
    clear hW
    go_wp2_with fail
    go_ret3
    exact ⟨rfl, hbW⟩
set_option maxRecDepth 100000 in
set_option maxHeartbeats 1600000 in
theorem refManageOf_any (c : Int) (s : List UInt8) (w : World) (hs : s.length ≤ 140737488355328) :
    Calls Try.prog 35 #[tlvV (c, s)] w fun e w' => e = .returned (.tuple #[.int .i64 ((manageOfT (c, s)).1 : Nat), sv (manageOfT (c, s)).2.1, .bool (manageOfT (c, s)).2.2]) ∧ Below w.heap.size w w' := by
  obtain ⟨W, hW, hbW, HX, HY⟩ := box_tlv w (c, s)
  have c0 := HX.out _ (Below.refl _ _)
  have c1 := HY.out _ (Below.refl _ _)
  by_cases h2 : c = 1
  · subst h2
    have hK := refKnownT_any 1 s W (by omega)
    rw [show knownT (1, s) = decide (2 ≤ s.length) from rfl] at hK
    by_cases hl2 : 2 ≤ s.length
    · rw [decide_eq_true hl2] at hK
      rw [show manageOfT (1, s) = (numAt s 0 2, s.drop 2, true) from if_pos ⟨rfl, hl2⟩]
      go_enter Try.func35, Try.ntmps35
      go_upto_region 1 with fail
      rw [← hW]
      clear hW
      go_wp2_with fail
      refine hK.mono ?_
      rintro e w1 ⟨rfl, hb1⟩
      have d0 := HY.out _ hb1
      have hbb := bnext hbW hb1
      clear hK c0 c1
      go_wp2_with (refine wpList_convert_str (o := ⟨some 18, _, _, _, _, _⟩) rfl _ rfl s rfl hs ?_; intro v2 w2 hv2 hb2)
      refine (refGet_ok v2 s 0 2 w2 hv2 hs (by decide) (by decide) (by decide) (standB_true (by decide) (by decide) (by omega))).mono ?_
      rintro e w' ⟨rfl, rfl⟩
      have d1 := HY.out _ (bnext hb1 hb2)
      replace hbb := bnext hbb hb2
      clear d0
      go_upto_region 4 with fail
      have hS := slice_str s hl2
      go_quiet (fail)
      go_wp2_with fail
      go_ret3
      exact ⟨rfl, hbb.trans ⟨rfl, rfl, rfl, Nat.le_refl _, fun _ _ => rfl⟩⟩
    · rw [decide_eq_false hl2] at hK
      rw [show manageOfT (1, s) = (0, [], false) from if_neg (fun h => hl2 h.2)]
      go_enter Try.func35, Try.ntmps35
      go_upto_region 1 with fail
      rw [← hW]
      clear hW
      go_wp2_with fail
      refine hK.mono ?_
      rintro e w1 ⟨rfl, hb1⟩
      go_wp2_with fail
      go_ret3
      exact ⟨rfl, bnext hbW hb1⟩
  · rw [show manageOfT (c, s) = (0, [], false) from if_neg (fun h => h2 h.1)]
    have hI : (c == 1) = false := beq_false_of_ne h2
    go_enter Try.func35, Try.ntmps35
    go_upto_region 1 with fail
    rw [← hW]
    clear hW
    go_wp2_with fail
    go_ret3
    exact ⟨rfl, hbW⟩
end Go.Proofs.Ytdhdlpoopehmlaa
