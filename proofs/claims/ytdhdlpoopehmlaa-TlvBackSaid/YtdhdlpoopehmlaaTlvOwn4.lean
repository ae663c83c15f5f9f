/- The program's own answers of chapter 8: FaultOf, ManageOf, PathOf. -/
import Derived.Test.YtdhdlpoopehmlaaTlvOwn
import Derived.Test.YtdhdlpoopehmlaaOctb
import Derived.Test.YtdhdlpoopehmlaaTlvRef4
import Derived.Test.YtdhdlpoopehmlaaTlvRef8
namespace Go.Proofs.Ytdhdlpoopehmlaa
open Go.RowKit Go.Proofs
set_option linter.unusedVariables false
set_option linter.unusedSimpArgs false

/-- 's[:A]'. -/
theorem head_str (s : List UInt8) (A : Nat) : (⟨s.toArray⟩ : ByteArray).extract 0 A = ⟨(s.take A).toArray⟩ := by
  apply ByteArray.ext
  simp [ByteArray.data_extract]

theorem numAt_take (s : List UInt8) (A a n : Nat) (h : a + n ≤ A) : numAt (s.take A) a n = numAt s a n := by
  unfold numAt
  rw [List.drop_take, List.take_take, Nat.min_eq_left (by omega)]

set_option maxRecDepth 100000 in
set_option maxHeartbeats 1600000 in
theorem faultOfT_any (c : Int) (s : List UInt8) (w : World) (hs : s.length ≤ 140737488355328) :
    Calls Try.prog 36 #[tlvV (c, s)] w fun e w' => e = .returned (.tuple #[.int .i64 ((faultOfT (c, s)).1 : Nat), .int .i64 ((faultOfT (c, s)).2.1 : Nat), .bool (faultOfT (c, s)).2.2]) ∧ Below w.heap.size w w' := by
  obtain ⟨W, hW, hbW, HX, HY⟩ := box_tlv w (c, s)
  have c0 := HX.out _ (Below.refl _ _)
  have c1 := HY.out _ (Below.refl _ _)
  have hK := knownAs_any c 2 s W (by omega)
  by_cases h2 : c = 2 ∧ 8 ≤ s.length
  · obtain ⟨rfl, h8⟩ := h2
    rw [show knownT (2, s) = decide (8 ≤ s.length) from rfl, decide_eq_true h8, show decide ((2 : Int) = 2) = true from rfl, Bool.and_self] at hK
    rw [show faultOfT (2, s) = (numAt s 0 2, numAt s 2 2, true) from if_pos ⟨rfl, h8⟩]
    have hS := head_str s 8
    have hl8 : (s.take 8).length = 8 := by rw [List.length_take]; omega
    have n1 := numAt_take s 8 0 2 (by decide)
    have n2 := numAt_take s 8 2 2 (by decide)
    generalize s.take 8 = t at *
    go_enter Try.func36, Try.ntmps36
    go_upto_region 1 with fail
    rw [← hW]
    clear hW
    go_wp2_with fail
    refine hK.mono ?_
    rintro e w1 ⟨rfl, hb1⟩
    have d0 := HX.out _ hb1
    have d1 := HY.out _ hb1
    have hbb := bnext hbW hb1
    clear hK c0 c1
    go_wp2_with (refine wpList_convert_str (o := ⟨some 16, _, _, _, _, _⟩) rfl _ rfl t rfl (by omega) ?_; intro v2 w2 hv2 hb2)
    refine (get_ok v2 t 0 2 w2 hv2 (by omega) (by decide) (by decide) (by decide) (standB_true (by decide) (by decide) (by omega))).mono ?_
    rintro e w' ⟨rfl, rfl⟩
    replace hbb := bnext hbb hb2
    go_wp2_with fail
    refine (get_ok v2 t 2 2 w2 hv2 (by omega) (by decide) (by decide) (by decide) (standB_true (by decide) (by decide) (by omega))).mono ?_
    rintro e w' ⟨rfl, rfl⟩
    rw [show numAt t (Int.toNat 2) (Int.toNat 2) = numAt s 2 2 from n2]
    go_wp2_with fail
    go_ret3
    exact ⟨rfl, hbb⟩
  · rw [show faultOfT (c, s) = (0, 0, false) from if_neg h2]
    have hf : (decide (c = 2) && knownT (c, s)) = false := by
      rw [Bool.and_eq_false_iff]
      by_cases hc : c = 2
      · subst hc
        exact .inr (decide_eq_false fun h => h2 ⟨rfl, h⟩)
      · exact .inl (decide_eq_false hc)
    rw [hf] at hK
    go_enter Try.func36, Try.ntmps36
    go_upto_region 1 with fail
    rw [← hW]
    clear hW
    go_wp2_with fail
    refine hK.mono ?_
    rintro e w1 ⟨rfl, hb1⟩
    go_wp2_with fail
    go_ret3
    exact ⟨rfl, bnext hbW hb1⟩

set_option maxRecDepth 100000 in
set_option maxHeartbeats 1600000 in
theorem manageOfT_any (c : Int) (s : List UInt8) (w : World) (hs : s.length ≤ 140737488355328) :
    Calls Try.prog 34 #[tlvV (c, s)] w fun e w' => e = .returned (.tuple #[.int .i64 ((manageOfT (c, s)).1 : Nat), sv (manageOfT (c, s)).2.1, .bool (manageOfT (c, s)).2.2]) ∧ Below w.heap.size w w' := by
  obtain ⟨W, hW, hbW, HX, HY⟩ := box_tlv w (c, s)
  have c0 := HX.out _ (Below.refl _ _)
  have c1 := HY.out _ (Below.refl _ _)
  have hK := knownAs_any c 1 s W (by omega)
  by_cases h2 : c = 1 ∧ 2 ≤ s.length
  · obtain ⟨rfl, h8⟩ := h2
    rw [show knownT (1, s) = decide (2 ≤ s.length) from rfl, decide_eq_true h8, show decide ((1 : Int) = 1) = true from rfl, Bool.and_self] at hK
    rw [show manageOfT (1, s) = (numAt s 0 2, s.drop 2, true) from if_pos ⟨rfl, h8⟩]
    have hS := head_str s 2
    have hl8 : (s.take 2).length = 2 := by rw [List.length_take]; omega
    have n1 := numAt_take s 2 0 2 (by decide)
    generalize s.take 2 = t at *
    go_enter Try.func34, Try.ntmps34
    go_upto_region 1 with fail
    rw [← hW]
    clear hW
    go_wp2_with fail
    refine hK.mono ?_
    rintro e w1 ⟨rfl, hb1⟩
    have d0 := HX.out _ hb1
    have d1 := HY.out _ hb1
    have hbb := bnext hbW hb1
    clear hK c0 c1
    go_wp2_with (refine wpList_convert_str (o := ⟨some 14, _, _, _, _, _⟩) rfl _ rfl t rfl (by omega) ?_; intro v2 w2 hv2 hb2)
    refine (get_ok v2 t 0 2 w2 hv2 (by omega) (by decide) (by decide) (by decide) (standB_true (by decide) (by decide) (by omega))).mono ?_
    rintro e w' ⟨rfl, rfl⟩
    rw [show numAt t (Int.toNat 0) (Int.toNat 2) = numAt s 0 2 from n1]
    have d1 := HY.out _ (bnext hb1 hb2)
    replace hbb := bnext hbb hb2
    clear d0 hS
    go_upto_region 4 with fail
    have hS := slice_str s h8
    go_quiet (fail)
    go_wp2_with fail
    go_ret3
    exact ⟨rfl, hbb.trans ⟨rfl, rfl, rfl, Nat.le_refl _, fun _ _ => rfl⟩⟩
  · rw [show manageOfT (c, s) = (0, [], false) from if_neg h2]
    have hf : (decide (c = 1) && knownT (c, s)) = false := by
      rw [Bool.and_eq_false_iff]
      by_cases hc : c = 1
      · subst hc
        exact .inr (decide_eq_false fun h => h2 ⟨rfl, h⟩)
      · exact .inl (decide_eq_false hc)
    rw [hf] at hK
    go_enter Try.func34, Try.ntmps34
    go_upto_region 1 with fail
    rw [← hW]
    clear hW
    go_wp2_with fail
    refine hK.mono ?_
    rintro e w1 ⟨rfl, hb1⟩
    go_wp2_with fail
    go_ret3
    exact ⟨rfl, bnext hbW hb1⟩

set_option maxRecDepth 100000 in
set_option maxHeartbeats 1600000 in
theorem pathOfT_any (c : Int) (s : List UInt8) (w : World) (hs : s.length ≤ 140737488355328) :
    Calls Try.prog 32 #[tlvV (c, s)] w fun e w' => ∃ v', e = .returned (.tuple #[v', .bool (pathOfT (c, s)).2]) ∧ OwnI w' w.heap.size v' (pathOfT (c, s)).1 ∧ Below w.heap.size w w' := by
  obtain ⟨W, hW, hbW, HX, HY⟩ := box_tlv w (c, s)
  have c0 := HX.out _ (Below.refl _ _)
  have c1 := HY.out _ (Below.refl _ _)
  have hK := knownAs_any c 8 s W (by omega)
  by_cases h2 : c = 8 ∧ (s.length % 8 = 0 ∧ s.length ≤ 128)
  · obtain ⟨rfl, h8⟩ := h2
    rw [show knownT (8, s) = decide (s.length % 8 = 0 ∧ s.length ≤ 128) from rfl, decide_eq_true h8, show decide ((8 : Int) = 8) = true from rfl, Bool.and_self] at hK
    rw [show pathOfT (8, s) = (idsOf s (s.length / 8), true) from if_pos ⟨rfl, h8⟩]
    obtain ⟨h8, h128⟩ := h8
    obtain ⟨m, hm⟩ : ∃ m, s.length = 8 * m := ⟨s.length / 8, by omega⟩
    rw [show s.length / 8 = m by omega]
    go_enter Try.func32, Try.ntmps32
    go_upto_region 1 with fail
    rw [← hW]
    clear hW
    go_wp2_with fail
    refine hK.mono ?_
    rintro e w1 ⟨rfl, hb1⟩
    have d1 := HY.out _ hb1
    clear hK c0 c1
    go_wp2_with (refine wpList_convert_str (o := ⟨some 14, _, _, _, _, _⟩) rfl _ rfl s rfl hs ?_; intro v2 w2 hv2 hb2)
    have hbb := bnext hb1 hb2
    have HV := hid fun (wx : World) (h : Below w2.heap.size w2 wx) => hv2.below h
    obtain ⟨p, cp, rfl, -, -, -⟩ := hv2
    clear d1
    have Hm := hid hm
    have H16 := hid (show m ≤ 16 by omega)
    clear hm h8 h128
    go_loopw [5, 6] (fun b i wr => ∃ k : Nat, k ≤ m ∧ i = .int .i64 (8 * k : Nat) ∧ OwnI wr w2.heap.size b (idsOf s k) ∧ Below w2.heap.size w2 wr) (fun _ i _ => 8 * m - (intOf i).toNat)
    case atStart => exact ⟨0, Nat.zero_le _, rfl, OwnI.nil _ _, Below.refl _ _⟩
    case round =>
      obtain ⟨k, hk, rfl, own, hbW2⟩ := hrel
      by_cases hlt : 8 * k < s.length
      · have hks : k + 1 ≤ m := by have := Hm.out; omega
        have hT : Hid (idsOf s (k + 1) = idsOf s k ++ [((numAt s (8 * k) 8 : Nat) : Int)]) := hid (idsOf_snoc s k)
        have hL := idsOf_length s k
        go_wp2_with fail
        refine (getId_ok _ s (8 * k : Nat) wr (HV.out _ hbW2) hs (by omega) (standB_true (by omega) (by decide) (by have := Hm.out; omega))).mono ?_
        rintro e w' ⟨rfl, rfl⟩
        rw [Int.toNat_natCast]
        generalize ((numAt s (8 * k) 8 : Nat) : Int) = z at *
        have o4 := own.below (bnew wr (Obj.cells #[.int .u64 z] 58))
        have x4 := ids_lit wr z
        have bW4 := bnext hbW2 (bnew wr (Obj.cells #[.int .u64 z] 58))
        have hs2 := hs
        have hm16 : m ≤ 16 := H16.out
        go_wp2_with (at_builtin; refine wpList_append_ids (o := ⟨some 30, _, _, _, _, _⟩) rfl _ _ rfl rfl w2.heap.size _ _ (idsOf s k) [z] rfl rfl o4 x4 ?_ bW4.size ?_; (simp only [hL, List.length_singleton]; omega); intro v5 w5 o5 b5; replace bW4 := bW4.trans b5)
        go_roundw
        case rel => exact ⟨k + 1, hks, by go_num, by rw [hT.out]; exact o5, bW4⟩
        case measure => simp [intOf]; omega
      · obtain rfl : k = m := by have := Hm.out; omega
        go_wp2_with fail
        go_ret2
        exact ⟨_, rfl, own.mono (bnext hbW hbb).size, bnext hbW (bnext hbb hbW2)⟩
  · rw [show pathOfT (c, s) = ([], false) from if_neg h2]
    have hf : (decide (c = 8) && knownT (c, s)) = false := by
      rw [Bool.and_eq_false_iff]
      by_cases hc : c = 8
      · subst hc
        exact .inr (decide_eq_false fun h => h2 ⟨rfl, h⟩)
      · exact .inl (decide_eq_false hc)
    rw [hf] at hK
    go_enter Try.func32, Try.ntmps32
    go_upto_region 1 with fail
    rw [← hW]
    clear hW
    go_wp2_with fail
    refine hK.mono ?_
    rintro e w1 ⟨rfl, hb1⟩
    go_wp2_with fail
    go_ret2
    exact ⟨_, rfl, OwnI.nil _ _, bnext hbW hb1⟩
end Go.Proofs.Ytdhdlpoopehmlaa
