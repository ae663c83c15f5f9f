/- The document's own PathOf (chapter 8). -/
import Derived.Test.YtdhdlpoopehmlaaTlvRef2
import Derived.Test.YtdhdlpoopehmlaaTlvBox
import Derived.Test.YtdhdlpoopehmlaaOctId
import Derived.Test.YtdhdlpoopehmlaaStrB
import Derived.Test.YtdhdlpoopehmlaaIds
namespace Go.Proofs.Ytdhdlpoopehmlaa
open Go.RowKit Go.Proofs
set_option linter.unusedVariables false
set_option linter.unusedSimpArgs false

/-- The identities that bytes say, k of them. -/
def idsOf (s : List UInt8) (k : Nat) : List Int := (List.range k).map fun j => ((numAt s (8 * j) 8 : Nat) : Int)

theorem idsOf_snoc (s : List UInt8) (k : Nat) : idsOf s (k + 1) = idsOf s k ++ [((numAt s (8 * k) 8 : Nat) : Int)] := by simp [idsOf, List.range_succ]

theorem idsOf_length (s : List UInt8) (k : Nat) : (idsOf s k).length = k := by simp [idsOf]

/-- A path that a TLV tells. -/
def pathOfT (q : T2) : List Int × Bool := if q.1 = 8 ∧ (q.2.length % 8 = 0 ∧ q.2.length ≤ 128) then (idsOf q.2 (q.2.length / 8), true) else ([], false)

theorem ids_lit (w : World) (z : Int) : Ids (w.alloc (Obj.cells #[.int .u64 z] 58)) (.slice (some ⟨w.heap.size, 0, none⟩) 1 1) [z] := by
  have hB := Box.new w [.int .u64 z] 58
  exact ⟨some ⟨w.heap.size, 0, none⟩, 1, rfl, by simp, by unfold maxLen; omega, .inr ⟨w.heap.size, 0, rfl, hB.lt, fun j v hj => by rw [Nat.zero_add]; exact hB.cell j v hj⟩⟩

theorem OwnI.below {w w' : World} {base : Nat} {v : Value} {l : List Int} (h : OwnI w base v l) (hb : Below w.heap.size w w') : OwnI w' base v l := by
  obtain ⟨h1, h2⟩ := h
  refine ⟨h1, ?_⟩
  rcases h2 with h2 | ⟨g, cap, cur, hv, hg, hh, r⟩
  · exact .inl h2
  · exact .inr ⟨g, cap, cur, hv, hg, by rw [hb.block g (Array.getElem?_eq_some_iff.1 hh).1]; exact hh, r⟩

theorem OwnI.mono {w : World} {base base' : Nat} {v : Value} {l : List Int} (h : OwnI w base v l) (hb : base' ≤ base) : OwnI w base' v l := by
  obtain ⟨h1, h2⟩ := h
  refine ⟨h1, ?_⟩
  rcases h2 with h2 | ⟨g, cap, cur, hv, hg, r⟩
  · exact .inl h2
  · exact .inr ⟨g, cap, cur, hv, Nat.le_trans hb hg, r⟩

set_option maxRecDepth 100000 in
set_option maxHeartbeats 1600000 in
theorem refPathOf_any (c : Int) (s : List UInt8) (w : World) (hs : s.length ≤ 140737488355328) :
    Calls Try.prog 33 #[tlvV (c, s)] w fun e w' => ∃ v', e = .returned (.tuple #[v', .bool (pathOfT (c, s)).2]) ∧ OwnI w' w.heap.size v' (pathOfT (c, s)).1 ∧ Below w.heap.size w w' := by
  obtain ⟨W, hW, hbW, HX, HY⟩ := box_tlv w (c, s)
  have c0 := HX.out _ (Below.refl _ _)
  have c1 := HY.out _ (Below.refl _ _)
  by_cases h2 : c = 8
  · subst h2
    have hK := refKnownT_any 8 s W (by omega)
    rw [show knownT (8, s) = decide (s.length % 8 = 0 ∧ s.length ≤ 128) from rfl] at hK
    by_cases h8 : s.length % 8 = 0 ∧ s.length ≤ 128
    · rw [decide_eq_true h8] at hK
      rw [show pathOfT (8, s) = (idsOf s (s.length / 8), true) from if_pos ⟨rfl, h8⟩]
      obtain ⟨h8, h128⟩ := h8
      obtain ⟨m, hm⟩ : ∃ m, s.length = 8 * m := ⟨s.length / 8, by omega⟩
      rw [show s.length / 8 = m by omega]
      go_enter Try.func33, Try.ntmps33
      go_upto_region 1 with fail
      rw [← hW]
      clear hW
      go_wp2_with fail
      refine hK.mono ?_
      rintro e w1 ⟨rfl, hb1⟩
      have hbb := bnext hbW hb1
      clear hK c0 c1
      go_wp2_with fail
      go_loopw [4, 5] (fun b i wr => ∃ k : Nat, k ≤ m ∧ i = .int .i64 (8 * k : Nat) ∧ OwnI wr W.heap.size b (idsOf s k) ∧ Below W.heap.size W wr) (fun _ i _ => 8 * m - (intOf i).toNat)
      case atStart => exact ⟨0, Nat.zero_le _, rfl, OwnI.nil _ _, hb1⟩
      case round =>
        obtain ⟨k, hk, rfl, own, hbW2⟩ := hrel
        have d0 := HY.out _ hbW2
        by_cases hlt : k < m
        · have hks : k + 1 ≤ m := hlt
          have hT : Hid (idsOf s (k + 1) = idsOf s k ++ [((numAt s (8 * k) 8 : Nat) : Int)]) := hid (idsOf_snoc s k)
          have hL := idsOf_length s k
          go_wp2_with (refine wpList_convert_str (o := ⟨some 26, _, _, _, _, _⟩) rfl _ rfl s rfl hs ?_; intro v2 w2 hv2 hb2)
          refine (refId8_ok v2 s (8 * k : Nat) w2 hv2 hs (by omega) (standB_true (by omega) (by decide) (by omega))).mono ?_
          rintro e w' ⟨rfl, rfl⟩
          rw [Int.toNat_natCast]
          replace hbW2 := bnext hbW2 hb2
          replace own := own.below hb2
          generalize ((numAt s (8 * k) 8 : Nat) : Int) = z at *
          have o4 := own.below (bnew w2 (Obj.cells #[.int .u64 z] 58))
          have x4 := ids_lit w2 z
          have bW4 := bnext hbW2 (bnew w2 (Obj.cells #[.int .u64 z] 58))
          go_wp2_with (at_builtin; refine wpList_append_ids (o := ⟨some 34, _, _, _, _, _⟩) rfl _ _ rfl rfl W.heap.size _ _ (idsOf s k) [z] rfl rfl o4 x4 ?_ bW4.size ?_; (simp only [hL, List.length_singleton]; omega); intro v5 w5 o5 b5; replace bW4 := bW4.trans b5)
          go_roundw
          case rel => exact ⟨k + 1, hks, by go_num, by rw [hT.out]; exact o5, bW4⟩
          case measure => simp [intOf]; omega
        · obtain rfl : k = m := by omega
          go_wp2_with fail
          go_ret2
          exact ⟨_, rfl, own.mono hbW.size, bnext hbW hbW2⟩
    · rw [decide_eq_false h8] at hK
      rw [show pathOfT (8, s) = ([], false) from if_neg (fun h => h8 h.2)]
      go_enter Try.func33, Try.ntmps33
      go_upto_region 1 with fail
      rw [← hW]
      clear hW
      go_wp2_with fail
      refine hK.mono ?_
      rintro e w1 ⟨rfl, hb1⟩
      go_wp2_with fail
      go_ret2
      exact ⟨_, rfl, OwnI.nil _ _, bnext hbW hb1⟩
  · rw [show pathOfT (c, s) = ([], false) from if_neg (fun h => h2 h.1)]
    have hI : (c == 8) = false := beq_false_of_ne h2
    go_enter Try.func33, Try.ntmps33
    go_upto_region 1 with fail
    rw [← hW]
    clear hW
    go_wp2_with fail
    go_ret2
    exact ⟨_, rfl, OwnI.nil _ _, hbW⟩
end Go.Proofs.Ytdhdlpoopehmlaa
