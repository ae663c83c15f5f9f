/- The program's own answers of chapter 8: may, Find. -/
import Derived.Test.YtdhdlpoopehmlaaTlvOwn
import Derived.Test.YtdhdlpoopehmlaaTlvRef3
import Derived.Test.YtdhdlpoopehmlaaTlvRef9
namespace Go.Proofs.Ytdhdlpoopehmlaa
open Go.RowKit Go.Proofs
set_option linter.unusedVariables false
set_option linter.unusedSimpArgs false

set_option maxHeartbeats 1600000 in
theorem mayT_any (v : Value) (l : List T2) (w : World) (hB : Tlvs w v l) (hl : l.length ≤ 140737488355328) (hz : ∀ q ∈ l, q.2.length ≤ 140737488355328) :
    Calls Try.prog 40 #[v] w fun e w' => e = .returned (.bool (putT l).2) ∧ Below w.heap.size w w' := by
  obtain ⟨p, cap, rfl, hc, -, hat⟩ := hB
  have HAT := hid fun (wx : World) (h : Below w.heap.size w wx) => hat.below h
  have HZ := hid hz
  clear hat hc hz
  by_cases hok : l.length ≤ 8
  · have HN := hid (@putT_no l)
    have HY := hid (@putT_yes l hok)
    generalize putT l = F at *
    go_enter Try.func40, Try.ntmps40
    go_wp2_with fail
    go_loopw [10] (fun i wr => ∃ k : Nat, k ≤ l.length ∧ i = .int .i64 k ∧ Hid (∀ j (hj : j < l.length), j < k → checkT l[j] = true) ∧ Below w.heap.size w wr) (fun i _ => l.length - (intOf i).toNat)
    case atStart => exact ⟨0, Nat.zero_le _, rfl, hid fun j hj h => absurd h (Nat.not_lt_zero _), Below.refl _ _⟩
    case round =>
      obtain ⟨k, hk, rfl, hA, hb⟩ := hrel
      by_cases hlt : k < l.length
      · obtain ⟨b, off, rfl, hrow⟩ := (HAT.out _ hb).row (by omega)
        obtain ⟨c, s, hq, H1, H2⟩ := hrow.get k hlt
        have N := Box.new wr [.int .i64 0, .string ⟨#[]⟩] 32
        have nb := bnew wr (Obj.cells #[.int .i64 0, .string ⟨#[]⟩] 32)
        have c1 := H1.out _ (Below.refl _ _)
        have c2 := H2.out _ (Below.refl _ _)
        have hsz := HZ.out l[k] (List.getElem_mem hlt)
        rw [hq] at hsz
        have HQ : Hid (l[k] = (c, s)) := hid hq
        have HS := hid hsz
        clear hrow hq hsz
        have hks : k + 1 ≤ l.length := hlt
        go_upto_region 6 with (guard_target =~ wpList _ _ _ (⟨none, _, _, _, _, _⟩ :: _) _ _; refine wpList_store_tlv (op := ⟨none, .store _ _ _, _, _, _, _⟩) (by rfl) _ _ (by rfl) wr.heap.size (c, s) (tL (0, [])) _ (by rfl) (by rfl) N rfl ?_; have B := N.rowT (tL (c, s)); replace nb := below_setRow nb (Nat.le_refl _) (tL (c, s)).toArray; generalize World.setRow _ _ _ = W at *; generalize hg : wr.heap.size = g at *)
        clear N c1 c2
        have nc : Below wr.heap.size wr W := by rw [hg]; exact nb
        replace hb := bnext hb nc
        have y := B.cell 0 _ rfl
        have z := B.cell 1 _ rfl
        clear nb nc
        go_wp2_with fail
        refine (checkT_any c s W (by have := HS.out; omega)).mono ?_
        rintro e w1 ⟨rfl, b1⟩
        cases hck : checkT (c, s) with
        | true =>
          go_wp2_with fail
          go_roundw
          case rel =>
            refine ⟨k + 1, hks, by go_num, hid fun j hj h => ?_, bnext hb b1⟩
            by_cases hjk : j = k
            · subst hjk
              rw [HQ.out]
              exact hck
            · exact hA.out j hj (by omega)
          case measure => simp [intOf]; omega
        | false =>
          have hF := HN.out k hlt (by rw [HQ.out]; exact hck)
          subst hF
          go_wp2_with fail
          go_ret
          exact ⟨rfl, bnext hb b1⟩
      · have hF := HY.out fun j hj => hA.out j hj (by omega)
        subst hF
        go_wp2_with fail
        go_ret
        exact ⟨rfl, hb⟩
  · rw [putT_many hok]
    go_enter Try.func40, Try.ntmps40
    go_wp2_with fail
    go_ret
    exact ⟨rfl, Below.refl _ _⟩

set_option maxHeartbeats 1600000 in
theorem findT_any (v : Value) (l : List T2) (t : Int) (w : World) (hB : Tlvs w v l) (hl : l.length ≤ 140737488355328) :
    Calls Try.prog 19 #[v, .int .i64 t] w fun e w' => e = .returned (.tuple #[tlvV (findT l t).1, .bool (findT l t).2]) ∧ Below w.heap.size w w' := by
  obtain ⟨p, cap, rfl, hc, -, hat⟩ := hB
  have HAT := hid fun (wx : World) (h : Below w.heap.size w wx) => hat.below h
  have HY := hid (@findT_yes l t)
  have HN := hid (@findT_no l t)
  clear hat hc
  generalize findT l t = F at *
  go_enter Try.func19, Try.ntmps19
  go_wp2_with fail
  have hbW := bnew w (Obj.cells #[.int .i64 0, .string ⟨#[]⟩] 32)
  have hBox := Box.new w [.int .i64 0, .string ⟨#[]⟩] 32
  generalize hG : w.heap.size = G at *
  generalize w.alloc (Obj.cells #[.int .i64 0, .string ⟨#[]⟩] 32) = W at *
  have hGW : G < W.heap.size := hBox.lt
  have HBox := hid fun (wx : World) (h : Below W.heap.size W wx) => hBox.below h
  have HbW := hid fun (wx : World) (h : Below W.heap.size W wx) => hbW.trans (h.mono (Nat.le_of_lt hGW))
  clear hBox hbW
  go_loopw [10] (fun i wr => ∃ k : Nat, k ≤ l.length ∧ i = .int .i64 k ∧ Hid (∀ j (hj : j < l.length), j < k → (l[j]).1 ≠ t) ∧ Below W.heap.size W wr) (fun i _ => l.length - (intOf i).toNat)
  case atStart => exact ⟨0, Nat.zero_le _, rfl, hid fun j hj h => absurd h (Nat.not_lt_zero _), Below.refl _ _⟩
  case round =>
    obtain ⟨k, hk, rfl, hA, hb⟩ := hrel
    by_cases hlt : k < l.length
    · obtain ⟨b, off, rfl, hrow⟩ := (HAT.out _ (HbW.out _ hb)).row (by omega)
      obtain ⟨c, s, hq, H1, H2⟩ := hrow.get k hlt
      have N := Box.new wr [.int .i64 0, .string ⟨#[]⟩] 32
      have nb := bnew wr (Obj.cells #[.int .i64 0, .string ⟨#[]⟩] 32)
      have c1 := H1.out _ (Below.refl _ _)
      have c2 := H2.out _ (Below.refl _ _)
      have HQ : Hid (l[k] = (c, s)) := hid hq
      clear hrow hq
      have hks : k + 1 ≤ l.length := hlt
      go_upto_region 4 with (guard_target =~ wpList _ _ _ (⟨none, _, _, _, _, _⟩ :: _) _ _; refine wpList_store_tlv (op := ⟨none, .store _ _ _, _, _, _, _⟩) (by rfl) _ _ (by rfl) wr.heap.size (c, s) (tL (0, [])) _ (by rfl) (by rfl) N rfl ?_; have B := N.rowT (tL (c, s)); replace nb := below_setRow nb (Nat.le_refl _) (tL (c, s)).toArray; generalize World.setRow _ _ _ = W2 at *; generalize hg : wr.heap.size = g at *)
      clear N c1 c2
      have nc : Below wr.heap.size wr W2 := by rw [hg]; exact nb
      replace hb := bnext hb nc
      have y := B.cell 0 _ rfl
      have z := B.cell 1 _ rfl
      have hBox := HBox.out _ hb
      have hbW := HbW.out _ hb
      clear nb nc
      by_cases hs : c = t
      · subst hs
        have F' := HY.out k hlt hA.out (by rw [HQ.out])
        rw [HQ.out] at F'
        subst F'
        go_wp2_with (guard_target =~ wpList _ _ _ (⟨none, _, _, _, _, _⟩ :: _) _ _; refine wpList_store_tlv (op := ⟨none, .store _ _ _, _, _, _, _⟩) (by rfl) _ _ (by rfl) G (c, s) (tL (0, [])) _ (by rfl) (by rfl) hBox rfl ?_)
        exact bodyPost_ret (v := .tuple #[tlvV (c, s), .bool true]) (results_tlv_two (p := 4) (u := 5) rfl _ _ G _ (c, s) rfl (hBox.rowT _)) rfl ⟨rfl, below_setRow hbW (Nat.le_refl _) _⟩
      · have hI : (c == t) = false := beq_false_of_ne hs
        go_wp2_with fail
        go_roundw
        case rel =>
          refine ⟨k + 1, hks, by go_num, hid fun j hj h => ?_, hb⟩
          by_cases hjk : j = k
          · subst hjk
            rw [HQ.out]
            exact hs
          · exact hA.out j hj (by omega)
        case measure => simp [intOf]; omega
    · have F' := HN.out fun j hj => hA.out j hj (by omega)
      subst F'
      have hBox := HBox.out _ hb
      have hbW := HbW.out _ hb
      go_wp2_with (guard_target =~ wpList _ _ _ (⟨none, _, _, _, _, _⟩ :: _) _ _; refine wpList_store_tlv (op := ⟨none, .store _ _ _, _, _, _, _⟩) (by rfl) _ _ (by rfl) G (0, []) (tL (0, [])) _ (by rfl) (by rfl) hBox rfl ?_)
      exact bodyPost_ret (v := .tuple #[tlvV (0, []), .bool false]) (results_tlv_two (p := 4) (u := 5) rfl _ _ G _ (0, []) rfl (hBox.rowT _)) rfl ⟨rfl, below_setRow hbW (Nat.le_refl _) _⟩
end Go.Proofs.Ytdhdlpoopehmlaa
