/- The program's own answers of chapter 8: may, Find. -/
import Derived.Test.YtohgpnlihfcecaaTlvOwn
import Derived.Test.YtohgpnlihfcecaaB6
import Derived.Test.YtohgpnlihfcecaaTlvRef9
namespace Go.Proofs.Ytohgpnlihfcecaa
open Go.RowKit Go.Proofs
set_option maxRecDepth 50000
set_option linter.unusedVariables false
set_option linter.unusedSimpArgs false

set_option maxHeartbeats 1600000 in
theorem mayT_any (v : Value) (l : List T2) (w : World) (hB : Tlvs w v l) (hl : l.length ≤ 140737488355328) (hz : ∀ q ∈ l, q.2.length ≤ 140737488355328) :
    Calls Try.prog 38 #[v] w fun e w' => e = .returned (.bool (putT l).2) ∧ Below w.heap.size w w' := by
  obtain ⟨p, cap, rfl, hc, -, hat⟩ := hB
  have HAT := hid fun (wx : World) (h : Below w.heap.size w wx) => hat.below h
  have HZ := hid hz
  clear hat hc hz
  by_cases hok : l.length ≤ 8
  · have HN := hid (@putT_no l)
    have HY := hid (@putT_yes l hok)
    generalize putT l = F at *
    go_enter Try.func38, Try.ntmps38
    go_wp2_with fail
    go_loopw [10] (fun i wr => ∃ k : Nat, k ≤ l.length ∧ i = .int .i64 k ∧ Hid (∀ j (hj : j < l.length), j < k → checkT l[j] = true) ∧ Below w.heap.size w wr) (fun i _ => l.length - (intOf i).toNat)
    case atStart => exact ⟨0, Nat.zero_le _, rfl, hid fun j hj h => absurd h (Nat.not_lt_zero _), Below.refl _ _⟩
    case round =>
      obtain ⟨k, hk, rfl, hA, hb⟩ := hrel
      by_cases hlt : k < l.length
      · obtain ⟨b, off, rfl, hrow⟩ := (HAT.out _ hb).row (by omega)
        obtain ⟨c, s, hq, H1, H2⟩ := hrow.get k hlt
        have N := Box.new wr [.int .i64 0, .string ⟨#[]⟩] 47
        have nb := bnew wr (Obj.cells #[.int .i64 0, .string ⟨#[]⟩] 47)
        have c1 := H1.out _ (Below.refl _ _)
        have c2 := H2.out _ (Below.refl _ _)
        have hsz := HZ.out l[k] (List.getElem_mem hlt)
        rw [hq] at hsz
        have HQ : Hid (l[k] = (c, s)) := hid hq
        have HS := hid hsz
        clear hrow hq hsz
        have hks : k + 1 ≤ l.length := hlt
        go_upto_region 6 with (guard_target =~ wpList _ _ _ (⟨none, _, _, _, _, _⟩ :: _) _ _; refine wpList_store_tlv (op := ⟨none, .store _ _ _, _, _, _, _⟩) (by rfl) _ _ (by rfl) wr.heap.size (c, s) (tL (0, [])) _ (by rfl) (by rfl) N rfl ?_; have B := N.rowT (tL (c, s)); replace nb := below_setRow nb (Nat.le_refl _) (tL (c, s)).toArray; generalize World.setRow _ _ _ = W at *; generalize hg : wr.heap.size = g at *)
        clear N c1 c2
        have nc : Below wr.heap.size wr W := by rw [hg]; exact nb
        replace hb := bnext hb nc
        have y := B.cell 0 _ rfl
        have z := B.cell 1 _ rfl
        clear nb nc
        go_wp2_with fail
        refine (checkT_any c s W (by have := HS.out; omega)).mono ?_
        rintro e w1 ⟨rfl, b1⟩
        cases hck : checkT (c, s) with
        | true =>
          go_wp2_with fail
          go_roundw
          case rel =>
            refine ⟨k + 1, hks, by go_num, hid fun j hj h => ?_, bnext hb b1⟩
            by_cases hjk : j = k
            · subst hjk
              rw [HQ.out]
              exact hck
            · exact hA.out j hj (by omega)
          case measure => simp [intOf]; omega
        | false =>
          have hF := HN.out k hlt (by rw [HQ.out]; exact hck)
          subst hF
          go_wp2_with fail
          go_ret
          exact ⟨rfl, bnext hb b1⟩
      · have hF := HY.out fun j hj => hA.out j hj (by omega)
        subst hF
        go_wp2_with fail
        go_ret
        exact ⟨rfl, hb⟩
  · rw [putT_many hok]
    go_enter Try.func38, Try.ntmps38
    go_wp2_with fail
    go_ret
    exact ⟨rfl, Below.refl _ _⟩

end Go.Proofs.Ytohgpnlihfcecaa
