/- The program's own answers of chapter 8: Path, Fault, FaultOf, ManageOf. -/
import Derived.Test.YtdhdlpoopehmlaaTlvOwn
import Derived.Test.YtdhdlpoopehmlaaOctb
import Derived.Test.YtdhdlpoopehmlaaTlvRef4
import Derived.Test.YtdhdlpoopehmlaaTlvRef5
import Derived.Test.YtdhdlpoopehmlaaTlvRef7
namespace Go.Proofs.Ytdhdlpoopehmlaa
open Go.RowKit Go.Proofs
set_option linter.unusedVariables false
set_option linter.unusedSimpArgs false

set_option maxRecDepth 100000 in
set_option maxHeartbeats 1600000 in
theorem pathT_any (v : Value) (zs : List Int) (w : World) (hB : Ids w v zs) (hl : zs.length ≤ 140737488355328) (hz : ∀ z ∈ zs, 0 ≤ z ∧ z < 18446744073709551616) :
    Calls Try.prog 25 #[v] w fun r w' => r = .returned (.tuple #[tlvV (pathT zs).1, .bool (pathT zs).2]) ∧ Below w.heap.size w w' := by
  obtain ⟨p, cap, rfl, hc, -, hat⟩ := hB
  have HAT := hid fun (wx : World) (h : Below w.heap.size w wx) => hat.below h
  have HZ := hid hz
  have hbW := bnew w (Obj.cells #[.int .i64 0, .string ⟨#[]⟩] 32)
  have hBox := Box.new w [.int .i64 0, .string ⟨#[]⟩] 32
  clear hat hc hz
  by_cases hok : zs.length ≤ 16
  · rw [show pathT zs = ((8, flatI zs), true) from if_pos hok]
    go_enter Try.func25, Try.ntmps25
    go_upto_region 1 with fail
    generalize hG : w.heap.size = G at *
    generalize w.alloc (Obj.cells #[.int .i64 0, .string ⟨#[]⟩] 32) = W at *
    have hGW : G < W.heap.size := hBox.lt
    have hsz := hbW.size
    go_wp2_with fail
    go_loopw [4, 13] (fun b i wr => ∃ k : Nat, k ≤ zs.length ∧ i = .int .i64 k ∧ Own wr W.heap.size b (flatI (zs.take k)) ∧ Below W.heap.size W wr) (fun _ i _ => zs.length - (intOf i).toNat)
    case atStart => exact ⟨0, Nat.zero_le _, rfl, Own.nil _ _, Below.refl _ _⟩
    case round =>
      obtain ⟨k, hk, rfl, own, hb⟩ := hrel
      by_cases hlt : k < zs.length
      · obtain ⟨b, off, rfl, hrow⟩ := (HAT.out _ (hbW.trans (hb.mono (Nat.le_of_lt hGW)))).row (by omega)
        obtain ⟨c, hq⟩ : ∃ c, zs[k] = c := ⟨_, rfl⟩
        have h1 : wr.cell? ⟨b, off + k, none⟩ = some (.int .u64 c) := by rw [hrow wr (Below.refl _ _) k hlt, hq]
        have hcz := HZ.out zs[k] (List.getElem_mem hlt)
        rw [hq] at hcz
        have hT : Hid (flatI (zs.take (k + 1)) = flatI (zs.take k) ++ putN c.toNat 8) := hid (by rw [take_snoc zs k hlt, flatI_snoc, hq])
        have hL : (flatI (zs.take k)).length ≤ 128 := by rw [flatI_length, List.length_take]; omega
        clear hrow hq
        have hks : k + 1 ≤ zs.length := hlt
        go_wp2_with fail
        refine (putId_any _ (flatI (zs.take k)) c wr own.bytes (by omega) hcz.1).mono ?_
        rintro _ w1 ⟨v1, rfl, o1, b1⟩
        replace o1 := o1.mono hb.size
        replace hb := bnext hb b1
        go_wp2_with fail
        go_roundw
        case rel => exact ⟨k + 1, hks, by go_num, by rw [hT.out]; exact o1, hb⟩
        case measure => simp [intOf]; omega
      · have hke : k = zs.length := by omega
        subst hke
        rw [List.take_length] at own
        have hS := own.bytes.str
        have hBox5 := hBox.below hb
        go_wp2_with (guard_target =~ wpList _ _ _ (⟨none, _, _, _, _, _⟩ :: _) _ _; refine wpList_store_tlv (op := ⟨none, .store _ _ _, _, _, _, _⟩) (by rfl) _ _ (by rfl) G (8, flatI zs) (tL (0, [])) _ (by rfl) (by rfl) hBox5 rfl ?_)
        exact bodyPost_ret (v := .tuple #[tlvV (8, flatI zs), .bool true]) (results_tlv_two (p := 2) (u := 3) rfl _ _ G _ (8, flatI zs) rfl (hBox5.rowT _)) rfl ⟨rfl, by rw [hG]; exact below_setRow (hbW.trans (hb.mono (Nat.le_of_lt hGW))) (Nat.le_refl _) _⟩
  · rw [show pathT zs = ((0, []), false) from if_neg hok]
    go_enter Try.func25, Try.ntmps25
    go_upto_region 1 with fail
    generalize hG : w.heap.size = G at *
    generalize w.alloc (Obj.cells #[.int .i64 0, .string ⟨#[]⟩] 32) = W at *
    go_wp2_with (guard_target =~ wpList _ _ _ (⟨none, _, _, _, _, _⟩ :: _) _ _; refine wpList_store_tlv (op := ⟨none, .store _ _ _, _, _, _, _⟩) (by rfl) _ _ (by rfl) G (0, []) (tL (0, [])) _ (by rfl) (by rfl) hBox rfl ?_)
    exact bodyPost_ret (v := .tuple #[tlvV (0, []), .bool false]) (results_tlv_two (p := 2) (u := 3) rfl _ _ G _ (0, []) rfl (hBox.rowT _)) rfl ⟨rfl, by rw [hG]; exact below_setRow hbW (Nat.le_refl _) _⟩

set_option maxRecDepth 100000 in
set_option maxHeartbeats 1600000 in
theorem faultT_any (e i : Int) (w : World) :
    Calls Try.prog 30 #[.int .i64 e, .int .i64 i] w fun r w' => r = .returned (.tuple #[tlvV (faultT e i).1, .bool (faultT e i).2]) ∧ Below w.heap.size w w' := by
  have hbW := bnew w (Obj.cells #[.int .i64 0, .string ⟨#[]⟩] 32)
  have hBox := Box.new w [.int .i64 0, .string ⟨#[]⟩] 32
  have HF : Hid (faultT e i = if fitB e = true ∧ fitB i = true then ((2, (putS e 2 ++ putS i 2) ++ putS 0 4), true) else ((0, []), false)) := hid (by
    unfold faultT fitB
    simp only [Bool.and_eq_true, decide_eq_true_eq, List.append_assoc]
    rfl)
  generalize faultT e i = F at *
  have hE := tfits_any e
  have hI := tfits_any i
  cases he : fitB e with
  | true =>
    rw [he] at HF hE
    cases hi : fitB i with
    | true =>
      rw [hi] at HF hI
      rw [if_pos ⟨rfl, rfl⟩] at HF
      have l1 : (putS e 2).length = 2 := putS_length _ 2 (by decide) (by decide)
      have l2 : (putS i 2).length = 2 := putS_length _ 2 (by decide) (by decide)
      have l3 : (putS 0 4).length = 4 := putS_length _ 4 (by decide) (by decide)
      go_enter Try.func30, Try.ntmps30
      go_upto_region 1 with fail
      generalize hG : w.heap.size = G at *
      generalize w.alloc (Obj.cells #[.int .i64 0, .string ⟨#[]⟩] 32) = W at *
      have hGW : G < W.heap.size := hBox.lt
      go_wp2_with fail
      refine (hE W).mono ?_
      rintro _ w' ⟨rfl, rfl⟩
      go_wp2_with fail
      refine (hI W).mono ?_
      rintro _ w' ⟨rfl, rfl⟩
      clear hE hI
      go_wp2_with fail
      refine (put_any (.slice none 0 0) [] e 2 W (Bytes.nil W) (by decide)).mono ?_
      rintro _ w1 ⟨v1, rfl, o1, b1⟩
      rw [List.nil_append] at o1
      generalize putS e 2 = pe at *
      generalize hpi : putS i 2 = pi at *
      go_wp2_with fail
      refine (put_any v1 pe i 2 w1 o1.bytes (by omega)).mono ?_
      rintro _ w2 ⟨v2, rfl, o2, b2⟩
      rw [hpi] at o2
      have hb2 := bnext b1 b2
      have l4 : (pe ++ pi).length = 4 := by rw [List.length_append, l1, l2]
      generalize pe ++ pi = q at *
      go_wp2_with fail
      refine (put_any v2 q 0 4 w2 o2.bytes (by omega)).mono ?_
      rintro _ w3 ⟨v3, rfl, o3, b3⟩
      have hb3 := bnext hb2 b3
      have hS := o3.bytes.str
      have hBox5 := hBox.below hb3
      generalize hL : q ++ putS 0 4 = L at *
      go_wp2_with (guard_target =~ wpList _ _ _ (⟨none, _, _, _, _, _⟩ :: _) _ _; refine wpList_store_tlv (op := ⟨none, .store _ _ _, _, _, _, _⟩) (by rfl) _ _ (by rfl) G (2, L) (tL (0, [])) _ (by rfl) (by rfl) hBox5 rfl ?_)
      exact bodyPost_ret (v := .tuple #[tlvV (2, L), .bool true]) (results_tlv_two (p := 4) (u := 5) rfl _ _ G _ (2, L) rfl (hBox5.rowT _)) rfl ⟨by rw [HF.out], by rw [hG]; exact below_setRow (hbW.trans (hb3.mono (Nat.le_of_lt hGW))) (Nat.le_refl _) _⟩
    | false =>
      rw [hi] at HF hI
      rw [if_neg (by simp)] at HF
      go_enter Try.func30, Try.ntmps30
      go_upto_region 1 with fail
      generalize hG : w.heap.size = G at *
      generalize w.alloc (Obj.cells #[.int .i64 0, .string ⟨#[]⟩] 32) = W at *
      go_wp2_with fail
      refine (hE W).mono ?_
      rintro _ w' ⟨rfl, rfl⟩
      go_wp2_with fail
      refine (hI W).mono ?_
      rintro _ w' ⟨rfl, rfl⟩
      clear hE hI
      go_wp2_with (guard_target =~ wpList _ _ _ (⟨none, _, _, _, _, _⟩ :: _) _ _; refine wpList_store_tlv (op := ⟨none, .store _ _ _, _, _, _, _⟩) (by rfl) _ _ (by rfl) G (0, []) (tL (0, [])) _ (by rfl) (by rfl) hBox rfl ?_)
      exact bodyPost_ret (v := .tuple #[tlvV (0, []), .bool false]) (results_tlv_two (p := 4) (u := 5) rfl _ _ G _ (0, []) rfl (hBox.rowT _)) rfl ⟨by rw [HF.out], by rw [hG]; exact below_setRow hbW (Nat.le_refl _) _⟩
  | false =>
    rw [he] at HF hE
    rw [if_neg (by simp)] at HF
    go_enter Try.func30, Try.ntmps30
    go_upto_region 1 with fail
    generalize hG : w.heap.size = G at *
    generalize w.alloc (Obj.cells #[.int .i64 0, .string ⟨#[]⟩] 32) = W at *
    go_wp2_with fail
    refine (hE W).mono ?_
    rintro _ w' ⟨rfl, rfl⟩
    clear hE hI
    go_wp2_with (guard_target =~ wpList _ _ _ (⟨none, _, _, _, _, _⟩ :: _) _ _; refine wpList_store_tlv (op := ⟨none, .store _ _ _, _, _, _, _⟩) (by rfl) _ _ (by rfl) G (0, []) (tL (0, [])) _ (by rfl) (by rfl) hBox rfl ?_)
    exact bodyPost_ret (v := .tuple #[tlvV (0, []), .bool false]) (results_tlv_two (p := 4) (u := 5) rfl _ _ G _ (0, []) rfl (hBox.rowT _)) rfl ⟨by rw [HF.out], by rw [hG]; exact below_setRow hbW (Nat.le_refl _) _⟩
end Go.Proofs.Ytdhdlpoopehmlaa
