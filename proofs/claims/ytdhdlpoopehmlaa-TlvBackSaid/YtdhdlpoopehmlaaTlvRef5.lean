/- The document's own Fault (chapter 8). -/
import Derived.Test.YtdhdlpoopehmlaaTlvBox
import Derived.Test.YtdhdlpoopehmlaaOctRef
import Derived.Test.YtdhdlpoopehmlaaAppS
namespace Go.Proofs.Ytdhdlpoopehmlaa
open Go.RowKit Go.Proofs
set_option linter.unusedVariables false
set_option linter.unusedSimpArgs false

/-- The TLV that tells an error. -/
def faultT (e i : Int) : T2 × Bool := if (0 ≤ e ∧ e ≤ 65535) ∧ (0 ≤ i ∧ i ≤ 65535) then ((2, putS e 2 ++ (putS i 2 ++ [0, 0, 0, 0])), true) else ((0, []), false)

set_option maxRecDepth 100000 in
set_option maxHeartbeats 1600000 in
theorem refFault_any (e i : Int) (w : World) :
    Calls Try.prog 31 #[.int .i64 e, .int .i64 i] w fun r w' => r = .returned (.tuple #[tlvV (faultT e i).1, .bool (faultT e i).2]) ∧ Below w.heap.size w w' := by
  have hbW := bnew w (Obj.cells #[.int .i64 0, .string ⟨#[]⟩] 32)
  have hBox := Box.new w [.int .i64 0, .string ⟨#[]⟩] 32
  by_cases hok : (0 ≤ e ∧ e ≤ 65535) ∧ (0 ≤ i ∧ i ≤ 65535)
  · rw [show faultT e i = ((2, putS e 2 ++ (putS i 2 ++ [0, 0, 0, 0])), true) from if_pos hok]
    have l1 : (putS e 2).length = 2 := putS_length _ 2 (by decide) (by decide)
    have l2 : (putS i 2).length = 2 := putS_length _ 2 (by decide) (by decide)
    obtain ⟨⟨h0, h1⟩, h2, h3⟩ := hok
    go_enter Try.func31, Try.ntmps31
    go_upto_region 1 with fail
    generalize hG : w.heap.size = G at *
    generalize w.alloc (Obj.cells #[.int .i64 0, .string ⟨#[]⟩] 32) = W at *
    go_wp2_with fail
    refine (refPut_any e 2 W).mono ?_
    rintro _ w1 ⟨v1, rfl, o1, b1⟩
    go_wp2_with fail
    refine (refPut_any i 2 w1).mono ?_
    rintro _ w2 ⟨v2, rfl, o2, b2⟩
    have b12 := bnext b1 b2
    replace o1 := o1.below b2
    have o2 := o2.bytes
    clear b1 b2
    generalize hpe : putS e 2 = pe at *
    generalize hpi : putS i 2 = pi at *
    have hGW : G < W.heap.size := hBox.lt
    go_wp2_with (first
      | (guard_target =~ wpList _ _ _ (⟨none, _, _, _, _, _⟩ :: _) _ _; refine wpList_store_tlv (op := ⟨none, .store _ _ _, _, _, _, _⟩) (by rfl) _ _ (by rfl) G (2, pe ++ (pi ++ [0, 0, 0, 0])) (tL (0, [])) _ (by rfl) (by rfl) hBox5 rfl ?_)
      | (at_builtin; refine wpList_append_bytes (o := ⟨some 26, _, _, _, _, _⟩) rfl _ _ rfl rfl W.heap.size _ _ pe pi rfl rfl o1 o2 ?_ b12.size ?_; (omega); intro v3 w3 o3 b3; have hb3 := b12.trans b3; have o4 := o3.below (bnew w3 (Obj.cells #[.int .u8 0, .int .u8 0, .int .u8 0, .int .u8 0] 5)); have x4 : Bytes (w3.alloc (Obj.cells #[.int .u8 0, .int .u8 0, .int .u8 0, .int .u8 0] 5)) (.slice (some ⟨w3.heap.size, 0, none⟩) 4 4) [0, 0, 0, 0] := (Own.lit w3 [0, 0, 0, 0] (by decide)).bytes; have b4 := bnext hb3 (bnew w3 (Obj.cells #[.int .u8 0, .int .u8 0, .int .u8 0, .int .u8 0] 5)))
      | (at_builtin; refine wpList_append_bytes (o := ⟨some 28, _, _, _, _, _⟩) rfl _ _ rfl rfl W.heap.size _ _ (pe ++ pi) [0, 0, 0, 0] rfl rfl o4 x4 ?_ b4.size ?_; (simp; omega); intro v5 w5 o5 b5; have hb5 := b4.trans b5; have hS := o5.bytes.str; have hBox5 := hBox.below hb5))
    exact bodyPost_ret (v := .tuple #[tlvV (2, pe ++ (pi ++ [0, 0, 0, 0])), .bool true]) (results_tlv_two (p := 4) (u := 5) rfl _ _ G _ (2, pe ++ (pi ++ [0, 0, 0, 0])) rfl (hBox5.rowT _)) rfl ⟨by rw [hpe, hpi], by rw [hG]; exact below_setRow (hbW.trans (hb5.mono (Nat.le_of_lt hGW))) (Nat.le_refl _) _⟩
  · rw [show faultT e i = ((0, []), false) from if_neg hok]
    rcases (by omega : e < 0 ∨ (0 ≤ e ∧ 65535 < e) ∨ (0 ≤ e ∧ e ≤ 65535 ∧ i < 0) ∨ (0 ≤ e ∧ e ≤ 65535 ∧ 0 ≤ i ∧ 65535 < i)) with h | ⟨h, h'⟩ | ⟨h, h', h''⟩ | ⟨h, h', h'', h'''⟩
    all_goals
      clear hok
      go_enter Try.func31, Try.ntmps31
      go_upto_region 1 with fail
      generalize hG : w.heap.size = G at *
      generalize w.alloc (Obj.cells #[.int .i64 0, .string ⟨#[]⟩] 32) = W at *
      go_wp2_with (guard_target =~ wpList _ _ _ (⟨none, _, _, _, _, _⟩ :: _) _ _; refine wpList_store_tlv (op := ⟨none, .store _ _ _, _, _, _, _⟩) (by rfl) _ _ (by rfl) G (0, []) (tL (0, [])) _ (by rfl) (by rfl) hBox rfl ?_)
      exact bodyPost_ret (v := .tuple #[tlvV (0, []), .bool false]) (results_tlv_two (p := 4) (u := 5) rfl _ _ G _ (0, []) rfl (hBox.rowT _)) rfl ⟨rfl, by rw [hG]; exact below_setRow hbW (Nat.le_refl _) _⟩
end Go.Proofs.Ytdhdlpoopehmlaa
