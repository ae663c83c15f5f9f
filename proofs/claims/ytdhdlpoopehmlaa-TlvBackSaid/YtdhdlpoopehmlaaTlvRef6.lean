/- The document's own Manage (chapter 8). -/
import Derived.Test.YtdhdlpoopehmlaaTlvRef
import Derived.Test.YtdhdlpoopehmlaaTlvBox
import Derived.Test.YtdhdlpoopehmlaaOctRef
import Derived.Test.YtdhdlpoopehmlaaAppS
namespace Go.Proofs.Ytdhdlpoopehmlaa
open Go.RowKit Go.Proofs
set_option linter.unusedVariables false
set_option linter.unusedSimpArgs false

/-- The TLV of a management. -/
def manageT (i : Int) (m : List UInt8) : T2 × Bool :=
  if (0 ≤ i ∧ i ≤ 65535) ∧ m.length ≤ 398 then ((1, (putS i 2 ++ m) ++ (if m.length % 2 = 0 then [] else [0])), true) else ((0, []), false)

set_option maxRecDepth 100000 in
set_option maxHeartbeats 1600000 in
theorem refManage_any (i : Int) (m : List UInt8) (w : World) (hm : m.length ≤ 140737488355320) :
    Calls Try.prog 29 #[.int .i64 i, sv m] w fun r w' => r = .returned (.tuple #[tlvV (manageT i m).1, .bool (manageT i m).2]) ∧ Below w.heap.size w w' := by
  have hbW := bnew w (Obj.cells #[.int .i64 0, .string ⟨#[]⟩] 32)
  have hBox := Box.new w [.int .i64 0, .string ⟨#[]⟩] 32
  by_cases hok : (0 ≤ i ∧ i ≤ 65535) ∧ m.length ≤ 400
  · have l1 : (putS i 2).length = 2 := putS_length _ 2 (by decide) (by decide)
    obtain ⟨⟨h0, h1⟩, h2⟩ := hok
    have HM : Hid (manageT i m = if m.length ≤ 398 then ((1, (putS i 2 ++ m) ++ (if m.length % 2 = 0 then [] else [0])), true) else ((0, []), false)) := hid (by
      unfold manageT
      by_cases hh : m.length ≤ 398
      · rw [if_pos ⟨⟨h0, h1⟩, hh⟩, if_pos hh]
      · rw [if_neg (fun h => hh h.2), if_neg hh])
    generalize manageT i m = F at *
    go_enter Try.func29, Try.ntmps29
    go_upto_region 1 with fail
    generalize hG : w.heap.size = G at *
    generalize w.alloc (Obj.cells #[.int .i64 0, .string ⟨#[]⟩] 32) = W at *
    have hGW : G < W.heap.size := hBox.lt
    go_wp2_with fail
    refine (refPut_any i 2 W).mono ?_
    rintro _ w1 ⟨v1, rfl, o1, b1⟩
    generalize putS i 2 = pe at *
    have hlen : (pe ++ m).length = 2 + m.length := by rw [List.length_append, l1]
    go_upto_region 4 with (at_builtin; refine wpList_append_str (o := ⟨some 22, _, _, _, _, _⟩) rfl _ _ rfl rfl W.heap.size _ pe m rfl rfl o1 ?_ b1.size ?_; (omega); intro v3 w3 o3 b3; have hb3 := b1.trans b3; obtain ⟨g3, c3, rfl, -, -, -, -⟩ := o3.form (by omega); rw [hlen] at o3 ⊢)
    generalize hL : pe ++ m = L at *
    have he := even_tmod (2 + m.length)
    clear o1 b1 b3
    generalize hn : 2 + m.length = n3 at *
    have hBox3 := hBox.below hb3
    by_cases hev : n3 % 2 = 0
    · have hm2 : m.length % 2 = 0 := by omega
      rw [if_pos hm2, List.append_nil] at HM
      rw [hev] at he
      have hS := o3.bytes.str
      by_cases hsm : m.length ≤ 398
      · rw [if_pos hsm] at HM
        have hn4 : n3 ≤ 400 := by omega
        go_wp2_with (guard_target =~ wpList _ _ _ (⟨none, _, _, _, _, _⟩ :: _) _ _; refine wpList_store_tlv (op := ⟨none, .store _ _ _, _, _, _, _⟩) (by rfl) _ _ (by rfl) G (1, L) (tL (0, [])) _ (by rfl) (by rfl) hBox3 rfl ?_)
        exact bodyPost_ret (v := .tuple #[tlvV (1, L), .bool true]) (results_tlv_two (p := 4) (u := 5) rfl _ _ G _ (1, L) rfl (hBox3.rowT _)) rfl ⟨by rw [HM.out], by rw [hG]; exact below_setRow (hbW.trans (hb3.mono (Nat.le_of_lt hGW))) (Nat.le_refl _) _⟩
      · rw [if_neg hsm] at HM
        have hn4 : 400 < n3 := by omega
        go_wp2_with (guard_target =~ wpList _ _ _ (⟨none, _, _, _, _, _⟩ :: _) _ _; refine wpList_store_tlv (op := ⟨none, .store _ _ _, _, _, _, _⟩) (by rfl) _ _ (by rfl) G (0, []) (tL (0, [])) _ (by rfl) (by rfl) hBox3 rfl ?_)
        exact bodyPost_ret (v := .tuple #[tlvV (0, []), .bool false]) (results_tlv_two (p := 4) (u := 5) rfl _ _ G _ (0, []) rfl (hBox3.rowT _)) rfl ⟨by rw [HM.out], by rw [hG]; exact below_setRow (hbW.trans (hb3.mono (Nat.le_of_lt hGW))) (Nat.le_refl _) _⟩
    · have hm2 : ¬ m.length % 2 = 0 := by omega
      have hm1 : n3 % 2 = 1 := by omega
      rw [if_neg hm2] at HM
      rw [hm1] at he
      have o4 := o3.below (bnew w3 (Obj.cells #[.int .u8 0] 5))
      have x4 : Bytes (w3.alloc (Obj.cells #[.int .u8 0] 5)) (.slice (some ⟨w3.heap.size, 0, none⟩) 1 1) [0] := (Own.lit w3 [0] (by decide)).bytes
      have b4 := bnext hb3 (bnew w3 (Obj.cells #[.int .u8 0] 5))
      have hlen5 : (L ++ [0]).length = n3 + 1 := by rw [List.length_append, hlen]; rfl
      go_upto_region 6 with (at_builtin; refine wpList_append_bytes (o := ⟨some 29, _, _, _, _, _⟩) rfl _ _ rfl rfl W.heap.size _ _ L [0] rfl rfl o4 x4 ?_ b4.size ?_; (simp only [hlen, List.length_singleton]; omega); intro v5 w5 o5 b5; have hb5 := b4.trans b5; obtain ⟨g5, c5, rfl, -, -, -, -⟩ := o5.form (by omega); rw [hlen5] at o5 ⊢)
      have hBox5 := hBox.below hb5
      have hS := o5.bytes.str
      generalize hL5 : L ++ [0] = L5 at *
      clear o4 x4 b4 b5
      by_cases hsm : m.length ≤ 398
      · rw [if_pos hsm] at HM
        have hn4 : n3 + 1 ≤ 400 := by omega
        go_wp2_with (guard_target =~ wpList _ _ _ (⟨none, _, _, _, _, _⟩ :: _) _ _; refine wpList_store_tlv (op := ⟨none, .store _ _ _, _, _, _, _⟩) (by rfl) _ _ (by rfl) G (1, L5) (tL (0, [])) _ (by rfl) (by rfl) hBox5 rfl ?_)
        exact bodyPost_ret (v := .tuple #[tlvV (1, L5), .bool true]) (results_tlv_two (p := 4) (u := 5) rfl _ _ G _ (1, L5) rfl (hBox5.rowT _)) rfl ⟨by rw [HM.out], by rw [hG]; exact below_setRow (hbW.trans (hb5.mono (Nat.le_of_lt hGW))) (Nat.le_refl _) _⟩
      · rw [if_neg hsm] at HM
        have hn4 : 400 < n3 + 1 := by omega
        go_wp2_with (guard_target =~ wpList _ _ _ (⟨none, _, _, _, _, _⟩ :: _) _ _; refine wpList_store_tlv (op := ⟨none, .store _ _ _, _, _, _, _⟩) (by rfl) _ _ (by rfl) G (0, []) (tL (0, [])) _ (by rfl) (by rfl) hBox5 rfl ?_)
        exact bodyPost_ret (v := .tuple #[tlvV (0, []), .bool false]) (results_tlv_two (p := 4) (u := 5) rfl _ _ G _ (0, []) rfl (hBox5.rowT _)) rfl ⟨by rw [HM.out], by rw [hG]; exact below_setRow (hbW.trans (hb5.mono (Nat.le_of_lt hGW))) (Nat.le_refl _) _⟩
  · rw [show manageT i m = ((0, []), false) from if_neg (fun h => hok ⟨h.1, by omega⟩)]
    rcases (by omega : i < 0 ∨ (0 ≤ i ∧ 65535 < i) ∨ (0 ≤ i ∧ i ≤ 65535 ∧ 400 < m.length)) with h | ⟨h, h'⟩ | ⟨h, h', h''⟩
    all_goals
      clear hok
      go_enter Try.func29, Try.ntmps29
      go_upto_region 1 with fail
      generalize hG : w.heap.size = G at *
      generalize w.alloc (Obj.cells #[.int .i64 0, .string ⟨#[]⟩] 32) = W at *
      go_wp2_with (guard_target =~ wpList _ _ _ (⟨none, _, _, _, _, _⟩ :: _) _ _; refine wpList_store_tlv (op := ⟨none, .store _ _ _, _, _, _, _⟩) (by rfl) _ _ (by rfl) G (0, []) (tL (0, [])) _ (by rfl) (by rfl) hBox rfl ?_)
      exact bodyPost_ret (v := .tuple #[tlvV (0, []), .bool false]) (results_tlv_two (p := 4) (u := 5) rfl _ _ G _ (0, []) rfl (hBox.rowT _)) rfl ⟨rfl, by rw [hG]; exact below_setRow hbW (Nat.le_refl _) _⟩
end Go.Proofs.Ytdhdlpoopehmlaa
