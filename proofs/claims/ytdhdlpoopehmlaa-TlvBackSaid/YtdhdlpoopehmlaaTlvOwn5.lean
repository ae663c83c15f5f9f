/- The program's own Manage (chapter 8). -/
import Derived.Test.YtdhdlpoopehmlaaTlvOwn
import Derived.Test.YtdhdlpoopehmlaaOctb
import Derived.Test.YtdhdlpoopehmlaaTlvRef6
namespace Go.Proofs.Ytdhdlpoopehmlaa
open Go.RowKit Go.Proofs
set_option linter.unusedVariables false
set_option linter.unusedSimpArgs false

theorem fill_len (m f : Nat) (hf : m % 2 = f) : putS 0 f = if m % 2 = 0 then [] else [0] := by
  rcases (by omega : f = 0 ∨ f = 1) with rfl | rfl
  · rw [if_pos hf]; rfl
  · rw [if_neg (by omega)]; rfl

set_option maxRecDepth 100000 in
set_option maxHeartbeats 1600000 in
theorem manageT_any (i : Int) (m : List UInt8) (w : World) (hm : m.length ≤ 140737488355320) :
    Calls Try.prog 28 #[.int .i64 i, sv m] w fun r w' => r = .returned (.tuple #[tlvV (manageT i m).1, .bool (manageT i m).2]) ∧ Below w.heap.size w w' := by
  have hbW := bnew w (Obj.cells #[.int .i64 0, .string ⟨#[]⟩] 32)
  have hBox := Box.new w [.int .i64 0, .string ⟨#[]⟩] 32
  have he := even_tmod m.length
  obtain ⟨f, hf⟩ : ∃ f, m.length % 2 = f := ⟨_, rfl⟩
  have HF : Hid (manageT i m = if fitB i = true ∧ 2 + m.length + f ≤ 400 then ((1, (putS i 2 ++ m) ++ putS 0 f), true) else ((0, []), false)) := hid (by
    rw [fill_len m.length f hf]
    unfold manageT fitB
    simp only [Bool.and_eq_true, decide_eq_true_eq]
    by_cases h : (0 ≤ i ∧ i ≤ 65535) ∧ m.length ≤ 398
    · have e : (0 ≤ i ∧ i ≤ 65535) ∧ 2 + m.length + f ≤ 400 := ⟨h.1, by omega⟩
      rw [if_pos h, if_pos e]
    · have e : ¬ ((0 ≤ i ∧ i ≤ 65535) ∧ 2 + m.length + f ≤ 400) := fun h' => h ⟨h'.1, by omega⟩
      rw [if_neg h, if_neg e])
  have hf1 : f ≤ 1 := by omega
  rw [hf] at he
  clear hf
  generalize manageT i m = F at *
  have hI := tfits_any i
  cases hi : fitB i with
  | true =>
    rw [hi] at HF hI
    by_cases hsm : 2 + m.length + f ≤ 400
    · rw [if_pos ⟨rfl, hsm⟩] at HF
      have l1 : (putS i 2).length = 2 := putS_length _ 2 (by decide) (by decide)
      go_enter Try.func28, Try.ntmps28
      go_upto_region 1 with fail
      generalize hG : w.heap.size = G at *
      generalize w.alloc (Obj.cells #[.int .i64 0, .string ⟨#[]⟩] 32) = W at *
      have hGW : G < W.heap.size := hBox.lt
      go_wp2_with fail
      refine (hI W).mono ?_
      rintro _ w' ⟨rfl, rfl⟩
      clear hI
      go_wp2_with fail
      refine (put_any (.slice none 0 0) [] i 2 W (Bytes.nil W) (by decide)).mono ?_
      rintro _ w1 ⟨v1, rfl, o1, b1⟩
      rw [List.nil_append] at o1
      generalize putS i 2 = pe at *
      have hlen : (pe ++ m).length = 2 + m.length := by rw [List.length_append, l1]
      go_wp2_with (at_builtin; refine wpList_append_str (o := ⟨some 27, _, _, _, _, _⟩) rfl _ _ rfl rfl W.heap.size _ pe m rfl rfl o1 ?_ b1.size ?_; (omega); intro v3 w3 o3 b3; have hb3 := b1.trans b3)
      generalize hL : pe ++ m = L at *
      refine (put_any _ L 0 f w3 o3.bytes (by omega)).mono ?_
      rintro _ w4 ⟨v4, rfl, o4, b4⟩
      have hb4 := bnext hb3 b4
      have hS := o4.bytes.str
      have hBox4 := hBox.below hb4
      generalize hL4 : L ++ putS 0 f = L4 at *
      go_wp2_with (guard_target =~ wpList _ _ _ (⟨none, _, _, _, _, _⟩ :: _) _ _; refine wpList_store_tlv (op := ⟨none, .store _ _ _, _, _, _, _⟩) (by rfl) _ _ (by rfl) G (1, L4) (tL (0, [])) _ (by rfl) (by rfl) hBox4 rfl ?_)
      exact bodyPost_ret (v := .tuple #[tlvV (1, L4), .bool true]) (results_tlv_two (p := 4) (u := 5) rfl _ _ G _ (1, L4) rfl (hBox4.rowT _)) rfl ⟨by rw [HF.out], by rw [hG]; exact below_setRow (hbW.trans (hb4.mono (Nat.le_of_lt hGW))) (Nat.le_refl _) _⟩
    · rw [if_neg (fun h => hsm h.2)] at HF
      go_enter Try.func28, Try.ntmps28
      go_upto_region 1 with fail
      generalize hG : w.heap.size = G at *
      generalize w.alloc (Obj.cells #[.int .i64 0, .string ⟨#[]⟩] 32) = W at *
      go_wp2_with fail
      refine (hI W).mono ?_
      rintro _ w' ⟨rfl, rfl⟩
      clear hI
      go_wp2_with (guard_target =~ wpList _ _ _ (⟨none, _, _, _, _, _⟩ :: _) _ _; refine wpList_store_tlv (op := ⟨none, .store _ _ _, _, _, _, _⟩) (by rfl) _ _ (by rfl) G (0, []) (tL (0, [])) _ (by rfl) (by rfl) hBox rfl ?_)
      exact bodyPost_ret (v := .tuple #[tlvV (0, []), .bool false]) (results_tlv_two (p := 4) (u := 5) rfl _ _ G _ (0, []) rfl (hBox.rowT _)) rfl ⟨by rw [HF.out], by rw [hG]; exact below_setRow hbW (Nat.le_refl _) _⟩
  | false =>
    rw [hi] at HF hI
    rw [if_neg (by simp)] at HF
    go_enter Try.func28, Try.ntmps28
    go_upto_region 1 with fail
    generalize hG : w.heap.size = G at *
    generalize w.alloc (Obj.cells #[.int .i64 0, .string ⟨#[]⟩] 32) = W at *
    go_wp2_with fail
    refine (hI W).mono ?_
    rintro _ w' ⟨rfl, rfl⟩
    clear hI
    go_wp2_with (guard_target =~ wpList _ _ _ (⟨none, _, _, _, _, _⟩ :: _) _ _; refine wpList_store_tlv (op := ⟨none, .store _ _ _, _, _, _, _⟩) (by rfl) _ _ (by rfl) G (0, []) (tL (0, [])) _ (by rfl) (by rfl) hBox rfl ?_)
    exact bodyPost_ret (v := .tuple #[tlvV (0, []), .bool false]) (results_tlv_two (p := 4) (u := 5) rfl _ _ G _ (0, []) rfl (hBox.rowT _)) rfl ⟨by rw [HF.out], by rw [hG]; exact below_setRow hbW (Nat.le_refl _) _⟩
end Go.Proofs.Ytdhdlpoopehmlaa
