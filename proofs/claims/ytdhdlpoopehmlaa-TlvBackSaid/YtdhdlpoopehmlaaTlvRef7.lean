/- The document's own Path (chapter 8). -/
import Derived.Test.YtdhdlpoopehmlaaTlvBox
import Derived.Test.YtdhdlpoopehmlaaOctRef
import Derived.Test.YtdhdlpoopehmlaaIds
namespace Go.Proofs.Ytdhdlpoopehmlaa
open Go.RowKit Go.Proofs
set_option linter.unusedVariables false
set_option linter.unusedSimpArgs false

/-- Identities as bytes. -/
def flatI (zs : List Int) : List UInt8 := zs.flatMap fun z => putN z.toNat 8

theorem flatI_snoc (zs : List Int) (z : Int) : flatI (zs ++ [z]) = flatI zs ++ putN z.toNat 8 := by simp [flatI]

theorem flatI_length (zs : List Int) : (flatI zs).length = 8 * zs.length := by
  induction zs with
  | nil => simp [flatI]
  | cons z zs ih => simp only [flatI, List.flatMap_cons, List.length_append, putN_length, List.length_cons] at ih ⊢; omega

/-- The TLV of a path. -/
def pathT (zs : List Int) : T2 × Bool := if zs.length ≤ 16 then ((8, flatI zs), true) else ((0, []), false)

set_option maxRecDepth 100000 in
set_option maxHeartbeats 1600000 in
theorem refPath_any (v : Value) (zs : List Int) (w : World) (hB : Ids w v zs) (hl : zs.length ≤ 140737488355328) (hz : ∀ z ∈ zs, 0 ≤ z ∧ z < 18446744073709551616) :
    Calls Try.prog 27 #[v] w fun r w' => r = .returned (.tuple #[tlvV (pathT zs).1, .bool (pathT zs).2]) ∧ Below w.heap.size w w' := by
  obtain ⟨p, cap, rfl, hc, -, hat⟩ := hB
  have HAT := hid fun (wx : World) (h : Below w.heap.size w wx) => hat.below h
  have HZ := hid hz
  have hbW := bnew w (Obj.cells #[.int .i64 0, .string ⟨#[]⟩] 32)
  have hBox := Box.new w [.int .i64 0, .string ⟨#[]⟩] 32
  clear hat hc hz
  by_cases hok : zs.length ≤ 16
  · rw [show pathT zs = ((8, flatI zs), true) from if_pos hok]
    go_enter Try.func27, Try.ntmps27
    go_upto_region 1 with fail
    generalize hG : w.heap.size = G at *
    generalize w.alloc (Obj.cells #[.int .i64 0, .string ⟨#[]⟩] 32) = W at *
    have hGW : G < W.heap.size := hBox.lt
    have hsz := hbW.size
    go_wp2_with fail
    go_loopw [4, 5] (fun b i wr => ∃ k : Nat, k ≤ zs.length ∧ i = .int .i64 k ∧ Own wr W.heap.size b (flatI (zs.take k)) ∧ Below W.heap.size W wr) (fun _ i _ => zs.length - (intOf i).toNat)
    case atStart => exact ⟨0, Nat.zero_le _, rfl, Own.nil _ _, Below.refl _ _⟩
    case round =>
      obtain ⟨k, hk, rfl, own, hb⟩ := hrel
      by_cases hlt : k < zs.length
      · obtain ⟨b, off, rfl, hrow⟩ := (HAT.out _ (hbW.trans (hb.mono (Nat.le_of_lt hGW)))).row (by omega)
        obtain ⟨c, hq⟩ : ∃ c, zs[k] = c := ⟨_, rfl⟩
        have h1 : wr.cell? ⟨b, off + k, none⟩ = some (.int .u64 c) := by rw [hrow wr (Below.refl _ _) k hlt, hq]
        have hcz := HZ.out zs[k] (List.getElem_mem hlt)
        rw [hq] at hcz
        have hT : Hid (flatI (zs.take (k + 1)) = flatI (zs.take k) ++ putN c.toNat 8) := hid (by rw [take_snoc zs k hlt, flatI_snoc, hq])
        have hL : (flatI (zs.take k)).length ≤ 128 := by rw [flatI_length, List.length_take]; omega
        have hL8 : (putN c.toNat 8).length = 8 := putN_length _ _
        clear hrow hq
        have hks : k + 1 ≤ zs.length := hlt
        go_wp2_with fail
        refine (refPutId_any c wr hcz.1 hcz.2).mono ?_
        rintro _ w1 ⟨v1, rfl, o1, b1⟩
        replace own := own.below b1
        replace hb := bnext hb b1
        have o1 := o1.bytes
        go_wp2_with (at_builtin; refine wpList_append_bytes (o := ⟨some 22, _, _, _, _, _⟩) rfl _ _ rfl rfl W.heap.size _ _ (flatI (zs.take k)) (putN c.toNat 8) rfl rfl own o1 ?_ hb.size ?_; (omega); intro v2 w2 own2 hb2; replace hb := hb.trans hb2)
        go_roundw
        case rel => exact ⟨k + 1, hks, by go_num, by rw [hT.out]; exact own2, hb⟩
        case measure => simp [intOf]; omega
      · have hke : k = zs.length := by omega
        subst hke
        rw [List.take_length] at own
        have hS := own.bytes.str
        have hBox5 := hBox.below hb
        go_wp2_with (guard_target =~ wpList _ _ _ (⟨none, _, _, _, _, _⟩ :: _) _ _; refine wpList_store_tlv (op := ⟨none, .store _ _ _, _, _, _, _⟩) (by rfl) _ _ (by rfl) G (8, flatI zs) (tL (0, [])) _ (by rfl) (by rfl) hBox5 rfl ?_)
        exact bodyPost_ret (v := .tuple #[tlvV (8, flatI zs), .bool true]) (results_tlv_two (p := 2) (u := 3) rfl _ _ G _ (8, flatI zs) rfl (hBox5.rowT _)) rfl ⟨rfl, by rw [hG]; exact below_setRow (hbW.trans (hb.mono (Nat.le_of_lt hGW))) (Nat.le_refl _) _⟩
  · rw [show pathT zs = ((0, []), false) from if_neg hok]
    go_enter Try.func27, Try.ntmps27
    go_upto_region 1 with fail
    generalize hG : w.heap.size = G at *
    generalize w.alloc (Obj.cells #[.int .i64 0, .string ⟨#[]⟩] 32) = W at *
    go_wp2_with (guard_target =~ wpList _ _ _ (⟨none, _, _, _, _, _⟩ :: _) _ _; refine wpList_store_tlv (op := ⟨none, .store _ _ _, _, _, _, _⟩) (by rfl) _ _ (by rfl) G (0, []) (tL (0, [])) _ (by rfl) (by rfl) hBox rfl ?_)
    exact bodyPost_ret (v := .tuple #[tlvV (0, []), .bool false]) (results_tlv_two (p := 2) (u := 3) rfl _ _ G _ (0, []) rfl (hBox.rowT _)) rfl ⟨rfl, by rw [hG]; exact below_setRow hbW (Nat.le_refl _) _⟩
end Go.Proofs.Ytdhdlpoopehmlaa
