/- The walk of the law TlvLimits. -/
import Derived.Test.YtdhdlpoopehmlaaTlvAwake
import Derived.Test.YtdhdlpoopehmlaaTlvMake
import Derived.Test.YtdhdlpoopehmlaaTlvSay
namespace Go.Proofs.Ytdhdlpoopehmlaa
open Go.RowKit Go.Proofs
set_option linter.unusedVariables false
set_option linter.unusedSimpArgs false

theorem lim_put8 : putT (List.replicate 8 (0, [])) = (List.replicate 32 0, true) := by kernel_rfl
theorem lim_put9 : putT (List.replicate 8 (0, []) ++ [(0, [])]) = ([], false) := by kernel_rfl
theorem lim_get32 : getT (List.replicate 32 0) 0 = (List.replicate 8 (0, []), 0) := by kernel_rfl
theorem lim_get36 : getT (List.replicate 32 0 ++ [0, 0, 0, 0]) 0 = ([], 7) := by kernel_rfl
theorem lim_get33 : getT (List.replicate 32 0 ++ [0]) 0 = ([], 7) := by kernel_rfl
theorem lim_path16 : ∃ q, pathT (List.replicate 16 0) = (q, true) := ⟨_, rfl⟩
theorem lim_path17 : pathT (List.replicate 17 0) = ((0, []), false) := by kernel_rfl
theorem lim_manage : ∃ q, manageT 7 (List.replicate 398 0) = (q, true) := by
  unfold manageT
  rw [if_pos ⟨by decide, by rw [List.length_replicate]; exact Nat.le_refl _⟩]
  exact ⟨_, rfl⟩
theorem lim_manage2 : manageT 7 (List.replicate 399 0) = ((0, []), false) := by
  unfold manageT
  rw [if_neg (fun h => by have := h.2; rw [List.length_replicate] at this; omega)]

set_option maxRecDepth 100000 in
set_option maxHeartbeats 8000000 in
theorem tlvLimits_walk (w : World) : Calls Try.prog 9 #[] w fun e w' => e = .returned (.bool true) ∧ Below w.heap.size w w' := by
  have hmk := make_tlvs8 w
  have o1 := OwnT.lit w (List.replicate 8 (0, [])) (by rw [List.length_replicate]; unfold maxLen; omega)
  have hb := bnew w (.cells (tCellsOf (List.replicate 8 (0, []))).toArray 32)
  have H8 : Hid ((List.replicate 8 ((0 : Int), ([] : List UInt8))).length = 8) := hid (by rw [List.length_replicate])
  have HZ8 : Hid (∀ q ∈ (List.replicate 8 ((0 : Int), ([] : List UInt8))), q.2.length ≤ 140737488355328) := hid (fun q hq => by rw [List.eq_of_mem_replicate hq]; decide)
  have HZ9 : Hid (∀ q ∈ (List.replicate 8 ((0 : Int), ([] : List UInt8))) ++ [(0, [])], q.2.length ≤ 140737488355328) := hid (fun q hq => by
    rcases List.mem_append.1 hq with h | h
    · rw [List.eq_of_mem_replicate h]; decide
    · rw [List.mem_singleton.1 h]; decide)
  have L32 : Hid ((List.replicate 32 (0 : UInt8)).length = 32) := hid (by rw [List.length_replicate])
  have p8 := hid lim_put8
  have p9 := hid lim_put9
  have g32 := hid lim_get32
  have g36 := hid lim_get36
  have g33 := hid lim_get33
  rw [H8.out] at o1
  generalize List.replicate 8 ((0 : Int), ([] : List UInt8)) = Z8 at *
  generalize List.replicate 32 (0 : UInt8) = B32 at *
  go_enter Try.func9, Try.ntmps9
  go_upto_region 2 with fail
  clear hmk
  generalize w.alloc (.cells (tCellsOf Z8).toArray 32) = w1 at *
  generalize hG : w.heap.size = G at o1 ⊢
  go_wp2_with fail
  refine (putT_any none [] 0 _ Z8 w1 (Bytes.nil _) (by decide) o1.tlvs (by rw [H8.out]; decide) HZ8.out).mono ?_
  rintro e w2 ⟨v2, rfl, o2, b2⟩
  have hb1 := hb
  rw [p8.out] at o2 ⊢
  replace o2 := o2.nil
  rw [List.nil_append] at o2
  have o1 := o1.below b2
  replace hb := bnext hb b2
  have t1 := (o1.tlvs).below (bnew w2 (Obj.cells #[.int .i64 0, sv []] 32))
  have hL := tlvs_lit w2 (0, [])
  have hbz := bnew w2 (Obj.cells #[.int .i64 0, sv []] 32)
  have o2m := o2.mono (base' := w.heap.size) hb1.size
  clear o2
  have o2 := o2m
  clear o2m
  go_wp2_with (at_builtin; refine wpList_append_tlvs_new (o := ⟨some 30, _, _, _, _, _⟩) rfl _ _ rfl rfl G 0 8 _ Z8 [(0, [])] rfl rfl t1 hL (by decide) (by rw [H8.out]; decide) ?_; intro v3 w3 o3 b3; have b3' := bnext hbz b3)
  replace o2 := o2.below b3'
  replace hb := bnext hb b3'
  clear t1 hL hbz b3 b3' o1
  refine (putT_any none [] 0 _ (Z8 ++ [(0, [])]) w3 (Bytes.nil _) (by decide) o3.tlvs (by rw [List.length_append, H8.out]; decide) HZ9.out).mono ?_
  rintro e w4 ⟨v4, rfl, o4, b4⟩
  rw [p9.out]
  replace o2 := o2.below b4
  replace hb := bnext hb b4
  clear o4 b4 o3
  go_wp2_with fail
  refine (getT_any v2 B32 0 w4 o2.bytes (by rw [L32.out]; decide) (by decide)).mono ?_
  rintro e w5 ⟨v5, rfl, -, b5⟩
  rw [g32.out]
  replace o2 := o2.below b5
  replace hb := bnext hb b5
  have o2n := o2.below (bnew w5 (.cells (cellsOf [0, 0, 0, 0]).toArray 5))
  have x4 := (Own.lit w5 [0, 0, 0, 0] (by decide)).bytes
  have hb4 := bnext hb (bnew w5 (.cells (cellsOf [0, 0, 0, 0]).toArray 5))
  go_wp2_with (at_builtin; refine wpList_append_stay (o := ⟨some 42, _, _, _, _, _⟩) rfl _ _ rfl rfl w.heap.size _ _ B32 [0, 0, 0, 0] rfl rfl o2n x4 (by rw [L32.out]; decide) (by decide) (by rw [L32.out]; decide) hb4.size ?_; intro v6 w6 o6 o2' b6)
  refine (getT_any v6 (B32 ++ [0, 0, 0, 0]) 0 w6 o6.bytes (by rw [List.length_append, L32.out]; decide) (by decide)).mono ?_
  rintro e w7 ⟨v7, rfl, -, b7⟩
  rw [g36.out]
  replace hb := bnext (hb4.trans b6) b7
  replace o2 := o2'.below b7
  clear o2n x4 hb4 b6 o6 o2' b7 b5
  have o2n := o2.below (bnew w7 (.cells (cellsOf [0]).toArray 5))
  have x4 := (Own.lit w7 [0] (by decide)).bytes
  have hb4 := bnext hb (bnew w7 (.cells (cellsOf [0]).toArray 5))
  go_wp2_with (at_builtin; refine wpList_append_stay (o := ⟨some 49, _, _, _, _, _⟩) rfl _ _ rfl rfl w.heap.size _ _ B32 [0] rfl rfl o2n x4 (by rw [L32.out]; decide) (by decide) (by rw [L32.out]; decide) hb4.size ?_; intro v8 w8 o8 o2' b8)
  refine (getT_any v8 (B32 ++ [0]) 0 w8 o8.bytes (by rw [List.length_append, L32.out]; decide) (by decide)).mono ?_
  rintro e w9 ⟨v9, rfl, -, b9⟩
  rw [g33.out]
  replace hb := bnext (hb4.trans b8) b9
  clear o2n x4 hb4 b8 o8 o2' b9 o2 b2 hb1
  obtain ⟨q16, h16⟩ := lim_path16
  have hz16 : ∀ z ∈ List.replicate 16 (0 : Int), 0 ≤ z ∧ z < 18446744073709551616 := fun z hz => by rw [List.eq_of_mem_replicate hz]; decide
  have o16 := OwnI.lit w9 (List.replicate 16 0) (by rw [List.length_replicate]; unfold maxLen; omega)
  have hmk := make_ids16 w9
  have hl16 : (List.replicate 16 (0 : Int)).length = 16 := by rw [List.length_replicate]
  rw [hl16] at o16
  have hb2 := bnext hb (bnew w9 (.cells (iCellsOf (List.replicate 16 0)).toArray 58))
  have hcall := pathT_any _ (List.replicate 16 0) _ o16.ids (by rw [hl16]; decide) hz16
  rw [h16] at hcall
  clear hl16 hz16 h16 o16
  generalize List.replicate 16 (0 : Int) = Z16 at *
  go_wp2_with fail
  refine hcall.mono ?_
  rintro e w10 ⟨rfl, b10⟩
  replace hb := bnext hb2 b10
  obtain ⟨qa, qs⟩ := q16
  clear hcall hmk hb2 b10
  have N := Box.new w10 [.int .i64 0, .string ⟨#[]⟩] 32
  have nb := bnew w10 (Obj.cells #[.int .i64 0, .string ⟨#[]⟩] 32)
  go_upto_region 8 with (guard_target =~ wpList _ _ _ (⟨none, _, _, _, _, _⟩ :: _) _ _; refine wpList_store_tlv (op := ⟨none, .store _ _ _, _, _, _, _⟩) (by rfl) _ _ (by rfl) w10.heap.size (qa, qs) (tL (0, [])) _ (by rfl) (by rfl) N rfl ?_; replace nb := below_setRow nb (Nat.le_refl _) (tL (qa, qs)).toArray; generalize World.setRow _ _ _ = w11 at *)
  replace hb := bnext hb nb
  clear N nb
  have hz17 : ∀ z ∈ List.replicate 17 (0 : Int), 0 ≤ z ∧ z < 18446744073709551616 := fun z hz => by rw [List.eq_of_mem_replicate hz]; decide
  have o17 := OwnI.lit w11 (List.replicate 17 0) (by rw [List.length_replicate]; unfold maxLen; omega)
  have hmk := make_ids17 w11
  have hl17 : (List.replicate 17 (0 : Int)).length = 17 := by rw [List.length_replicate]
  rw [hl17] at o17
  have hb2 := bnext hb (bnew w11 (.cells (iCellsOf (List.replicate 17 0)).toArray 58))
  have hcall := pathT_any _ (List.replicate 17 0) _ o17.ids (by rw [hl17]; decide) hz17
  rw [lim_path17] at hcall
  clear hl17 hz17 o17
  generalize List.replicate 17 (0 : Int) = Z17 at *
  go_wp2_with fail
  refine hcall.mono ?_
  rintro e w12 ⟨rfl, b12⟩
  replace hb := bnext hb2 b12
  clear hcall hmk hb2 b12
  have N := Box.new w12 [.int .i64 0, .string ⟨#[]⟩] 32
  have nb := bnew w12 (Obj.cells #[.int .i64 0, .string ⟨#[]⟩] 32)
  go_upto_region 9 with (guard_target =~ wpList _ _ _ (⟨none, _, _, _, _, _⟩ :: _) _ _; refine wpList_store_tlv (op := ⟨none, .store _ _ _, _, _, _, _⟩) (by rfl) _ _ (by rfl) w12.heap.size (0, []) (tL (0, [])) _ (by rfl) (by rfl) N rfl ?_; replace nb := below_setRow nb (Nat.le_refl _) (tL (0, [])).toArray; generalize World.setRow _ _ _ = w13 at *)
  replace hb := bnext hb nb
  clear N nb
  have hmk := make_bytes 398 (by decide) 398 398 rfl rfl w13
  have hS := (Own.lit w13 (List.replicate 398 0) (by rw [List.length_replicate]; unfold maxLen; omega)).bytes.str
  have hb2 := bnext hb (bnew w13 (.cells (cellsOf (List.replicate 398 0)).toArray 5))
  have hl3 : (List.replicate 398 (0 : UInt8)).length = 398 := by rw [List.length_replicate]
  rw [hl3] at hS
  obtain ⟨⟨ma, ms⟩, hm⟩ := lim_manage
  have hcall := fun wx => manageT_any 7 (List.replicate 398 0) wx (by rw [hl3]; decide)
  simp only [hm] at hcall
  clear hl3 hm
  generalize List.replicate 398 (0 : UInt8) = B3 at *
  generalize w13.alloc (.cells (cellsOf B3).toArray 5) = WB at *
  go_wp2_with fail
  refine (hcall _).mono ?_
  rintro e w14 ⟨rfl, bm⟩
  replace hb := bnext hb2 bm
  clear hcall hmk hb2 bm hS
  have N := Box.new w14 [.int .i64 0, .string ⟨#[]⟩] 32
  have nb := bnew w14 (Obj.cells #[.int .i64 0, .string ⟨#[]⟩] 32)
  go_upto_region 10 with (guard_target =~ wpList _ _ _ (⟨none, _, _, _, _, _⟩ :: _) _ _; refine wpList_store_tlv (op := ⟨none, .store _ _ _, _, _, _, _⟩) (by rfl) _ _ (by rfl) w14.heap.size (ma, ms) (tL (0, [])) _ (by rfl) (by rfl) N rfl ?_; replace nb := below_setRow nb (Nat.le_refl _) (tL (ma, ms)).toArray; generalize World.setRow _ _ _ = w15 at *)
  replace hb := bnext hb nb
  clear N nb
  have hmk := make_bytes 399 (by decide) 399 399 rfl rfl w15
  have hS := (Own.lit w15 (List.replicate 399 0) (by rw [List.length_replicate]; unfold maxLen; omega)).bytes.str
  have hb2 := bnext hb (bnew w15 (.cells (cellsOf (List.replicate 399 0)).toArray 5))
  have hl3 : (List.replicate 399 (0 : UInt8)).length = 399 := by rw [List.length_replicate]
  rw [hl3] at hS
  have hcall := fun wx => manageT_any 7 (List.replicate 399 0) wx (by rw [hl3]; decide)
  simp only [lim_manage2] at hcall
  clear hl3 
  generalize List.replicate 399 (0 : UInt8) = B3 at *
  generalize w15.alloc (.cells (cellsOf B3).toArray 5) = WB at *
  go_wp2_with fail
  refine (hcall _).mono ?_
  rintro e w16 ⟨rfl, bm⟩
  replace hb := bnext hb2 bm
  clear hcall hmk hb2 bm hS
  have N := Box.new w16 [.int .i64 0, .string ⟨#[]⟩] 32
  have nb := bnew w16 (Obj.cells #[.int .i64 0, .string ⟨#[]⟩] 32)
  go_upto_region 11 with (guard_target =~ wpList _ _ _ (⟨none, _, _, _, _, _⟩ :: _) _ _; refine wpList_store_tlv (op := ⟨none, .store _ _ _, _, _, _, _⟩) (by rfl) _ _ (by rfl) w16.heap.size (0, []) (tL (0, [])) _ (by rfl) (by rfl) N rfl ?_; replace nb := below_setRow nb (Nat.le_refl _) (tL (0, [])).toArray; generalize World.setRow _ _ _ = w17 at *)
  replace hb := bnext hb nb
  clear N nb
  go_wp2_with fail
  refine (awake08_any _).mono ?_
  rintro e w18 ⟨rfl, b18⟩
  go_wp2_with fail
  go_ret
  exact ⟨rfl, bnext hb b18⟩
end Go.Proofs.Ytdhdlpoopehmlaa
