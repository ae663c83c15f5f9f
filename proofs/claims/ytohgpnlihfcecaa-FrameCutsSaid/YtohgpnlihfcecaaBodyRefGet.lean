/- The document's own Get of chapter 7, behind a header (gen_bodyrefget.py). -/
import Derived.Test.YtohgpnlihfcecaaBodyGet3
import Derived.Test.YtohgpnlihfcecaaHeadRef
import Derived.Test.YtohgpnlihfcecaaB4
import Derived.Test.YtohgpnlihfcecaaB5
import Derived.Test.YtohgpnlihfcecaaB3
namespace Go.Proofs.Ytohgpnlihfcecaa
open Go.RowKit Go.Proofs
set_option maxRecDepth 50000
set_option linter.unusedVariables false
set_option linter.unusedSimpArgs false

set_option maxRecDepth 100000 in
set_option maxHeartbeats 800000 in
theorem refSigned2_ok (v : Value) (l : List UInt8) (at' : Int) (w : World) (hB : Bytes w v l) (hl : l.length ≤ 140737488355328) (hat : at' ≤ 9223372036854775807) (hn : standB l.length at' 2 = true) :
    Calls Try.prog 69 #[v, .int .i64 at', .int .i64 2] w fun e w' => e = .returned (.tuple #[.int .i64 (signedAt l at'.toNat 2), .bool true]) ∧ w = w' := by
  have hx := numAt2_lt l at'.toNat
  have hw1 : ((numAt l at'.toNat 2 : Nat) : Int) < 32768 → signedAt l at'.toNat 2 = ((numAt l at'.toNat 2 : Nat) : Int) := fun h => by unfold signedAt; rw [if_pos (by omega)]
  have hw2 : ¬ ((numAt l at'.toNat 2 : Nat) : Int) < 32768 → signedAt l at'.toNat 2 = ((numAt l at'.toNat 2 : Nat) : Int) - 65536 := fun h => by unfold signedAt; rw [if_neg (by omega)]; rfl
  have HN := hid hn
  have HX : Hid (((numAt l at'.toNat (2 : Int).toNat : Nat) : Int) = ((numAt l at'.toNat 2 : Nat) : Int)) := hid rfl
  have hN0 : (0 : Int) ≤ ((numAt l at'.toNat 2 : Nat) : Int) := by omega
  have hN1 : ((numAt l at'.toNat 2 : Nat) : Int) < 65536 := by omega
  have HCALL := hid fun w hB => (refGet_ok v l at' 2 w hB hl hat (by decide) (by decide) hn)
  rw [HX.out] at HCALL
  generalize signedAt l at'.toNat 2 = s at *
  generalize ((numAt l at'.toNat 2 : Nat) : Int) = N at *
  have HW1 := hid hw1
  have HW2 := hid hw2
  have HB := hid hB
  clear hn hB hx hw1 hw2 HX
  by_cases h : N < 32768
  · go_enter Try.func69, Try.ntmps69
    go_wp2_with fail
    refine (HCALL.out _ HB.out).mono ?_
    rintro e w' ⟨rfl, rfl⟩
    go_wp2_with fail
    go_ret2
    rw [HW1.out h]
    exact ⟨rfl, rfl⟩
  · go_enter Try.func69, Try.ntmps69
    go_wp2_with fail
    refine (HCALL.out _ HB.out).mono ?_
    rintro e w' ⟨rfl, rfl⟩
    go_wp2_with fail
    go_ret2
    rw [HW2.out h]
    exact ⟨rfl, rfl⟩

/-- One byte of bytes, in memory. -/
theorem byte_at {w : World} {v : Value} {l : List UInt8} (hB : Bytes w v l) (i : Nat) (hi : i < l.length) : ∃ cap b off, v = .slice (some ⟨b, off, none⟩) l.length cap ∧ w.cell? ⟨b, off + i, none⟩ = some (.int .u8 ((numAt l i 1 : Nat) : Int)) := by
  obtain ⟨p, cap, rfl, -, -, hat⟩ := hB
  obtain ⟨b, off, rfl, -, hc⟩ := hat.pos (by omega)
  exact ⟨cap, b, off, rfl, by rw [numAt_one l i hi]; exact hc i hi⟩

set_option maxRecDepth 100000 in
set_option maxHeartbeats 4000000 in
theorem refBodyGet_short (v : Value) (l : List UInt8) (h : Hd) (d : Bd) (w : World) (hB : Bytes w v l) (hl : l.length ≤ 140737488351232) (h34 : 34 ≤ l.length) (hs : (l.length : Int) - 34 < lenI h.ty) :
    Calls Try.prog 32 #[.agg (msgF h d).toArray, v, .int .i64 34] w fun e w' => e = .returned (.tuple #[.agg (msgL hd0 zr).toArray, .int .i64 0, .int .i64 2]) ∧ Below w.heap.size w w' := by
  obtain ⟨p, cap, rfl, -, -, -⟩ := hB
  have hlen := lenI_in h.ty
  obtain ⟨hlen0, hlen1⟩ := hlen
  go_enter Try.func32, Try.ntmps32
  go_upto_region 1 with fail
  have hM : Box ((w.alloc (Obj.cells (msgF h d).toArray 28)).alloc (Obj.cells (msgL hd0 zr).toArray 28)) w.heap.size (msgF h d) 28 := (Box.new w _ _).below (bnew _ _)
  have hA : Box ((w.alloc (Obj.cells (msgF h d).toArray 28)).alloc (Obj.cells (msgL hd0 zr).toArray 28)) (w.heap.size + 1) (msgL hd0 zr) 28 := heap_alloc2_new w _ _
  have hb := bnew2 w (Obj.cells (msgF h d).toArray 28) (Obj.cells (msgL hd0 zr).toArray 28)
  have hG : w.heap.size ≤ w.heap.size + 1 := by omega
  have hne : w.heap.size + 1 ≠ w.heap.size := by omega
  change Code.wp Try.prog _ _ _ ((w.alloc (Obj.cells (msgF h d).toArray 28)).alloc (Obj.cells (msgL hd0 zr).toArray 28))
  generalize ((w.alloc (Obj.cells (msgF h d).toArray 28)).alloc (Obj.cells (msgL hd0 zr).toArray 28)) = W at *
  generalize w.heap.size + 1 = G at *
  have c0 := hM.cell 0 _ rfl
  go_wp2_with fail
  refine (refLen_any h.ty _).mono ?_
  rintro e w' ⟨rfl, rfl⟩
  go_wp2_with (guard_target =~ wpList _ _ _ (⟨none, _, _, _, _, _⟩ :: _) _ _; refine wpList_store_msg (op := ⟨none, .store _ _ _, _, _, _, _⟩) (by rfl) _ _ (by rfl) G (msgL hd0 zr) (msgL hd0 zr) _ (by rfl) (by rfl) hA (msgL_length _ _ zr_length) (msgL_length _ _ zr_length) (msgL_one _ _ zr_one) ?_)
  refine bodyPost_ret (v := .tuple #[.agg (msgL hd0 zr).toArray, .int .i64 0, .int .i64 2]) ?_ rfl ⟨rfl, below_setRow hb hG _⟩
  exact results_msg_3 (p := 6) (u := 7) (u' := 8) rfl _ _ G _ (msgL hd0 zr) rfl (hA.row _) (msgL_length _ _ zr_length)

set_option maxRecDepth 100000 in
set_option maxHeartbeats 4000000 in
theorem refBodyGet_range (v : Value) (l : List UInt8) (h : Hd) (d : Bd) (w : World) (hB : Bytes w v l) (hl : l.length ≤ 140737488351232) (hk : knownB h.ty = true) (hA : (34 : Int) + lenI h.ty ≤ l.length) (hgb : getB l 34 = false) (hs : stB h.ty = true) :
    Calls Try.prog 32 #[.agg (msgF h d).toArray, v, .int .i64 34] w fun e w' => e = .returned (.tuple #[.agg (msgL hd0 zr).toArray, .int .i64 0, .int .i64 10]) ∧ Below w.heap.size w w' := by
  have Hgb := hid hgb
  clear hgb
  have hlen := lenI_in h.ty
  obtain ⟨hlen0, hlen1⟩ := hlen
  have hns : lenI h.ty ≤ (l.length : Int) - 34 := by omega
  have hS := stamped_known h.ty
  have hT := targeted_known h.ty
  have hN := refKnown_any h.ty
  rw [hk] at hN
  have HS := hid fun w => hS w hk
  have HTG := hid fun w => hT w hk
  have HN := hid hN
  clear hS hT hN hk
  have HB := hid fun (w' : World) (h : Below w.heap.size w w') => hB.below h
  obtain ⟨p, cap, rfl, -, -, -⟩ := hB
  have HLE := hid hA
  clear hA
  go_enter Try.func32, Try.ntmps32
  go_upto_region 1 with fail
  have hM : Box ((w.alloc (Obj.cells (msgF h d).toArray 28)).alloc (Obj.cells (msgL hd0 zr).toArray 28)) w.heap.size (msgF h d) 28 := (Box.new w _ _).below (bnew _ _)
  have hA : Box ((w.alloc (Obj.cells (msgF h d).toArray 28)).alloc (Obj.cells (msgL hd0 zr).toArray 28)) (w.heap.size + 1) (msgL hd0 zr) 28 := heap_alloc2_new w _ _
  have hb := bnew2 w (Obj.cells (msgF h d).toArray 28) (Obj.cells (msgL hd0 zr).toArray 28)
  have hG : w.heap.size ≤ w.heap.size + 1 := by omega
  have hne : w.heap.size + 1 ≠ w.heap.size := by omega
  change Code.wp Try.prog _ _ _ ((w.alloc (Obj.cells (msgF h d).toArray 28)).alloc (Obj.cells (msgL hd0 zr).toArray 28))
  generalize ((w.alloc (Obj.cells (msgF h d).toArray 28)).alloc (Obj.cells (msgL hd0 zr).toArray 28)) = W at *
  generalize w.heap.size + 1 = G at *
  have c0 := hM.cell 0 _ rfl
  go_wp2_with fail
  refine (refLen_any h.ty _).mono ?_
  rintro e w' ⟨rfl, rfl⟩
  go_wp2_with fail
  refine (refLen_any h.ty _).mono ?_
  rintro e w' ⟨rfl, rfl⟩
  clear hns
  go_wp2_with fail
  refine (HN.out _).mono ?_
  rintro e w' ⟨rfl, rfl⟩
  go_wp2_with fail
  refine (HS.out _).mono ?_
  rintro e w' ⟨rfl, rfl⟩
  rw [hs]
  go_wp2_with fail
  refine (refStampGet_any _ l _ _ (HB.out _ hb) hl (by decide) (by decide)).mono ?_
  rintro e w' ⟨rfl, rfl⟩
  rw [Hgb.out]
  clear c0 hM
  go_wp2_with (guard_target =~ wpList _ _ _ (⟨none, _, _, _, _, _⟩ :: _) _ _; refine wpList_store_msg (op := ⟨none, .store _ _ _, _, _, _, _⟩) (by rfl) _ _ (by rfl) G (msgL hd0 zr) (msgL hd0 zr) _ (by rfl) (by rfl) hA (msgL_length _ _ zr_length) (msgL_length _ _ zr_length) (msgL_one _ _ zr_one) ?_)
  refine bodyPost_ret (v := .tuple #[.agg (msgL hd0 zr).toArray, .int .i64 0, .int .i64 10]) ?_ rfl ⟨rfl, below_setRow hb hG _⟩
  exact results_msg_3 (p := 6) (u := 7) (u' := 8) rfl _ _ G _ (msgL hd0 zr) rfl (hA.row _) (msgL_length _ _ zr_length)

set_option maxRecDepth 100000 in
set_option maxHeartbeats 4000000 in
theorem refBodyGet_S (v : Value) (l : List UInt8) (h : Hd) (d : Bd) (w : World) (hB : Bytes w v l) (hl : l.length ≤ 140737488351232) (hk : knownB h.ty = true) (hA : (34 : Int) + lenI h.ty ≤ l.length) (hgb : getB l 34 = true) (hs : stB h.ty = true) (hg : tgB h.ty = false) (h11 : h.ty ≠ 11) (h13 : h.ty ≠ 13) :
    Calls Try.prog 32 #[.agg (msgF h d).toArray, v, .int .i64 34] w fun e w' => e = .returned (.tuple #[.agg (msgF h (⟨getV l 34, d.tc, d.tp, d.ut, d.p1, d.qc, d.qa, d.qv, d.p2, d.gr, d.sr, d.og, d.sh, d.hp, d.ac⟩)).toArray, .int .i64 ((34 : Int) + lenI h.ty), .int .i64 0]) ∧ Below w.heap.size w w' := by
  have e11 : (h.ty == 11) = false := by rw [beq_eq_false_iff_ne]; omega
  have e13 : (h.ty == 13) = false := by rw [beq_eq_false_iff_ne]; omega
  have hlenx := lenI_in h.ty
  have hE : lenI h.ty = 10 + ownI h.ty := by unfold lenI; rw [hs, hg]; simp
  have hown := ownI_in h.ty
  obtain ⟨hown0, hown1⟩ := hown
  have hnl : 44 ≤ l.length := by omega
  have HNL := hid hnl
  clear hE hlenx hown0 hown1 h11 h13
  have Hgb := hid hgb
  clear hgb
  have hlen := lenI_in h.ty
  obtain ⟨hlen0, hlen1⟩ := hlen
  have hns : lenI h.ty ≤ (l.length : Int) - 34 := by omega
  have hS := stamped_known h.ty
  have hT := targeted_known h.ty
  have hN := refKnown_any h.ty
  rw [hk] at hN
  have HS := hid fun w => hS w hk
  have HTG := hid fun w => hT w hk
  have HN := hid hN
  clear hS hT hN hk
  have HB := hid fun (w' : World) (h : Below w.heap.size w w') => hB.below h
  obtain ⟨p, cap, rfl, -, -, -⟩ := hB
  have HLE := hid hA
  clear hA
  go_enter Try.func32, Try.ntmps32
  go_upto_region 1 with fail
  have hM : Box ((w.alloc (Obj.cells (msgF h d).toArray 28)).alloc (Obj.cells (msgL hd0 zr).toArray 28)) w.heap.size (msgF h d) 28 := (Box.new w _ _).below (bnew _ _)
  have hA : Box ((w.alloc (Obj.cells (msgF h d).toArray 28)).alloc (Obj.cells (msgL hd0 zr).toArray 28)) (w.heap.size + 1) (msgL hd0 zr) 28 := heap_alloc2_new w _ _
  have hb := bnew2 w (Obj.cells (msgF h d).toArray 28) (Obj.cells (msgL hd0 zr).toArray 28)
  have hG : w.heap.size ≤ w.heap.size + 1 := by omega
  have hne : w.heap.size + 1 ≠ w.heap.size := by omega
  change Code.wp Try.prog _ _ _ ((w.alloc (Obj.cells (msgF h d).toArray 28)).alloc (Obj.cells (msgL hd0 zr).toArray 28))
  generalize ((w.alloc (Obj.cells (msgF h d).toArray 28)).alloc (Obj.cells (msgL hd0 zr).toArray 28)) = W at *
  generalize w.heap.size + 1 = G at *
  have c0 := hM.cell 0 _ rfl
  go_wp2_with fail
  refine (refLen_any h.ty _).mono ?_
  rintro e w' ⟨rfl, rfl⟩
  go_wp2_with fail
  refine (refLen_any h.ty _).mono ?_
  rintro e w' ⟨rfl, rfl⟩
  clear hns
  go_wp2_with fail
  refine (HN.out _).mono ?_
  rintro e w' ⟨rfl, rfl⟩
  go_wp2_with fail
  refine (HS.out _).mono ?_
  rintro e w' ⟨rfl, rfl⟩
  rw [hs]
  go_wp2_with fail
  refine (refStampGet_any _ l _ _ (HB.out _ hb) hl (by decide) (by decide)).mono ?_
  rintro e w' ⟨rfl, rfl⟩
  rw [Hgb.out]
  have hc8 := hM.cell 8 _ rfl
  have hf8 := hM.free 8
  go_upto_region 11 with fail
  replace hA := (hA.other hne 8 (.int .i64 (getV l 34)))
  replace hb := (hb.setCell (p := ⟨w.heap.size, 8, none⟩) (Nat.le_refl _) (.int .i64 (getV l 34)))
  replace hM : Box _ w.heap.size (msgF h ⟨getV l 34, d.tc, d.tp, d.ut, d.p1, d.qc, d.qa, d.qv, d.p2, d.gr, d.sr, d.og, d.sh, d.hp, d.ac⟩) _ := (hM.set 8 (.int .i64 (getV l 34)))
  clear c0 hc8 hf8
  generalize World.setCell _ _ _ = W at *
  have c0 := hM.cell 0 _ rfl
  go_wp2_with fail
  refine (HTG.out _).mono ?_
  rintro e w' ⟨rfl, rfl⟩
  rw [hg]
  go_upto_region 28 with fail
  clear c0
  go_wp2_with (first | (guard_target =~ wpList _ _ _ (⟨some 149, _, _, _, _, _⟩ :: _) _ _; refine wpList_load_msg (op := ⟨some 149, .load _ _, _, _, _, _⟩) (by rfl) _ (by rfl) w.heap.size (by rfl) (msgF h ⟨getV l 34, d.tc, d.tp, d.ut, d.p1, d.qc, d.qa, d.qv, d.p2, d.gr, d.sr, d.og, d.sh, d.hp, d.ac⟩) _ hM (msgF_length _ _) ?_) | (guard_target =~ wpList _ _ _ (⟨none, _, _, _, _, _⟩ :: _) _ _; refine wpList_store_msg (op := ⟨none, .store _ _ _, _, _, _, _⟩) (by rfl) _ _ (by rfl) G (msgF h ⟨getV l 34, d.tc, d.tp, d.ut, d.p1, d.qc, d.qa, d.qv, d.p2, d.gr, d.sr, d.og, d.sh, d.hp, d.ac⟩) (msgL hd0 zr) _ (by rfl) (by rfl) hA (msgF_length _ _) (msgL_length _ _ zr_length) (msgL_one _ _ (bdL_one _)) ?_))
  refine bodyPost_ret (v := .tuple #[.agg (msgF h ⟨getV l 34, d.tc, d.tp, d.ut, d.p1, d.qc, d.qa, d.qv, d.p2, d.gr, d.sr, d.og, d.sh, d.hp, d.ac⟩).toArray, .int .i64 ((34 : Int) + lenI h.ty), .int .i64 0]) ?_ rfl ⟨rfl, below_setRow hb hG _⟩
  exact results_msg_3 (p := 6) (u := 7) (u' := 8) rfl _ _ G _ (msgF h ⟨getV l 34, d.tc, d.tp, d.ut, d.p1, d.qc, d.qa, d.qv, d.p2, d.gr, d.sr, d.og, d.sh, d.hp, d.ac⟩) rfl (hA.row _) (msgF_length _ _)

set_option maxRecDepth 100000 in
set_option maxHeartbeats 4000000 in
theorem refBodyGet_B (v : Value) (l : List UInt8) (h : Hd) (d : Bd) (w : World) (hB : Bytes w v l) (hl : l.length ≤ 140737488351232) (hk : knownB h.ty = true) (hA : (34 : Int) + lenI h.ty ≤ l.length) (hgb : getB l 34 = true) (hs : stB h.ty = true) (hg : tgB h.ty = true) (h11 : h.ty ≠ 11) (h13 : h.ty ≠ 13) :
    Calls Try.prog 32 #[.agg (msgF h d).toArray, v, .int .i64 34] w fun e w' => e = .returned (.tuple #[.agg (msgF h (⟨getV l 34, (numAt l 44 8 : Nat), (numAt l 52 2 : Nat), d.ut, d.p1, d.qc, d.qa, d.qv, d.p2, d.gr, d.sr, d.og, d.sh, d.hp, d.ac⟩)).toArray, .int .i64 ((34 : Int) + lenI h.ty), .int .i64 0]) ∧ Below w.heap.size w w' := by
  have e11 : (h.ty == 11) = false := by rw [beq_eq_false_iff_ne]; omega
  have e13 : (h.ty == 13) = false := by rw [beq_eq_false_iff_ne]; omega
  have hlenx := lenI_in h.ty
  have hE : lenI h.ty = 20 + ownI h.ty := by unfold lenI; rw [hs, hg]; simp
  have hown := ownI_in h.ty
  obtain ⟨hown0, hown1⟩ := hown
  have hnl : 54 ≤ l.length := by omega
  have HNL := hid hnl
  clear hE hlenx hown0 hown1 h11 h13
  have Hgb := hid hgb
  clear hgb
  have hlen := lenI_in h.ty
  obtain ⟨hlen0, hlen1⟩ := hlen
  have hns : lenI h.ty ≤ (l.length : Int) - 34 := by omega
  have hS := stamped_known h.ty
  have hT := targeted_known h.ty
  have hN := refKnown_any h.ty
  rw [hk] at hN
  have HS := hid fun w => hS w hk
  have HTG := hid fun w => hT w hk
  have HN := hid hN
  clear hS hT hN hk
  have HB := hid fun (w' : World) (h : Below w.heap.size w w') => hB.below h
  obtain ⟨p, cap, rfl, -, -, -⟩ := hB
  have HLE := hid hA
  clear hA
  go_enter Try.func32, Try.ntmps32
  go_upto_region 1 with fail
  have hM : Box ((w.alloc (Obj.cells (msgF h d).toArray 28)).alloc (Obj.cells (msgL hd0 zr).toArray 28)) w.heap.size (msgF h d) 28 := (Box.new w _ _).below (bnew _ _)
  have hA : Box ((w.alloc (Obj.cells (msgF h d).toArray 28)).alloc (Obj.cells (msgL hd0 zr).toArray 28)) (w.heap.size + 1) (msgL hd0 zr) 28 := heap_alloc2_new w _ _
  have hb := bnew2 w (Obj.cells (msgF h d).toArray 28) (Obj.cells (msgL hd0 zr).toArray 28)
  have hG : w.heap.size ≤ w.heap.size + 1 := by omega
  have hne : w.heap.size + 1 ≠ w.heap.size := by omega
  change Code.wp Try.prog _ _ _ ((w.alloc (Obj.cells (msgF h d).toArray 28)).alloc (Obj.cells (msgL hd0 zr).toArray 28))
  generalize ((w.alloc (Obj.cells (msgF h d).toArray 28)).alloc (Obj.cells (msgL hd0 zr).toArray 28)) = W at *
  generalize w.heap.size + 1 = G at *
  have c0 := hM.cell 0 _ rfl
  go_wp2_with fail
  refine (refLen_any h.ty _).mono ?_
  rintro e w' ⟨rfl, rfl⟩
  go_wp2_with fail
  refine (refLen_any h.ty _).mono ?_
  rintro e w' ⟨rfl, rfl⟩
  clear hns
  go_wp2_with fail
  refine (HN.out _).mono ?_
  rintro e w' ⟨rfl, rfl⟩
  go_wp2_with fail
  refine (HS.out _).mono ?_
  rintro e w' ⟨rfl, rfl⟩
  rw [hs]
  go_wp2_with fail
  refine (refStampGet_any _ l _ _ (HB.out _ hb) hl (by decide) (by decide)).mono ?_
  rintro e w' ⟨rfl, rfl⟩
  rw [Hgb.out]
  have hc8 := hM.cell 8 _ rfl
  have hf8 := hM.free 8
  go_upto_region 11 with fail
  replace hA := (hA.other hne 8 (.int .i64 (getV l 34)))
  replace hb := (hb.setCell (p := ⟨w.heap.size, 8, none⟩) (Nat.le_refl _) (.int .i64 (getV l 34)))
  replace hM : Box _ w.heap.size (msgF h ⟨getV l 34, d.tc, d.tp, d.ut, d.p1, d.qc, d.qa, d.qv, d.p2, d.gr, d.sr, d.og, d.sh, d.hp, d.ac⟩) _ := (hM.set 8 (.int .i64 (getV l 34)))
  clear c0 hc8 hf8
  generalize World.setCell _ _ _ = W at *
  have c0 := hM.cell 0 _ rfl
  go_wp2_with fail
  refine (HTG.out _).mono ?_
  rintro e w' ⟨rfl, rfl⟩
  rw [hg]
  have HST : Hid (standB l.length 44 10 = true) := hid (standB_true (by decide) (by decide) (by have := HNL.out; omega))
  go_wp2_with fail
  refine (refIdentGet_any _ l _ _ (HB.out _ hb) (by omega) (by decide)).mono ?_
  rintro e wi ⟨rfl, hbi⟩
  rw [gotC_yes HST.out, gotP_yes HST.out, show Int.toNat 44 = 44 from rfl, show 44 + 8 = 52 from rfl]
  replace hM := hM.below hbi
  replace hA := hA.below hbi
  replace hb := bnext hb hbi
  clear hbi c0
  have c0 := hM.cell 0 _ rfl
  have hc9 := hM.cell 9 _ rfl
  have hf9 := hM.free 9
  have hc10 := hM.cell 10 _ rfl
  have hf10 := hM.free 10
  go_upto_region 14 with fail
  replace hA := ((hA.other hne 9 (.int .u64 ((numAt l 44 8 : Nat)))).other hne 10 (.int .i64 ((numAt l 52 2 : Nat))))
  replace hb := ((hb.setCell (p := ⟨w.heap.size, 9, none⟩) (Nat.le_refl _) (.int .u64 ((numAt l 44 8 : Nat)))).setCell (p := ⟨w.heap.size, 10, none⟩) (Nat.le_refl _) (.int .i64 ((numAt l 52 2 : Nat))))
  replace hM : Box _ w.heap.size (msgF h ⟨getV l 34, (numAt l 44 8 : Nat), (numAt l 52 2 : Nat), d.ut, d.p1, d.qc, d.qa, d.qv, d.p2, d.gr, d.sr, d.og, d.sh, d.hp, d.ac⟩) _ := ((hM.set 9 (.int .u64 ((numAt l 44 8 : Nat)))).set 10 (.int .i64 ((numAt l 52 2 : Nat))))
  clear c0 hc9 hf9 hc10 hf10
  generalize World.setCell _ _ _ = W at *
  have c0 := hM.cell 0 _ rfl
  go_upto_region 28 with fail
  clear c0
  go_wp2_with (first | (guard_target =~ wpList _ _ _ (⟨some 149, _, _, _, _, _⟩ :: _) _ _; refine wpList_load_msg (op := ⟨some 149, .load _ _, _, _, _, _⟩) (by rfl) _ (by rfl) w.heap.size (by rfl) (msgF h ⟨getV l 34, (numAt l 44 8 : Nat), (numAt l 52 2 : Nat), d.ut, d.p1, d.qc, d.qa, d.qv, d.p2, d.gr, d.sr, d.og, d.sh, d.hp, d.ac⟩) _ hM (msgF_length _ _) ?_) | (guard_target =~ wpList _ _ _ (⟨none, _, _, _, _, _⟩ :: _) _ _; refine wpList_store_msg (op := ⟨none, .store _ _ _, _, _, _, _⟩) (by rfl) _ _ (by rfl) G (msgF h ⟨getV l 34, (numAt l 44 8 : Nat), (numAt l 52 2 : Nat), d.ut, d.p1, d.qc, d.qa, d.qv, d.p2, d.gr, d.sr, d.og, d.sh, d.hp, d.ac⟩) (msgL hd0 zr) _ (by rfl) (by rfl) hA (msgF_length _ _) (msgL_length _ _ zr_length) (msgL_one _ _ (bdL_one _)) ?_))
  refine bodyPost_ret (v := .tuple #[.agg (msgF h ⟨getV l 34, (numAt l 44 8 : Nat), (numAt l 52 2 : Nat), d.ut, d.p1, d.qc, d.qa, d.qv, d.p2, d.gr, d.sr, d.og, d.sh, d.hp, d.ac⟩).toArray, .int .i64 ((34 : Int) + lenI h.ty), .int .i64 0]) ?_ rfl ⟨rfl, below_setRow hb hG _⟩
  exact results_msg_3 (p := 6) (u := 7) (u' := 8) rfl _ _ G _ (msgF h ⟨getV l 34, (numAt l 44 8 : Nat), (numAt l 52 2 : Nat), d.ut, d.p1, d.qc, d.qa, d.qv, d.p2, d.gr, d.sr, d.og, d.sh, d.hp, d.ac⟩) rfl (hA.row _) (msgF_length _ _)

set_option maxRecDepth 100000 in
set_option maxHeartbeats 4000000 in
theorem refBodyGet_A (v : Value) (l : List UInt8) (h : Hd) (d : Bd) (w : World) (hB : Bytes w v l) (hl : l.length ≤ 140737488351232) (hk : knownB h.ty = true) (hA : (34 : Int) + lenI h.ty ≤ l.length) (hgb : getB l 34 = true) (h11 : h.ty = 11) :
    Calls Try.prog 32 #[.agg (msgF h d).toArray, v, .int .i64 34] w fun e w' => e = .returned (.tuple #[.agg (msgF h (⟨getV l 34, d.tc, d.tp, signedAt l 44 2, (numAt l 47 1 : Nat), (numAt l 48 1 : Nat), (numAt l 49 1 : Nat), (numAt l 50 2 : Nat), (numAt l 52 1 : Nat), (numAt l 53 8 : Nat), (numAt l 61 2 : Nat), (numAt l 63 1 : Nat), d.sh, d.hp, d.ac⟩)).toArray, .int .i64 ((34 : Int) + lenI h.ty), .int .i64 0]) ∧ Below w.heap.size w w' := by
  have hs : stB h.ty = true := by rw [h11]; decide
  have hg : tgB h.ty = false := by rw [h11]; decide
  have h13 : h.ty ≠ 13 := by omega
  have e11 : (h.ty == 11) = true := by rw [beq_iff_eq]; omega
  have e13 : (h.ty == 13) = false := by rw [beq_eq_false_iff_ne]; omega
  have hlenx := lenI_in h.ty
  have hE : lenI h.ty = 10 + ownI h.ty := by unfold lenI; rw [hs, hg]; simp
  have hown := ownI_in h.ty
  obtain ⟨hown0, hown1⟩ := hown
  have hO : ownI h.ty = 20 := by rw [h11]; rfl
  have hnl : 64 ≤ l.length := by omega
  have HX := hid fun (wx : World) (hx : Bytes wx v l) (i : Nat) (hi : i < l.length) => byte_at hx i hi
  have q47 := numAt1_lt l 47
  have q52 := numAt1_lt l 52
  have q63 := numAt1_lt l 63
  have HNL := hid hnl
  clear hE hlenx hown0 hown1 hO h11 h13
  have Hgb := hid hgb
  clear hgb
  have hlen := lenI_in h.ty
  obtain ⟨hlen0, hlen1⟩ := hlen
  have hns : lenI h.ty ≤ (l.length : Int) - 34 := by omega
  have hS := stamped_known h.ty
  have hT := targeted_known h.ty
  have hN := refKnown_any h.ty
  rw [hk] at hN
  have HS := hid fun w => hS w hk
  have HTG := hid fun w => hT w hk
  have HN := hid hN
  clear hS hT hN hk
  have HB := hid fun (w' : World) (h : Below w.heap.size w w') => hB.below h
  obtain ⟨p, cap, rfl, -, -, -⟩ := hB
  have HLE := hid hA
  clear hA
  go_enter Try.func32, Try.ntmps32
  go_upto_region 1 with fail
  have hM : Box ((w.alloc (Obj.cells (msgF h d).toArray 28)).alloc (Obj.cells (msgL hd0 zr).toArray 28)) w.heap.size (msgF h d) 28 := (Box.new w _ _).below (bnew _ _)
  have hA : Box ((w.alloc (Obj.cells (msgF h d).toArray 28)).alloc (Obj.cells (msgL hd0 zr).toArray 28)) (w.heap.size + 1) (msgL hd0 zr) 28 := heap_alloc2_new w _ _
  have hb := bnew2 w (Obj.cells (msgF h d).toArray 28) (Obj.cells (msgL hd0 zr).toArray 28)
  have hG : w.heap.size ≤ w.heap.size + 1 := by omega
  have hne : w.heap.size + 1 ≠ w.heap.size := by omega
  change Code.wp Try.prog _ _ _ ((w.alloc (Obj.cells (msgF h d).toArray 28)).alloc (Obj.cells (msgL hd0 zr).toArray 28))
  generalize ((w.alloc (Obj.cells (msgF h d).toArray 28)).alloc (Obj.cells (msgL hd0 zr).toArray 28)) = W at *
  generalize w.heap.size + 1 = G at *
  have c0 := hM.cell 0 _ rfl
  go_wp2_with fail
  refine (refLen_any h.ty _).mono ?_
  rintro e w' ⟨rfl, rfl⟩
  go_wp2_with fail
  refine (refLen_any h.ty _).mono ?_
  rintro e w' ⟨rfl, rfl⟩
  clear hns
  go_wp2_with fail
  refine (HN.out _).mono ?_
  rintro e w' ⟨rfl, rfl⟩
  go_wp2_with fail
  refine (HS.out _).mono ?_
  rintro e w' ⟨rfl, rfl⟩
  rw [hs]
  go_wp2_with fail
  refine (refStampGet_any _ l _ _ (HB.out _ hb) hl (by decide) (by decide)).mono ?_
  rintro e w' ⟨rfl, rfl⟩
  rw [Hgb.out]
  have hc8 := hM.cell 8 _ rfl
  have hf8 := hM.free 8
  go_upto_region 11 with fail
  replace hA := (hA.other hne 8 (.int .i64 (getV l 34)))
  replace hb := (hb.setCell (p := ⟨w.heap.size, 8, none⟩) (Nat.le_refl _) (.int .i64 (getV l 34)))
  replace hM : Box _ w.heap.size (msgF h ⟨getV l 34, d.tc, d.tp, d.ut, d.p1, d.qc, d.qa, d.qv, d.p2, d.gr, d.sr, d.og, d.sh, d.hp, d.ac⟩) _ := (hM.set 8 (.int .i64 (getV l 34)))
  clear c0 hc8 hf8
  generalize World.setCell _ _ _ = W at *
  have c0 := hM.cell 0 _ rfl
  go_wp2_with fail
  refine (HTG.out _).mono ?_
  rintro e w' ⟨rfl, rfl⟩
  rw [hg]
  go_wp2_with fail
  refine (refSigned2_ok _ l _ _ (HB.out _ hb) (by omega) (by decide) (standB_true (by decide) (by decide) (by have := HNL.out; omega))).mono ?_
  rintro e w' ⟨rfl, rfl⟩
  rw [show Int.toNat 44 = 44 from rfl]
  have hc11 := hM.cell 11 _ rfl
  have hf11 := hM.free 11
  go_upto_region 18 with fail
  replace hA := (hA.other hne 11 (.int .i64 (signedAt l 44 2)))
  replace hb := (hb.setCell (p := ⟨w.heap.size, 11, none⟩) (Nat.le_refl _) (.int .i64 (signedAt l 44 2)))
  replace hM : Box _ w.heap.size (msgF h ⟨getV l 34, d.tc, d.tp, signedAt l 44 2, d.p1, d.qc, d.qa, d.qv, d.p2, d.gr, d.sr, d.og, d.sh, d.hp, d.ac⟩) _ := (hM.set 11 (.int .i64 (signedAt l 44 2)))
  clear c0 hc11 hf11
  generalize World.setCell _ _ _ = W at *
  have c0 := hM.cell 0 _ rfl
  obtain ⟨cb, pb, ob, hpe, hx47⟩ := HX.out _ (HB.out _ hb) 47 (by have := HNL.out; omega)
  cases hpe
  have hnl := HNL.out
  have hc12 := hM.cell 12 _ rfl
  have hf12 := hM.free 12
  go_upto_region 19 with fail
  clear hx47 hnl
  replace hA := (hA.other hne 12 (.int .i64 ((numAt l 47 1 : Nat))))
  replace hb := (hb.setCell (p := ⟨w.heap.size, 12, none⟩) (Nat.le_refl _) (.int .i64 ((numAt l 47 1 : Nat))))
  replace hM : Box _ w.heap.size (msgF h ⟨getV l 34, d.tc, d.tp, signedAt l 44 2, (numAt l 47 1 : Nat), d.qc, d.qa, d.qv, d.p2, d.gr, d.sr, d.og, d.sh, d.hp, d.ac⟩) _ := (hM.set 12 (.int .i64 ((numAt l 47 1 : Nat))))
  clear c0 hc12 hf12
  generalize World.setCell _ _ _ = W at *
  have c0 := hM.cell 0 _ rfl
  go_wp2_with fail
  refine (refQualGet_any _ l _ _ (HB.out _ hb) (by omega) (by decide)).mono ?_
  rintro e wq ⟨rfl, hbq⟩
  obtain ⟨q1, q2, q3, q4⟩ := gotQ_yes (l := l) (at' := 48) (standB_true (by decide) (by decide) (by have := HNL.out; omega))
  rw [q1, q2, q3, q4, show Int.toNat 48 = 48 from rfl, show 48 + 1 = 49 from rfl, show 48 + 2 = 50 from rfl]
  clear q1 q2 q3 q4
  replace hM := hM.below hbq
  replace hA := hA.below hbq
  replace hb := bnext hb hbq
  clear hbq c0
  have c0 := hM.cell 0 _ rfl
  have hc13 := hM.cell 13 _ rfl
  have hf13 := hM.free 13
  have hc14 := hM.cell 14 _ rfl
  have hf14 := hM.free 14
  have hc15 := hM.cell 15 _ rfl
  have hf15 := hM.free 15
  go_upto_region 20 with fail
  replace hA := (((hA.other hne 13 (.int .i64 ((numAt l 48 1 : Nat)))).other hne 14 (.int .i64 ((numAt l 49 1 : Nat)))).other hne 15 (.int .i64 ((numAt l 50 2 : Nat))))
  replace hb := (((hb.setCell (p := ⟨w.heap.size, 13, none⟩) (Nat.le_refl _) (.int .i64 ((numAt l 48 1 : Nat)))).setCell (p := ⟨w.heap.size, 14, none⟩) (Nat.le_refl _) (.int .i64 ((numAt l 49 1 : Nat)))).setCell (p := ⟨w.heap.size, 15, none⟩) (Nat.le_refl _) (.int .i64 ((numAt l 50 2 : Nat))))
  replace hM : Box _ w.heap.size (msgF h ⟨getV l 34, d.tc, d.tp, signedAt l 44 2, (numAt l 47 1 : Nat), (numAt l 48 1 : Nat), (numAt l 49 1 : Nat), (numAt l 50 2 : Nat), d.p2, d.gr, d.sr, d.og, d.sh, d.hp, d.ac⟩) _ := (((hM.set 13 (.int .i64 ((numAt l 48 1 : Nat)))).set 14 (.int .i64 ((numAt l 49 1 : Nat)))).set 15 (.int .i64 ((numAt l 50 2 : Nat))))
  clear c0 hc13 hf13 hc14 hf14 hc15 hf15
  generalize World.setCell _ _ _ = W at *
  have c0 := hM.cell 0 _ rfl
  obtain ⟨cb, pb, ob, hpe, hx52⟩ := HX.out _ (HB.out _ hb) 52 (by have := HNL.out; omega)
  cases hpe
  have hnl := HNL.out
  have hc16 := hM.cell 16 _ rfl
  have hf16 := hM.free 16
  go_upto_region 21 with fail
  clear hx52 hnl
  replace hA := (hA.other hne 16 (.int .i64 ((numAt l 52 1 : Nat))))
  replace hb := (hb.setCell (p := ⟨w.heap.size, 16, none⟩) (Nat.le_refl _) (.int .i64 ((numAt l 52 1 : Nat))))
  replace hM : Box _ w.heap.size (msgF h ⟨getV l 34, d.tc, d.tp, signedAt l 44 2, (numAt l 47 1 : Nat), (numAt l 48 1 : Nat), (numAt l 49 1 : Nat), (numAt l 50 2 : Nat), (numAt l 52 1 : Nat), d.gr, d.sr, d.og, d.sh, d.hp, d.ac⟩) _ := (hM.set 16 (.int .i64 ((numAt l 52 1 : Nat))))
  clear c0 hc16 hf16
  generalize World.setCell _ _ _ = W at *
  have c0 := hM.cell 0 _ rfl
  go_wp2_with fail
  refine (refId_ok _ l _ _ (HB.out _ hb) (by omega) (by decide) (standB_true (by decide) (by decide) (by have := HNL.out; omega))).mono ?_
  rintro e w' ⟨rfl, rfl⟩
  rw [show Int.toNat 53 = 53 from rfl]
  have hc17 := hM.cell 17 _ rfl
  have hf17 := hM.free 17
  go_upto_region 22 with fail
  replace hA := (hA.other hne 17 (.int .u64 ((numAt l 53 8 : Nat))))
  replace hb := (hb.setCell (p := ⟨w.heap.size, 17, none⟩) (Nat.le_refl _) (.int .u64 ((numAt l 53 8 : Nat))))
  replace hM : Box _ w.heap.size (msgF h ⟨getV l 34, d.tc, d.tp, signedAt l 44 2, (numAt l 47 1 : Nat), (numAt l 48 1 : Nat), (numAt l 49 1 : Nat), (numAt l 50 2 : Nat), (numAt l 52 1 : Nat), (numAt l 53 8 : Nat), d.sr, d.og, d.sh, d.hp, d.ac⟩) _ := (hM.set 17 (.int .u64 ((numAt l 53 8 : Nat))))
  clear c0 hc17 hf17
  generalize World.setCell _ _ _ = W at *
  have c0 := hM.cell 0 _ rfl
  go_wp2_with fail
  refine (refGet_ok _ l _ _ _ (HB.out _ hb) (by omega) (by decide) (by decide) (by decide) (standB_true (by decide) (by decide) (by have := HNL.out; omega))).mono ?_
  rintro e w' ⟨rfl, rfl⟩
  rw [show Int.toNat 61 = 61 from rfl, show Int.toNat 2 = 2 from rfl]
  have hc18 := hM.cell 18 _ rfl
  have hf18 := hM.free 18
  go_upto_region 23 with fail
  replace hA := (hA.other hne 18 (.int .i64 ((numAt l 61 2 : Nat))))
  replace hb := (hb.setCell (p := ⟨w.heap.size, 18, none⟩) (Nat.le_refl _) (.int .i64 ((numAt l 61 2 : Nat))))
  replace hM : Box _ w.heap.size (msgF h ⟨getV l 34, d.tc, d.tp, signedAt l 44 2, (numAt l 47 1 : Nat), (numAt l 48 1 : Nat), (numAt l 49 1 : Nat), (numAt l 50 2 : Nat), (numAt l 52 1 : Nat), (numAt l 53 8 : Nat), (numAt l 61 2 : Nat), d.og, d.sh, d.hp, d.ac⟩) _ := (hM.set 18 (.int .i64 ((numAt l 61 2 : Nat))))
  clear c0 hc18 hf18
  generalize World.setCell _ _ _ = W at *
  have c0 := hM.cell 0 _ rfl
  obtain ⟨cb, pb, ob, hpe, hx63⟩ := HX.out _ (HB.out _ hb) 63 (by have := HNL.out; omega)
  cases hpe
  have hnl := HNL.out
  have hc19 := hM.cell 19 _ rfl
  have hf19 := hM.free 19
  go_upto_region 28 with fail
  clear hx63 hnl
  replace hA := (hA.other hne 19 (.int .i64 ((numAt l 63 1 : Nat))))
  replace hb := (hb.setCell (p := ⟨w.heap.size, 19, none⟩) (Nat.le_refl _) (.int .i64 ((numAt l 63 1 : Nat))))
  replace hM : Box _ w.heap.size (msgF h ⟨getV l 34, d.tc, d.tp, signedAt l 44 2, (numAt l 47 1 : Nat), (numAt l 48 1 : Nat), (numAt l 49 1 : Nat), (numAt l 50 2 : Nat), (numAt l 52 1 : Nat), (numAt l 53 8 : Nat), (numAt l 61 2 : Nat), (numAt l 63 1 : Nat), d.sh, d.hp, d.ac⟩) _ := (hM.set 19 (.int .i64 ((numAt l 63 1 : Nat))))
  clear c0 hc19 hf19
  generalize World.setCell _ _ _ = W at *
  have c0 := hM.cell 0 _ rfl
  go_upto_region 28 with fail
  clear c0
  go_wp2_with (first | (guard_target =~ wpList _ _ _ (⟨some 149, _, _, _, _, _⟩ :: _) _ _; refine wpList_load_msg (op := ⟨some 149, .load _ _, _, _, _, _⟩) (by rfl) _ (by rfl) w.heap.size (by rfl) (msgF h ⟨getV l 34, d.tc, d.tp, signedAt l 44 2, (numAt l 47 1 : Nat), (numAt l 48 1 : Nat), (numAt l 49 1 : Nat), (numAt l 50 2 : Nat), (numAt l 52 1 : Nat), (numAt l 53 8 : Nat), (numAt l 61 2 : Nat), (numAt l 63 1 : Nat), d.sh, d.hp, d.ac⟩) _ hM (msgF_length _ _) ?_) | (guard_target =~ wpList _ _ _ (⟨none, _, _, _, _, _⟩ :: _) _ _; refine wpList_store_msg (op := ⟨none, .store _ _ _, _, _, _, _⟩) (by rfl) _ _ (by rfl) G (msgF h ⟨getV l 34, d.tc, d.tp, signedAt l 44 2, (numAt l 47 1 : Nat), (numAt l 48 1 : Nat), (numAt l 49 1 : Nat), (numAt l 50 2 : Nat), (numAt l 52 1 : Nat), (numAt l 53 8 : Nat), (numAt l 61 2 : Nat), (numAt l 63 1 : Nat), d.sh, d.hp, d.ac⟩) (msgL hd0 zr) _ (by rfl) (by rfl) hA (msgF_length _ _) (msgL_length _ _ zr_length) (msgL_one _ _ (bdL_one _)) ?_))
  refine bodyPost_ret (v := .tuple #[.agg (msgF h ⟨getV l 34, d.tc, d.tp, signedAt l 44 2, (numAt l 47 1 : Nat), (numAt l 48 1 : Nat), (numAt l 49 1 : Nat), (numAt l 50 2 : Nat), (numAt l 52 1 : Nat), (numAt l 53 8 : Nat), (numAt l 61 2 : Nat), (numAt l 63 1 : Nat), d.sh, d.hp, d.ac⟩).toArray, .int .i64 ((34 : Int) + lenI h.ty), .int .i64 0]) ?_ rfl ⟨rfl, below_setRow hb hG _⟩
  exact results_msg_3 (p := 6) (u := 7) (u' := 8) rfl _ _ G _ (msgF h ⟨getV l 34, d.tc, d.tp, signedAt l 44 2, (numAt l 47 1 : Nat), (numAt l 48 1 : Nat), (numAt l 49 1 : Nat), (numAt l 50 2 : Nat), (numAt l 52 1 : Nat), (numAt l 53 8 : Nat), (numAt l 61 2 : Nat), (numAt l 63 1 : Nat), d.sh, d.hp, d.ac⟩) rfl (hA.row _) (msgF_length _ _)

set_option maxRecDepth 100000 in
set_option maxHeartbeats 4000000 in
theorem refBodyGet_G (v : Value) (l : List UInt8) (h : Hd) (d : Bd) (w : World) (hB : Bytes w v l) (hl : l.length ≤ 140737488351232) (hk : knownB h.ty = true) (hA : (34 : Int) + lenI h.ty ≤ l.length) (hs : stB h.ty = false) (hg : tgB h.ty = true) (h11 : h.ty ≠ 11) (h13 : h.ty ≠ 13) :
    Calls Try.prog 32 #[.agg (msgF h d).toArray, v, .int .i64 34] w fun e w' => e = .returned (.tuple #[.agg (msgF h (⟨d.st, (numAt l 34 8 : Nat), (numAt l 42 2 : Nat), d.ut, d.p1, d.qc, d.qa, d.qv, d.p2, d.gr, d.sr, d.og, d.sh, d.hp, d.ac⟩)).toArray, .int .i64 ((34 : Int) + lenI h.ty), .int .i64 0]) ∧ Below w.heap.size w w' := by
  have e11 : (h.ty == 11) = false := by rw [beq_eq_false_iff_ne]; omega
  have e13 : (h.ty == 13) = false := by rw [beq_eq_false_iff_ne]; omega
  have hlenx := lenI_in h.ty
  have hE : lenI h.ty = 10 + ownI h.ty := by unfold lenI; rw [hs, hg]; simp
  have hown := ownI_in h.ty
  obtain ⟨hown0, hown1⟩ := hown
  have hnl : 44 ≤ l.length := by omega
  have HNL := hid hnl
  clear hE hlenx hown0 hown1 h11 h13
  have hlen := lenI_in h.ty
  obtain ⟨hlen0, hlen1⟩ := hlen
  have hns : lenI h.ty ≤ (l.length : Int) - 34 := by omega
  have hS := stamped_known h.ty
  have hT := targeted_known h.ty
  have hN := refKnown_any h.ty
  rw [hk] at hN
  have HS := hid fun w => hS w hk
  have HTG := hid fun w => hT w hk
  have HN := hid hN
  clear hS hT hN hk
  have HB := hid fun (w' : World) (h : Below w.heap.size w w') => hB.below h
  obtain ⟨p, cap, rfl, -, -, -⟩ := hB
  have HLE := hid hA
  clear hA
  go_enter Try.func32, Try.ntmps32
  go_upto_region 1 with fail
  have hM : Box ((w.alloc (Obj.cells (msgF h d).toArray 28)).alloc (Obj.cells (msgL hd0 zr).toArray 28)) w.heap.size (msgF h d) 28 := (Box.new w _ _).below (bnew _ _)
  have hA : Box ((w.alloc (Obj.cells (msgF h d).toArray 28)).alloc (Obj.cells (msgL hd0 zr).toArray 28)) (w.heap.size + 1) (msgL hd0 zr) 28 := heap_alloc2_new w _ _
  have hb := bnew2 w (Obj.cells (msgF h d).toArray 28) (Obj.cells (msgL hd0 zr).toArray 28)
  have hG : w.heap.size ≤ w.heap.size + 1 := by omega
  have hne : w.heap.size + 1 ≠ w.heap.size := by omega
  change Code.wp Try.prog _ _ _ ((w.alloc (Obj.cells (msgF h d).toArray 28)).alloc (Obj.cells (msgL hd0 zr).toArray 28))
  generalize ((w.alloc (Obj.cells (msgF h d).toArray 28)).alloc (Obj.cells (msgL hd0 zr).toArray 28)) = W at *
  generalize w.heap.size + 1 = G at *
  have c0 := hM.cell 0 _ rfl
  go_wp2_with fail
  refine (refLen_any h.ty _).mono ?_
  rintro e w' ⟨rfl, rfl⟩
  go_wp2_with fail
  refine (refLen_any h.ty _).mono ?_
  rintro e w' ⟨rfl, rfl⟩
  clear hns
  go_wp2_with fail
  refine (HN.out _).mono ?_
  rintro e w' ⟨rfl, rfl⟩
  go_wp2_with fail
  refine (HS.out _).mono ?_
  rintro e w' ⟨rfl, rfl⟩
  rw [hs]
  go_wp2_with fail
  refine (HTG.out _).mono ?_
  rintro e w' ⟨rfl, rfl⟩
  rw [hg]
  have HST : Hid (standB l.length 34 10 = true) := hid (standB_true (by decide) (by decide) (by have := HNL.out; omega))
  go_wp2_with fail
  refine (refIdentGet_any _ l _ _ (HB.out _ hb) (by omega) (by decide)).mono ?_
  rintro e wi ⟨rfl, hbi⟩
  rw [gotC_yes HST.out, gotP_yes HST.out, show Int.toNat 34 = 34 from rfl, show 34 + 8 = 42 from rfl]
  replace hM := hM.below hbi
  replace hA := hA.below hbi
  replace hb := bnext hb hbi
  clear hbi c0
  have c0 := hM.cell 0 _ rfl
  have hc9 := hM.cell 9 _ rfl
  have hf9 := hM.free 9
  have hc10 := hM.cell 10 _ rfl
  have hf10 := hM.free 10
  go_upto_region 14 with fail
  replace hA := ((hA.other hne 9 (.int .u64 ((numAt l 34 8 : Nat)))).other hne 10 (.int .i64 ((numAt l 42 2 : Nat))))
  replace hb := ((hb.setCell (p := ⟨w.heap.size, 9, none⟩) (Nat.le_refl _) (.int .u64 ((numAt l 34 8 : Nat)))).setCell (p := ⟨w.heap.size, 10, none⟩) (Nat.le_refl _) (.int .i64 ((numAt l 42 2 : Nat))))
  replace hM : Box _ w.heap.size (msgF h ⟨d.st, (numAt l 34 8 : Nat), (numAt l 42 2 : Nat), d.ut, d.p1, d.qc, d.qa, d.qv, d.p2, d.gr, d.sr, d.og, d.sh, d.hp, d.ac⟩) _ := ((hM.set 9 (.int .u64 ((numAt l 34 8 : Nat)))).set 10 (.int .i64 ((numAt l 42 2 : Nat))))
  clear c0 hc9 hf9 hc10 hf10
  generalize World.setCell _ _ _ = W at *
  have c0 := hM.cell 0 _ rfl
  go_upto_region 28 with fail
  clear c0
  go_wp2_with (first | (guard_target =~ wpList _ _ _ (⟨some 149, _, _, _, _, _⟩ :: _) _ _; refine wpList_load_msg (op := ⟨some 149, .load _ _, _, _, _, _⟩) (by rfl) _ (by rfl) w.heap.size (by rfl) (msgF h ⟨d.st, (numAt l 34 8 : Nat), (numAt l 42 2 : Nat), d.ut, d.p1, d.qc, d.qa, d.qv, d.p2, d.gr, d.sr, d.og, d.sh, d.hp, d.ac⟩) _ hM (msgF_length _ _) ?_) | (guard_target =~ wpList _ _ _ (⟨none, _, _, _, _, _⟩ :: _) _ _; refine wpList_store_msg (op := ⟨none, .store _ _ _, _, _, _, _⟩) (by rfl) _ _ (by rfl) G (msgF h ⟨d.st, (numAt l 34 8 : Nat), (numAt l 42 2 : Nat), d.ut, d.p1, d.qc, d.qa, d.qv, d.p2, d.gr, d.sr, d.og, d.sh, d.hp, d.ac⟩) (msgL hd0 zr) _ (by rfl) (by rfl) hA (msgF_length _ _) (msgL_length _ _ zr_length) (msgL_one _ _ (bdL_one _)) ?_))
  refine bodyPost_ret (v := .tuple #[.agg (msgF h ⟨d.st, (numAt l 34 8 : Nat), (numAt l 42 2 : Nat), d.ut, d.p1, d.qc, d.qa, d.qv, d.p2, d.gr, d.sr, d.og, d.sh, d.hp, d.ac⟩).toArray, .int .i64 ((34 : Int) + lenI h.ty), .int .i64 0]) ?_ rfl ⟨rfl, below_setRow hb hG _⟩
  exact results_msg_3 (p := 6) (u := 7) (u' := 8) rfl _ _ G _ (msgF h ⟨d.st, (numAt l 34 8 : Nat), (numAt l 42 2 : Nat), d.ut, d.p1, d.qc, d.qa, d.qv, d.p2, d.gr, d.sr, d.og, d.sh, d.hp, d.ac⟩) rfl (hA.row _) (msgF_length _ _)

set_option maxRecDepth 100000 in
set_option maxHeartbeats 4000000 in
theorem refBodyGet_M (v : Value) (l : List UInt8) (h : Hd) (d : Bd) (w : World) (hB : Bytes w v l) (hl : l.length ≤ 140737488351232) (hk : knownB h.ty = true) (hA : (34 : Int) + lenI h.ty ≤ l.length) (h13 : h.ty = 13) :
    Calls Try.prog 32 #[.agg (msgF h d).toArray, v, .int .i64 34] w fun e w' => e = .returned (.tuple #[.agg (msgF h (⟨d.st, (numAt l 34 8 : Nat), (numAt l 42 2 : Nat), d.ut, d.p1, d.qc, d.qa, d.qv, d.p2, d.gr, d.sr, d.og, (numAt l 44 1 : Nat), (numAt l 45 1 : Nat), ((numAt l 46 1 : Nat) : Int) % 16⟩)).toArray, .int .i64 ((34 : Int) + lenI h.ty), .int .i64 0]) ∧ Below w.heap.size w w' := by
  have hs : stB h.ty = false := by rw [h13]; decide
  have hg : tgB h.ty = true := by rw [h13]; decide
  have h11 : h.ty ≠ 11 := by omega
  have e11 : (h.ty == 11) = false := by rw [beq_eq_false_iff_ne]; omega
  have e13 : (h.ty == 13) = true := by rw [beq_iff_eq]; omega
  have hlenx := lenI_in h.ty
  have hE : lenI h.ty = 10 + ownI h.ty := by unfold lenI; rw [hs, hg]; simp
  have hown := ownI_in h.ty
  obtain ⟨hown0, hown1⟩ := hown
  have hO : ownI h.ty = 4 := by rw [h13]; rfl
  have hnl : 48 ≤ l.length := by omega
  have HX := hid fun (wx : World) (hx : Bytes wx v l) (i : Nat) (hi : i < l.length) => byte_at hx i hi
  have q44 := numAt1_lt l 44
  have q45 := numAt1_lt l 45
  have q46 := numAt1_lt l 46
  have hr16 : ((numAt l 46 1 : Nat) : Int).tmod 16 = ((numAt l 46 1 : Nat) : Int) % 16 := Int.tmod_eq_emod_of_nonneg (by omega)
  have HNL := hid hnl
  clear hE hlenx hown0 hown1 hO h11 h13
  have hlen := lenI_in h.ty
  obtain ⟨hlen0, hlen1⟩ := hlen
  have hns : lenI h.ty ≤ (l.length : Int) - 34 := by omega
  have hS := stamped_known h.ty
  have hT := targeted_known h.ty
  have hN := refKnown_any h.ty
  rw [hk] at hN
  have HS := hid fun w => hS w hk
  have HTG := hid fun w => hT w hk
  have HN := hid hN
  clear hS hT hN hk
  have HB := hid fun (w' : World) (h : Below w.heap.size w w') => hB.below h
  obtain ⟨p, cap, rfl, -, -, -⟩ := hB
  have HLE := hid hA
  clear hA
  go_enter Try.func32, Try.ntmps32
  go_upto_region 1 with fail
  have hM : Box ((w.alloc (Obj.cells (msgF h d).toArray 28)).alloc (Obj.cells (msgL hd0 zr).toArray 28)) w.heap.size (msgF h d) 28 := (Box.new w _ _).below (bnew _ _)
  have hA : Box ((w.alloc (Obj.cells (msgF h d).toArray 28)).alloc (Obj.cells (msgL hd0 zr).toArray 28)) (w.heap.size + 1) (msgL hd0 zr) 28 := heap_alloc2_new w _ _
  have hb := bnew2 w (Obj.cells (msgF h d).toArray 28) (Obj.cells (msgL hd0 zr).toArray 28)
  have hG : w.heap.size ≤ w.heap.size + 1 := by omega
  have hne : w.heap.size + 1 ≠ w.heap.size := by omega
  change Code.wp Try.prog _ _ _ ((w.alloc (Obj.cells (msgF h d).toArray 28)).alloc (Obj.cells (msgL hd0 zr).toArray 28))
  generalize ((w.alloc (Obj.cells (msgF h d).toArray 28)).alloc (Obj.cells (msgL hd0 zr).toArray 28)) = W at *
  generalize w.heap.size + 1 = G at *
  have c0 := hM.cell 0 _ rfl
  go_wp2_with fail
  refine (refLen_any h.ty _).mono ?_
  rintro e w' ⟨rfl, rfl⟩
  go_wp2_with fail
  refine (refLen_any h.ty _).mono ?_
  rintro e w' ⟨rfl, rfl⟩
  clear hns
  go_wp2_with fail
  refine (HN.out _).mono ?_
  rintro e w' ⟨rfl, rfl⟩
  go_wp2_with fail
  refine (HS.out _).mono ?_
  rintro e w' ⟨rfl, rfl⟩
  rw [hs]
  go_wp2_with fail
  refine (HTG.out _).mono ?_
  rintro e w' ⟨rfl, rfl⟩
  rw [hg]
  have HST : Hid (standB l.length 34 10 = true) := hid (standB_true (by decide) (by decide) (by have := HNL.out; omega))
  go_wp2_with fail
  refine (refIdentGet_any _ l _ _ (HB.out _ hb) (by omega) (by decide)).mono ?_
  rintro e wi ⟨rfl, hbi⟩
  rw [gotC_yes HST.out, gotP_yes HST.out, show Int.toNat 34 = 34 from rfl, show 34 + 8 = 42 from rfl]
  replace hM := hM.below hbi
  replace hA := hA.below hbi
  replace hb := bnext hb hbi
  clear hbi c0
  have c0 := hM.cell 0 _ rfl
  have hc9 := hM.cell 9 _ rfl
  have hf9 := hM.free 9
  have hc10 := hM.cell 10 _ rfl
  have hf10 := hM.free 10
  go_upto_region 14 with fail
  replace hA := ((hA.other hne 9 (.int .u64 ((numAt l 34 8 : Nat)))).other hne 10 (.int .i64 ((numAt l 42 2 : Nat))))
  replace hb := ((hb.setCell (p := ⟨w.heap.size, 9, none⟩) (Nat.le_refl _) (.int .u64 ((numAt l 34 8 : Nat)))).setCell (p := ⟨w.heap.size, 10, none⟩) (Nat.le_refl _) (.int .i64 ((numAt l 42 2 : Nat))))
  replace hM : Box _ w.heap.size (msgF h ⟨d.st, (numAt l 34 8 : Nat), (numAt l 42 2 : Nat), d.ut, d.p1, d.qc, d.qa, d.qv, d.p2, d.gr, d.sr, d.og, d.sh, d.hp, d.ac⟩) _ := ((hM.set 9 (.int .u64 ((numAt l 34 8 : Nat)))).set 10 (.int .i64 ((numAt l 42 2 : Nat))))
  clear c0 hc9 hf9 hc10 hf10
  generalize World.setCell _ _ _ = W at *
  have c0 := hM.cell 0 _ rfl
  obtain ⟨cb, pb, ob, hpe, hx44⟩ := HX.out _ (HB.out _ hb) 44 (by have := HNL.out; omega)
  cases hpe
  have hnl := HNL.out
  have hc20 := hM.cell 20 _ rfl
  have hf20 := hM.free 20
  go_upto_region 26 with fail
  clear hx44 hnl
  replace hA := (hA.other hne 20 (.int .i64 ((numAt l 44 1 : Nat))))
  replace hb := (hb.setCell (p := ⟨w.heap.size, 20, none⟩) (Nat.le_refl _) (.int .i64 ((numAt l 44 1 : Nat))))
  replace hM : Box _ w.heap.size (msgF h ⟨d.st, (numAt l 34 8 : Nat), (numAt l 42 2 : Nat), d.ut, d.p1, d.qc, d.qa, d.qv, d.p2, d.gr, d.sr, d.og, (numAt l 44 1 : Nat), d.hp, d.ac⟩) _ := (hM.set 20 (.int .i64 ((numAt l 44 1 : Nat))))
  clear c0 hc20 hf20
  generalize World.setCell _ _ _ = W at *
  have c0 := hM.cell 0 _ rfl
  obtain ⟨cb, pb, ob, hpe, hx45⟩ := HX.out _ (HB.out _ hb) 45 (by have := HNL.out; omega)
  cases hpe
  have hnl := HNL.out
  have hc21 := hM.cell 21 _ rfl
  have hf21 := hM.free 21
  go_upto_region 27 with fail
  clear hx45 hnl
  replace hA := (hA.other hne 21 (.int .i64 ((numAt l 45 1 : Nat))))
  replace hb := (hb.setCell (p := ⟨w.heap.size, 21, none⟩) (Nat.le_refl _) (.int .i64 ((numAt l 45 1 : Nat))))
  replace hM : Box _ w.heap.size (msgF h ⟨d.st, (numAt l 34 8 : Nat), (numAt l 42 2 : Nat), d.ut, d.p1, d.qc, d.qa, d.qv, d.p2, d.gr, d.sr, d.og, (numAt l 44 1 : Nat), (numAt l 45 1 : Nat), d.ac⟩) _ := (hM.set 21 (.int .i64 ((numAt l 45 1 : Nat))))
  clear c0 hc21 hf21
  generalize World.setCell _ _ _ = W at *
  have c0 := hM.cell 0 _ rfl
  obtain ⟨cb, pb, ob, hpe, hx46⟩ := HX.out _ (HB.out _ hb) 46 (by have := HNL.out; omega)
  cases hpe
  have hnl := HNL.out
  have hc22 := hM.cell 22 _ rfl
  have hf22 := hM.free 22
  go_upto_region 28 with fail
  clear hx46 hnl
  replace hA := (hA.other hne 22 (.int .i64 (((numAt l 46 1 : Nat) : Int) % 16)))
  replace hb := (hb.setCell (p := ⟨w.heap.size, 22, none⟩) (Nat.le_refl _) (.int .i64 (((numAt l 46 1 : Nat) : Int) % 16)))
  replace hM : Box _ w.heap.size (msgF h ⟨d.st, (numAt l 34 8 : Nat), (numAt l 42 2 : Nat), d.ut, d.p1, d.qc, d.qa, d.qv, d.p2, d.gr, d.sr, d.og, (numAt l 44 1 : Nat), (numAt l 45 1 : Nat), ((numAt l 46 1 : Nat) : Int) % 16⟩) _ := (hM.set 22 (.int .i64 (((numAt l 46 1 : Nat) : Int) % 16)))
  clear c0 hc22 hf22
  generalize World.setCell _ _ _ = W at *
  have c0 := hM.cell 0 _ rfl
  go_upto_region 28 with fail
  clear c0
  go_wp2_with (first | (guard_target =~ wpList _ _ _ (⟨some 149, _, _, _, _, _⟩ :: _) _ _; refine wpList_load_msg (op := ⟨some 149, .load _ _, _, _, _, _⟩) (by rfl) _ (by rfl) w.heap.size (by rfl) (msgF h ⟨d.st, (numAt l 34 8 : Nat), (numAt l 42 2 : Nat), d.ut, d.p1, d.qc, d.qa, d.qv, d.p2, d.gr, d.sr, d.og, (numAt l 44 1 : Nat), (numAt l 45 1 : Nat), ((numAt l 46 1 : Nat) : Int) % 16⟩) _ hM (msgF_length _ _) ?_) | (guard_target =~ wpList _ _ _ (⟨none, _, _, _, _, _⟩ :: _) _ _; refine wpList_store_msg (op := ⟨none, .store _ _ _, _, _, _, _⟩) (by rfl) _ _ (by rfl) G (msgF h ⟨d.st, (numAt l 34 8 : Nat), (numAt l 42 2 : Nat), d.ut, d.p1, d.qc, d.qa, d.qv, d.p2, d.gr, d.sr, d.og, (numAt l 44 1 : Nat), (numAt l 45 1 : Nat), ((numAt l 46 1 : Nat) : Int) % 16⟩) (msgL hd0 zr) _ (by rfl) (by rfl) hA (msgF_length _ _) (msgL_length _ _ zr_length) (msgL_one _ _ (bdL_one _)) ?_))
  refine bodyPost_ret (v := .tuple #[.agg (msgF h ⟨d.st, (numAt l 34 8 : Nat), (numAt l 42 2 : Nat), d.ut, d.p1, d.qc, d.qa, d.qv, d.p2, d.gr, d.sr, d.og, (numAt l 44 1 : Nat), (numAt l 45 1 : Nat), ((numAt l 46 1 : Nat) : Int) % 16⟩).toArray, .int .i64 ((34 : Int) + lenI h.ty), .int .i64 0]) ?_ rfl ⟨rfl, below_setRow hb hG _⟩
  exact results_msg_3 (p := 6) (u := 7) (u' := 8) rfl _ _ G _ (msgF h ⟨d.st, (numAt l 34 8 : Nat), (numAt l 42 2 : Nat), d.ut, d.p1, d.qc, d.qa, d.qv, d.p2, d.gr, d.sr, d.og, (numAt l 44 1 : Nat), (numAt l 45 1 : Nat), ((numAt l 46 1 : Nat) : Int) % 16⟩) rfl (hA.row _) (msgF_length _ _)

/-- .. all its answers in one. -/
theorem refBodyGet_all (v : Value) (l : List UInt8) (h : Hd) (d : Bd) (w : World) (hB : Bytes w v l) (hl : l.length ≤ 140737488351232) (h34 : 34 ≤ l.length) (hk : knownB h.ty = true) :
    Calls Try.prog 32 #[.agg (msgF h d).toArray, v, .int .i64 34] w fun e w' => e = .returned (bodyR h d l 34) ∧ Below w.heap.size w w' := by
  unfold bodyR
  by_cases hs : (l.length : Int) - (34 : Nat) < lenI h.ty
  · have e : bodyE h.ty l 34 = 2 := if_pos hs
    rw [e, if_neg (by decide)]
    exact refBodyGet_short v l h d w hB hl h34 hs
  · have hA2 : (34 : Int) + lenI h.ty ≤ l.length := by omega
    by_cases hr : stB h.ty = true ∧ getB l (34 : Nat) = false
    · have e : bodyE h.ty l 34 = 10 := by unfold bodyE; rw [if_neg hs, if_pos hr]
      rw [e, if_neg (by decide)]
      exact refBodyGet_range v l h d w hB hl hk hA2 hr.2 hr.1
    · have e : bodyE h.ty l 34 = 0 := by unfold bodyE; rw [if_neg hs, if_neg hr]
      rw [e, if_pos rfl]
      have hgb : stB h.ty = true → getB l 34 = true := fun h1 => by
        cases hg : getB l 34
        · exact absurd ⟨h1, hg⟩ hr
        · rfl
      rcases kinds h.ty with ⟨h1, h2, h3, h4⟩ | ⟨h1, h2, h3, h4⟩ | ⟨h1, h2, h3, h4⟩ | h1 | ⟨h1, h2, h3, h4⟩ | h1
      · rcases known_or hk with h | h | h | h | h | h | h | h | h | h <;> rw [h] at h1 h2 h3 h4 <;> first | exact absurd h1 (by decide) | exact absurd h2 (by decide) | omega
      · have eD : bodyD d h.ty l 34 = ⟨getV l 34, d.tc, d.tp, d.ut, d.p1, d.qc, d.qa, d.qv, d.p2, d.gr, d.sr, d.og, d.sh, d.hp, d.ac⟩ := by
          unfold bodyD
          rw [if_neg h3, if_neg h4, if_neg (by rw [h2]; simp), if_pos h1]
          rfl
        rw [eD]
        exact refBodyGet_S v l h d w hB hl hk hA2 (hgb h1) h1 h2 h3 h4
      · have eD : bodyD d h.ty l 34 = ⟨getV l 34, (numAt l 44 8 : Nat), (numAt l 52 2 : Nat), d.ut, d.p1, d.qc, d.qa, d.qv, d.p2, d.gr, d.sr, d.og, d.sh, d.hp, d.ac⟩ := by
          unfold bodyD
          rw [if_neg h3, if_neg h4, if_pos ⟨h1, h2⟩]
          rfl
        rw [eD]
        exact refBodyGet_B v l h d w hB hl hk hA2 (hgb h1) h1 h2 h3 h4
      · have eD : bodyD d h.ty l 34 = ⟨getV l 34, d.tc, d.tp, signedAt l 44 2, (numAt l 47 1 : Nat), (numAt l 48 1 : Nat), (numAt l 49 1 : Nat), (numAt l 50 2 : Nat), (numAt l 52 1 : Nat), (numAt l 53 8 : Nat), (numAt l 61 2 : Nat), (numAt l 63 1 : Nat), d.sh, d.hp, d.ac⟩ := by
          unfold bodyD
          rw [if_pos h1]
          rfl
        rw [eD]
        exact refBodyGet_A v l h d w hB hl hk hA2 (hgb (by rw [h1]; decide)) h1
      · have eD : bodyD d h.ty l 34 = ⟨d.st, (numAt l 34 8 : Nat), (numAt l 42 2 : Nat), d.ut, d.p1, d.qc, d.qa, d.qv, d.p2, d.gr, d.sr, d.og, d.sh, d.hp, d.ac⟩ := by
          unfold bodyD
          rw [if_neg h3, if_neg h4, if_neg (by rw [h1]; simp), if_neg (by rw [h1]; simp)]
        rw [eD]
        exact refBodyGet_G v l h d w hB hl hk hA2 h1 h2 h3 h4
      · have eD : bodyD d h.ty l 34 = ⟨d.st, (numAt l 34 8 : Nat), (numAt l 42 2 : Nat), d.ut, d.p1, d.qc, d.qa, d.qv, d.p2, d.gr, d.sr, d.og, (numAt l 44 1 : Nat), (numAt l 45 1 : Nat), ((numAt l 46 1 : Nat) : Int) % 16⟩ := by
          unfold bodyD
          rw [if_neg (by omega), if_pos h1]
          rfl
        rw [eD]
        exact refBodyGet_M v l h d w hB hl hk hA2 h1

end Go.Proofs.Ytohgpnlihfcecaa