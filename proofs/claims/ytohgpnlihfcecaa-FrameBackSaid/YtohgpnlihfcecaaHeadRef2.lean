/- carillonref06.Get. -/
import Derived.Test.YtohgpnlihfcecaaHeadRef
namespace Go.Proofs.Ytohgpnlihfcecaa
open Go.RowKit Go.Proofs
set_option maxRecDepth 50000
set_option linter.unusedVariables false
set_option linter.unusedSimpArgs false

set_option maxRecDepth 100000 in
set_option maxHeartbeats 4000000 in
theorem refHeadGet_any (v : Value) (l : List UInt8) (w : World) (hB : Bytes w v l) (hl : l.length ≤ 140737488355328) :
    Calls Try.prog 31 #[v] w fun e w' => e = .returned (.tuple #[.agg (msgL (getH l) zr).toArray, .int .i64 (getN l), .int .i64 (getE l)]) ∧ Below w.heap.size w w' := by
  have HB := hid fun (w' : World) (h : Below w.heap.size w w') => hB.below h
  have hA : Box (w.alloc (Obj.cells (msgL hd0 zr).toArray 28)) w.heap.size (msgL hd0 zr) 28 := Box.new _ _ _
  have hb := bnew w (Obj.cells (msgL hd0 zr).toArray 28)
  have Fin : Hid (∀ (E : Int), getE l = E → E ≠ 0 → getH l = hd0 ∧ getN l = 0 ∧ getE l = E) := hid fun E h h0 => ⟨(get_none (by rw [h]; exact h0)).2, (get_none (by rw [h]; exact h0)).1, h⟩
  obtain ⟨p, cap, rfl, hcap, hmax, hpat⟩ := hB
  by_cases h : l.length < 34
  · obtain ⟨e1, e2, e3⟩ := Fin.out 2 (getE_few h) (by decide)
    rw [e1, e2, e3]
    clear e1 e2 e3 hpat
    go_enter Try.func31, Try.ntmps31
    go_upto_region 1 with fail
    change Code.wp Try.prog _ _ _ (w.alloc (Obj.cells (msgL hd0 zr).toArray 28))
    generalize (w.alloc (Obj.cells (msgL hd0 zr).toArray 28)) = W at *
    go_wp2_with (refine wpList_store_msg (op := ⟨none, .store _ _ _, _, _, _, _⟩) rfl _ _ rfl w.heap.size (msgL hd0 zr) (msgL hd0 zr) _ rfl rfl hA (msgL_length _ _ zr_length) (msgL_length _ _ zr_length) (msgL_one _ _ zr_one) ?_)
    refine bodyPost_ret (v := .tuple #[.agg (msgL hd0 zr).toArray, .int .i64 0, .int .i64 2]) ?_ rfl ⟨rfl, below_setRow hb (Nat.le_refl _) _⟩
    exact results_msg_two (p := 2) (u := 3) (u' := 4) rfl _ _ w.heap.size _ (msgL hd0 zr) rfl (hA.row _) (msgL_length _ _ zr_length)
  obtain ⟨b, off, rfl, hblt, hcell⟩ := hpat.pos (by omega)
  have C0 : Hid (∀ wx, Below w.heap.size w wx → wx.cell? ⟨b, off, none⟩ = some (.int .u8 (numAt l 0 1 : Nat))) := hid fun wx hx => by
    rw [numAt_one l 0 (by omega), hx.cell (p := ⟨b, off, none⟩) hblt]; exact hcell 0 (by omega)
  have C1 : Hid (∀ wx, Below w.heap.size w wx → wx.cell? ⟨b, off + 1, none⟩ = some (.int .u8 (numAt l 1 1 : Nat))) := hid fun wx hx => by
    rw [numAt_one l 1 (by omega), hx.cell (p := ⟨b, off + 1, none⟩) hblt]; exact hcell 1 (by omega)
  have C4 : Hid (∀ wx, Below w.heap.size w wx → wx.cell? ⟨b, off + 4, none⟩ = some (.int .u8 (numAt l 4 1 : Nat))) := hid fun wx hx => by
    rw [numAt_one l 4 (by omega), hx.cell (p := ⟨b, off + 4, none⟩) hblt]; exact hcell 4 (by omega)
  clear hcell hpat hblt
  have HSL : Hid (standB l.length 2 2 = true) := hid (standB_true (by decide) (by decide) (by omega))
  have hcapI : (34 : Int) ≤ (cap : Int) := by omega
  have hlenI : (34 : Int) ≤ (l.length : Int) := by omega
  unfold maxLen at hmax
  have hA256 := numAt1_lt l 1
  have hL := numAt2_lt l 2
  have hw0 : wrap64 ((numAt l 0 1 : Nat) : Int) = (numAt l 0 1 : Nat) := by have := numAt1_lt l 0; exact IntWalk.wrap64_in _ ⟨by omega, by omega⟩
  have hw4 : wrap64 ((numAt l 4 1 : Nat) : Int) = (numAt l 4 1 : Nat) := by have := numAt1_lt l 4; exact IntWalk.wrap64_in _ ⟨by omega, by omega⟩
  have HE : Hid (badB l = (!knownB (numAt l 0 1 : Nat) || !decide (((numAt l 1 1 : Nat) : Int) % 16 = 2) || !inB (numAt l 2 2 : Nat) 34 400)) := hid rfl
  have h15 : ((numAt l 1 1 : Nat) : Int).tmod 16 = ((numAt l 1 1 : Nat) : Int) % 16 := Int.tmod_eq_emod_of_nonneg (by omega)
  cases hk : knownB (numAt l 0 1 : Nat)
  · rw [hk] at HE
    obtain ⟨e1, e2, e3⟩ := Fin.out 4 (getE_bad h (by rw [HE.out]; rfl)) (by decide)
    rw [e1, e2, e3]
    clear e1 e2 e3
    go_enter Try.func31, Try.ntmps31
    go_upto_region 1 with fail
    change Code.wp Try.prog _ _ _ (w.alloc (Obj.cells (msgL hd0 zr).toArray 28))
    generalize (w.alloc (Obj.cells (msgL hd0 zr).toArray 28)) = W at *
    have c0 := C0.out _ hb
    have c1 := C1.out _ hb
    have c4 := C4.out _ hb
    go_wp2_with fail
    refine (refGet_ok _ l _ _ _ (HB.out _ hb) hl (by decide) (by decide) (by decide) HSL.out).mono ?_
    rintro e w' ⟨rfl, rfl⟩
    rw [show (2 : Int).toNat = 2 by decide]
    go_wp2_with fail
    refine (refKnown_any _ _).mono ?_
    rintro e w' ⟨rfl, rfl⟩
    rw [hk]
    go_wp2_with (refine wpList_store_msg (op := ⟨none, .store _ _ _, _, _, _, _⟩) rfl _ _ rfl w.heap.size (msgL hd0 zr) (msgL hd0 zr) _ rfl rfl hA (msgL_length _ _ zr_length) (msgL_length _ _ zr_length) (msgL_one _ _ zr_one) ?_)
    refine bodyPost_ret (v := .tuple #[.agg (msgL hd0 zr).toArray, .int .i64 0, .int .i64 4]) ?_ rfl ⟨rfl, below_setRow hb (Nat.le_refl _) _⟩
    exact results_msg_two (p := 2) (u := 3) (u' := 4) rfl _ _ w.heap.size _ (msgL hd0 zr) rfl (hA.row _) (msgL_length _ _ zr_length)
  rw [hk] at HE
  by_cases ha : ((numAt l 1 1 : Nat) : Int) % 16 = 2
  · rw [decide_eq_true ha] at HE
    by_cases h34 : ((numAt l 2 2 : Nat) : Int) < 34
    · have hi : inB (numAt l 2 2 : Nat) 34 400 = false := by unfold inB; rw [decide_eq_false_iff_not]; omega
      rw [hi] at HE
      obtain ⟨e1, e2, e3⟩ := Fin.out 4 (getE_bad h (by rw [HE.out]; rfl)) (by decide)
      rw [e1, e2, e3]
      clear e1 e2 e3
      go_enter Try.func31, Try.ntmps31
      go_upto_region 1 with fail
      change Code.wp Try.prog _ _ _ (w.alloc (Obj.cells (msgL hd0 zr).toArray 28))
      generalize (w.alloc (Obj.cells (msgL hd0 zr).toArray 28)) = W at *
      have c0 := C0.out _ hb
      have c1 := C1.out _ hb
      have c4 := C4.out _ hb
      go_wp2_with fail
      refine (refGet_ok _ l _ _ _ (HB.out _ hb) hl (by decide) (by decide) (by decide) HSL.out).mono ?_
      rintro e w' ⟨rfl, rfl⟩
      rw [show (2 : Int).toNat = 2 by decide]
      go_wp2_with fail
      refine (refKnown_any _ _).mono ?_
      rintro e w' ⟨rfl, rfl⟩
      rw [hk]
      go_wp2_with (refine wpList_store_msg (op := ⟨none, .store _ _ _, _, _, _, _⟩) rfl _ _ rfl w.heap.size (msgL hd0 zr) (msgL hd0 zr) _ rfl rfl hA (msgL_length _ _ zr_length) (msgL_length _ _ zr_length) (msgL_one _ _ zr_one) ?_)
      refine bodyPost_ret (v := .tuple #[.agg (msgL hd0 zr).toArray, .int .i64 0, .int .i64 4]) ?_ rfl ⟨rfl, below_setRow hb (Nat.le_refl _) _⟩
      exact results_msg_two (p := 2) (u := 3) (u' := 4) rfl _ _ w.heap.size _ (msgL hd0 zr) rfl (hA.row _) (msgL_length _ _ zr_length)
    by_cases h400 : 400 < ((numAt l 2 2 : Nat) : Int)
    · have hi : inB (numAt l 2 2 : Nat) 34 400 = false := by unfold inB; rw [decide_eq_false_iff_not]; omega
      rw [hi] at HE
      obtain ⟨e1, e2, e3⟩ := Fin.out 4 (getE_bad h (by rw [HE.out]; rfl)) (by decide)
      rw [e1, e2, e3]
      clear e1 e2 e3
      go_enter Try.func31, Try.ntmps31
      go_upto_region 1 with fail
      change Code.wp Try.prog _ _ _ (w.alloc (Obj.cells (msgL hd0 zr).toArray 28))
      generalize (w.alloc (Obj.cells (msgL hd0 zr).toArray 28)) = W at *
      have c0 := C0.out _ hb
      have c1 := C1.out _ hb
      have c4 := C4.out _ hb
      go_wp2_with fail
      refine (refGet_ok _ l _ _ _ (HB.out _ hb) hl (by decide) (by decide) (by decide) HSL.out).mono ?_
      rintro e w' ⟨rfl, rfl⟩
      rw [show (2 : Int).toNat = 2 by decide]
      go_wp2_with fail
      refine (refKnown_any _ _).mono ?_
      rintro e w' ⟨rfl, rfl⟩
      rw [hk]
      go_wp2_with (refine wpList_store_msg (op := ⟨none, .store _ _ _, _, _, _, _⟩) rfl _ _ rfl w.heap.size (msgL hd0 zr) (msgL hd0 zr) _ rfl rfl hA (msgL_length _ _ zr_length) (msgL_length _ _ zr_length) (msgL_one _ _ zr_one) ?_)
      refine bodyPost_ret (v := .tuple #[.agg (msgL hd0 zr).toArray, .int .i64 0, .int .i64 4]) ?_ rfl ⟨rfl, below_setRow hb (Nat.le_refl _) _⟩
      exact results_msg_two (p := 2) (u := 3) (u' := 4) rfl _ _ w.heap.size _ (msgL hd0 zr) rfl (hA.row _) (msgL_length _ _ zr_length)
    have hi : inB (numAt l 2 2 : Nat) 34 400 = true := by unfold inB; rw [decide_eq_true_eq]; omega
    rw [hi] at HE
    have hbad : Hid (badB l = false) := hid (by rw [HE.out]; rfl)
    clear HE hi
    by_cases hs : (l.length : Int) < ((numAt l 2 2 : Nat) : Int)
    · obtain ⟨e1, e2, e3⟩ := Fin.out 2 (getE_short h hbad.out hs) (by decide)
      rw [e1, e2, e3]
      clear e1 e2 e3
      go_enter Try.func31, Try.ntmps31
      go_upto_region 1 with fail
      change Code.wp Try.prog _ _ _ (w.alloc (Obj.cells (msgL hd0 zr).toArray 28))
      generalize (w.alloc (Obj.cells (msgL hd0 zr).toArray 28)) = W at *
      have c0 := C0.out _ hb
      have c1 := C1.out _ hb
      have c4 := C4.out _ hb
      go_wp2_with fail
      refine (refGet_ok _ l _ _ _ (HB.out _ hb) hl (by decide) (by decide) (by decide) HSL.out).mono ?_
      rintro e w' ⟨rfl, rfl⟩
      rw [show (2 : Int).toNat = 2 by decide]
      go_wp2_with fail
      refine (refKnown_any _ _).mono ?_
      rintro e w' ⟨rfl, rfl⟩
      rw [hk]
      go_wp2_with (refine wpList_store_msg (op := ⟨none, .store _ _ _, _, _, _, _⟩) rfl _ _ rfl w.heap.size (msgL hd0 zr) (msgL hd0 zr) _ rfl rfl hA (msgL_length _ _ zr_length) (msgL_length _ _ zr_length) (msgL_one _ _ zr_one) ?_)
      refine bodyPost_ret (v := .tuple #[.agg (msgL hd0 zr).toArray, .int .i64 0, .int .i64 2]) ?_ rfl ⟨rfl, below_setRow hb (Nat.le_refl _) _⟩
      exact results_msg_two (p := 2) (u := 3) (u' := 4) rfl _ _ w.heap.size _ (msgL hd0 zr) rfl (hA.row _) (msgL_length _ _ zr_length)
    by_cases hg : ((numAt l 2 2 : Nat) : Int) < (l.length : Int)
    · obtain ⟨e1, e2, e3⟩ := Fin.out 3 (getE_long h hbad.out hg) (by decide)
      rw [e1, e2, e3]
      clear e1 e2 e3
      go_enter Try.func31, Try.ntmps31
      go_upto_region 1 with fail
      change Code.wp Try.prog _ _ _ (w.alloc (Obj.cells (msgL hd0 zr).toArray 28))
      generalize (w.alloc (Obj.cells (msgL hd0 zr).toArray 28)) = W at *
      have c0 := C0.out _ hb
      have c1 := C1.out _ hb
      have c4 := C4.out _ hb
      go_wp2_with fail
      refine (refGet_ok _ l _ _ _ (HB.out _ hb) hl (by decide) (by decide) (by decide) HSL.out).mono ?_
      rintro e w' ⟨rfl, rfl⟩
      rw [show (2 : Int).toNat = 2 by decide]
      go_wp2_with fail
      refine (refKnown_any _ _).mono ?_
      rintro e w' ⟨rfl, rfl⟩
      rw [hk]
      go_wp2_with (refine wpList_store_msg (op := ⟨none, .store _ _ _, _, _, _, _⟩) rfl _ _ rfl w.heap.size (msgL hd0 zr) (msgL hd0 zr) _ rfl rfl hA (msgL_length _ _ zr_length) (msgL_length _ _ zr_length) (msgL_one _ _ zr_one) ?_)
      refine bodyPost_ret (v := .tuple #[.agg (msgL hd0 zr).toArray, .int .i64 0, .int .i64 3]) ?_ rfl ⟨rfl, below_setRow hb (Nat.le_refl _) _⟩
      exact results_msg_two (p := 2) (u := 3) (u' := 4) rfl _ _ w.heap.size _ (msgL hd0 zr) rfl (hA.row _) (msgL_length _ _ zr_length)
    exact refHeadGet_ok b off cap l w HB hl h hcap hmax (getE_ok h hbad.out (show lenOf l = l.length by unfold lenOf; omega)) hk ha (by omega) C0 C1 C4
  · rw [decide_eq_false ha] at HE
    obtain ⟨e1, e2, e3⟩ := Fin.out 4 (getE_bad h (by rw [HE.out]; rfl)) (by decide)
    rw [e1, e2, e3]
    clear e1 e2 e3
    go_enter Try.func31, Try.ntmps31
    go_upto_region 1 with fail
    change Code.wp Try.prog _ _ _ (w.alloc (Obj.cells (msgL hd0 zr).toArray 28))
    generalize (w.alloc (Obj.cells (msgL hd0 zr).toArray 28)) = W at *
    have c0 := C0.out _ hb
    have c1 := C1.out _ hb
    have c4 := C4.out _ hb
    go_wp2_with fail
    refine (refGet_ok _ l _ _ _ (HB.out _ hb) hl (by decide) (by decide) (by decide) HSL.out).mono ?_
    rintro e w' ⟨rfl, rfl⟩
    rw [show (2 : Int).toNat = 2 by decide]
    go_wp2_with fail
    refine (refKnown_any _ _).mono ?_
    rintro e w' ⟨rfl, rfl⟩
    rw [hk]
    go_wp2_with (refine wpList_store_msg (op := ⟨none, .store _ _ _, _, _, _, _⟩) rfl _ _ rfl w.heap.size (msgL hd0 zr) (msgL hd0 zr) _ rfl rfl hA (msgL_length _ _ zr_length) (msgL_length _ _ zr_length) (msgL_one _ _ zr_one) ?_)
    refine bodyPost_ret (v := .tuple #[.agg (msgL hd0 zr).toArray, .int .i64 0, .int .i64 4]) ?_ rfl ⟨rfl, below_setRow hb (Nat.le_refl _) _⟩
    exact results_msg_two (p := 2) (u := 3) (u' := 4) rfl _ _ w.heap.size _ (msgL hd0 zr) rfl (hA.row _) (msgL_length _ _ zr_length)
end Go.Proofs.Ytohgpnlihfcecaa
