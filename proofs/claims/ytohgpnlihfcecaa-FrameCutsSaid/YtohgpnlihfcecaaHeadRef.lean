/- The document's own answers of chapter 6 that read: carillonref01.Signed (of one byte, of eight), carillonref06.Get. -/
import Derived.Test.YtohgpnlihfcecaaHeadGet
import Derived.Test.YtohgpnlihfcecaaB4
namespace Go.Proofs.Ytohgpnlihfcecaa
open Go.RowKit Go.Proofs
set_option maxRecDepth 50000
set_option linter.unusedVariables false
set_option linter.unusedSimpArgs false

theorem numAt8_lt (l : List UInt8) (A : Nat) : numAt l A 8 < 18446744073709551616 := num_lt _

theorem wrap_signed (l : List UInt8) (A : Nat) : wrap64 ((numAt l A 8 : Nat) : Int) = signedAt l A 8 := by
  have h := numAt8_lt l A
  unfold signedAt wrap64
  generalize numAt l A 8 = x at *
  split <;> omega

set_option maxHeartbeats 800000 in
theorem refSigned8_ok (v : Value) (l : List UInt8) (at' : Int) (w : World) (hB : Bytes w v l) (hl : l.length ≤ 140737488355328) (hat : at' ≤ 9223372036854775807) (hn : standB l.length at' 8 = true) :
    Calls Try.prog 69 #[v, .int .i64 at', .int .i64 8] w fun e w' => e = .returned (.tuple #[.int .i64 (signedAt l at'.toNat 8), .bool true]) ∧ w = w' := by
  have HW := hid (wrap_signed l at'.toNat)
  have HN := hid hn
  have HB := hid hB
  have hx := numAt8_lt l at'.toNat
  clear hn hB
  go_enter Try.func69, Try.ntmps69
  go_wp2_with fail
  refine (refId_ok _ l _ _ HB.out hl hat HN.out).mono ?_
  rintro e w' ⟨rfl, rfl⟩
  go_wp2_with fail
  go_ret2
  exact ⟨ret_int_bool (by rw [← HW.out]) rfl, rfl⟩

set_option maxRecDepth 100000 in
set_option maxHeartbeats 800000 in
theorem refSigned1_ok (v : Value) (l : List UInt8) (at' : Int) (w : World) (hB : Bytes w v l) (hl : l.length ≤ 140737488355328) (hat : at' ≤ 9223372036854775807) (hn : standB l.length at' 1 = true) :
    Calls Try.prog 69 #[v, .int .i64 at', .int .i64 1] w fun e w' => e = .returned (.tuple #[.int .i64 (signedAt l at'.toNat 1), .bool true]) ∧ w = w' := by
  have hx := numAt1_lt l at'.toNat
  have HW : Hid (signedAt l at'.toNat 1 = if 2 * numAt l at'.toNat 1 < 256 then ((numAt l at'.toNat 1 : Nat) : Int) else ((numAt l at'.toNat 1 : Nat) : Int) - 256) := hid (by unfold signedAt; simp)
  have HN := hid hn
  have HB := hid hB
  clear hn hB
  have HX : Hid (numAt l at'.toNat (1 : Int).toNat = numAt l at'.toNat 1) := hid rfl
  generalize signedAt l at'.toNat 1 = s at *
  by_cases h : 128 ≤ ((numAt l at'.toNat 1 : Nat) : Int)
  · go_enter Try.func69, Try.ntmps69
    go_wp2_with fail
    refine (refGet_ok _ l _ _ _ HB.out hl hat (by decide) (by decide) HN.out).mono ?_
    rintro e w' ⟨rfl, rfl⟩
    rw [HX.out]
    go_wp2_with fail
    go_ret2
    have e := HW.out
    rw [if_neg (by omega)] at e
    rw [e]
    exact ⟨rfl, rfl⟩
  · go_enter Try.func69, Try.ntmps69
    go_wp2_with fail
    refine (refGet_ok _ l _ _ _ HB.out hl hat (by decide) (by decide) HN.out).mono ?_
    rintro e w' ⟨rfl, rfl⟩
    rw [HX.out]
    go_wp2_with fail
    go_ret2
    have e := HW.out
    rw [if_pos (by omega)] at e
    rw [e]
    exact ⟨rfl, rfl⟩
theorem numAt_one (l : List UInt8) (A : Nat) (h : A < l.length) : numAt l A 1 = l[A].toNat := by
  unfold numAt
  rw [List.drop_eq_getElem_cons h]
  simp only [List.take_succ_cons, List.take_zero]
  unfold num
  have := l[A].toNat_lt
  simp only [List.foldl_cons, List.foldl_nil]
  omega

/-- 'store' of a message as one operation. -/
theorem op_store_msg {op : Oper} {a : Act} {w : World} {K : Act → World → Prop} {Q : Exit → Act → World → Prop} (x y : Operand) (ho : op.op = .store 28 x y)
    (g : Nat) (xs old : List Value) (t : TypeId) (hx : a.eval x = .pointer (some ⟨g, 0, none⟩)) (hy : a.eval y = .agg xs.toArray) (hB : Box w g old t) (hl : xs.length = 23) (hol : old.length = 23) (h1 : ∀ v ∈ xs, v.oneCell' = true)
    (h : K (a.put op.dst undef) (w.setRow g xs.toArray)) : op.wp Try.prog a w K Q :=
  wp_store_row _ x y ho g xs.toArray hx hy t old.toArray hB (by rw [info_msg]; simp [hl]) (by simp [hl, hol]) (all_oneCell_toArray h1) h

set_option maxRecDepth 100000 in
set_option maxHeartbeats 4000000 in
theorem refHeadGet_ok (b off cap : Nat) (l : List UInt8) (w : World) (HB : Hid (∀ w', Below w.heap.size w w' → Bytes w' (.slice (some ⟨b, off, none⟩) l.length cap) l)) (hl : l.length ≤ 140737488355328) (h : ¬ l.length < 34) (hcap : l.length ≤ cap) (hmax : cap ≤ 2 ^ 63 - 1)
    (hok : getE l = 0) (hk : knownB (numAt l 0 1 : Nat) = true) (ha : ((numAt l 1 1 : Nat) : Int) % 16 = 2) (hlen : 34 ≤ numAt l 2 2 ∧ numAt l 2 2 ≤ 400 ∧ numAt l 2 2 = l.length)
    (C0 : Hid (∀ wx, Below w.heap.size w wx → wx.cell? ⟨b, off, none⟩ = some (.int .u8 (numAt l 0 1 : Nat))))
    (C1 : Hid (∀ wx, Below w.heap.size w wx → wx.cell? ⟨b, off + 1, none⟩ = some (.int .u8 (numAt l 1 1 : Nat))))
    (C4 : Hid (∀ wx, Below w.heap.size w wx → wx.cell? ⟨b, off + 4, none⟩ = some (.int .u8 (numAt l 4 1 : Nat)))) :
    Calls Try.prog 31 #[.slice (some ⟨b, off, none⟩) l.length cap] w fun e w' => e = .returned (.tuple #[.agg (msgL (getH l) zr).toArray, .int .i64 (getN l), .int .i64 (getE l)]) ∧ Below w.heap.size w w' := by
  have hA : Box (w.alloc (Obj.cells (msgL hd0 zr).toArray 28)) w.heap.size (msgL hd0 zr) 28 := Box.new _ _ _
  have hb := bnew w (Obj.cells (msgL hd0 zr).toArray 28)
  obtain ⟨hL1, hL2, hL3⟩ := hlen
  have HSL : Hid (standB l.length 2 2 = true) := hid (standB_true (by decide) (by decide) (by omega))
  have HS2 : Hid (standB l.length 6 2 = true) := hid (standB_true (by decide) (by decide) (by omega))
  have HS3 : Hid (standB l.length 8 8 = true) := hid (standB_true (by decide) (by decide) (by omega))
  have HS4 : Hid (standB l.length 20 10 = true) := hid (standB_true (by decide) (by decide) (by omega))
  have HS5 : Hid (standB l.length 30 2 = true) := hid (standB_true (by decide) (by decide) (by omega))
  have HS6 : Hid (standB l.length 33 1 = true) := hid (standB_true (by decide) (by decide) (by omega))
  have hcapI : (34 : Int) ≤ (cap : Int) := by omega
  have hlenI : (34 : Int) ≤ (l.length : Int) := by omega
  have hl0 : 0 < l.length := by omega
  have hl1 : 1 < l.length := by omega
  have hl4 : 4 < l.length := by omega
  have hl4I : (4 : Int) < (l.length : Int) := by omega
  have hv0 : IntKind.i64.wrap ((numAt l 0 1 : Nat) : Int) = (numAt l 0 1 : Nat) := by have := numAt1_lt l 0; exact IntWalk.i64_in _ ⟨by omega, by omega⟩
  have hv4 : IntKind.i64.wrap ((numAt l 4 1 : Nat) : Int) = (numAt l 4 1 : Nat) := by have := numAt1_lt l 4; exact IntWalk.i64_in _ ⟨by omega, by omega⟩
  have hl1I : (1 : Int) < (l.length : Int) := by omega
  have h34 : ¬ ((numAt l 2 2 : Nat) : Int) < 34 := by omega
  have h400 : ¬ 400 < ((numAt l 2 2 : Nat) : Int) := by omega
  have hs : ¬ (l.length : Int) < ((numAt l 2 2 : Nat) : Int) := by omega
  have hg : ¬ ((numAt l 2 2 : Nat) : Int) < (l.length : Int) := by omega
  have hA256 := numAt1_lt l 1
  have hw0 : wrap64 ((numAt l 0 1 : Nat) : Int) = (numAt l 0 1 : Nat) := by have := numAt1_lt l 0; exact IntWalk.wrap64_in _ ⟨by omega, by omega⟩
  have hw4 : wrap64 ((numAt l 4 1 : Nat) : Int) = (numAt l 4 1 : Nat) := by have := numAt1_lt l 4; exact IntWalk.wrap64_in _ ⟨by omega, by omega⟩
  have h15 : ((numAt l 1 1 : Nat) : Int).tmod 16 = ((numAt l 1 1 : Nat) : Int) % 16 := Int.tmod_eq_emod_of_nonneg (by omega)
  have HL : Hid (lenOf l = ((numAt l 2 2 : Nat) : Int)) := hid rfl
  have HOK := hid hok
  clear hL1 hL2 hL3 hok
  obtain ⟨e1, e2⟩ := get_some HOK.out
  rw [e1, e2, HOK.out]
  clear e1 e2
  go_enter Try.func31, Try.ntmps31
  go_upto_region 1 with fail
  change Code.wp Try.prog _ _ _ (w.alloc (Obj.cells (msgL hd0 zr).toArray 28))
  generalize (w.alloc (Obj.cells (msgL hd0 zr).toArray 28)) = W at *
  have c0 := C0.out _ hb
  have c1 := C1.out _ hb
  have c4 := C4.out _ hb
  go_wp2_with fail
  refine (refGet_ok _ l _ _ _ (HB.out _ hb) hl (by decide) (by decide) (by decide) HSL.out).mono ?_
  rintro e w' ⟨rfl, rfl⟩
  rw [show (2 : Int).toNat = 2 by decide]
  go_wp2_with fail
  refine (refKnown_any _ _).mono ?_
  rintro e w' ⟨rfl, rfl⟩
  rw [hk]
  go_upto_region 10 with fail
  -- REFREGION
  have HX : Hid (∀ wx, Below W.heap.size W wx → wx.cell? ⟨b, off, none⟩ = some (.int .u8 (numAt l 0 1 : Nat))) := hid fun wx hx => C0.out wx (bnext hb hx)
  have HZ : Hid (∀ wx, Below W.heap.size W wx → wx.cell? ⟨b, off + 4, none⟩ = some (.int .u8 (numAt l 4 1 : Nat))) := hid fun wx hx => C4.out wx (bnext hb hx)
  refine wp_region_held_drew (S := fun w' => Below W.drew.heap.size W.drew w') (by kernel_rfl) (Below.refl _ _) ?_
  intro hHeld
  have hbW := Below.drew (Below.refl W.heap.size W)
  generalize W.drew = wd at *
  have hcX := fun wx h => HX.out wx (bnext hbW h)
  have hcZ := fun wx h => HZ.out wx (bnext hbW h)
  refine rtake 0 rfl (by rfl) (by kernel_rfl) (by kernel_rfl) (by kernel_rfl) (fun _ _ _ h => h) hHeld (fun wx hwx => by go_simp; try with_reducible rfl) ?_
  try simp only [Act.put, List.setIfInBounds_toArray, List.set_cons_zero, List.set_cons_succ]
  refine rtake 1 rfl (by rfl) (by kernel_rfl) (by kernel_rfl) (by kernel_rfl) (fun _ _ _ h => h) hHeld (fun wx hwx => by go_simp; try with_reducible rfl) ?_
  try simp only [Act.put, List.setIfInBounds_toArray, List.set_cons_zero, List.set_cons_succ]
  refine rtake 2 rfl (by rfl) (by kernel_rfl) (by kernel_rfl) (by kernel_rfl) (fun _ _ _ h => h) hHeld (fun wx hwx => by go_simp; try with_reducible rfl) ?_
  try simp only [Act.put, List.setIfInBounds_toArray, List.set_cons_zero, List.set_cons_succ]
  refine rtake 3 rfl (by rfl) (by kernel_rfl) (by kernel_rfl) (by kernel_rfl) (fun _ _ _ h => h) hHeld (fun wx hwx => by go_simp; try with_reducible rfl) ?_
  try simp only [Act.put, List.setIfInBounds_toArray, List.set_cons_zero, List.set_cons_succ]
  refine rtake 4 rfl (by rfl) (by kernel_rfl) (by kernel_rfl) (by kernel_rfl) (fun _ _ _ h => h) hHeld (fun wx hwx => by go_simp; try with_reducible rfl) ?_
  try simp only [Act.put, List.setIfInBounds_toArray, List.set_cons_zero, List.set_cons_succ]
  refine rtake 5 rfl (by rfl) (by kernel_rfl) (by kernel_rfl) (by kernel_rfl) (fun _ _ _ h => h) hHeld (fun wx hwx => by go_simp; try with_reducible rfl) ?_
  try simp only [Act.put, List.setIfInBounds_toArray, List.set_cons_zero, List.set_cons_succ]
  refine rtake 6 rfl (by rfl) (by kernel_rfl) (by kernel_rfl) (by kernel_rfl) (fun _ _ _ h => h) hHeld (fun wx hwx => by go_simp; try with_reducible rfl) ?_
  try simp only [Act.put, List.setIfInBounds_toArray, List.set_cons_zero, List.set_cons_succ]
  refine rtake 7 rfl (by rfl) (by kernel_rfl) (by kernel_rfl) (by kernel_rfl) (fun _ _ _ h => h) hHeld (fun wx hwx => by go_simp; try with_reducible rfl) ?_
  try simp only [Act.put, List.setIfInBounds_toArray, List.set_cons_zero, List.set_cons_succ]
  refine rtake 8 rfl (by rfl) (by kernel_rfl) (by kernel_rfl) (by kernel_rfl) (fun _ _ _ h => h) hHeld (fun wx hwx => by go_simp; try with_reducible rfl) ?_
  try simp only [Act.put, List.setIfInBounds_toArray, List.set_cons_zero, List.set_cons_succ]
  -- CALL 9: some 7 := Op.alloc 28
  refine rcall 9 rfl (by kernel_rfl) (by rfl) (fun K hK => ?_)
  go_simp
  change K _ (wd.alloc (Obj.cells (msgL hd0 zr).toArray 28))
  have hM := Box.new wd (msgL hd0 zr) 28
  have hN := bnew wd (Obj.cells (msgL hd0 zr).toArray 28)
  generalize hwn : wd.alloc (Obj.cells (msgL hd0 zr).toArray 28) = wn at *
  clear hwn
  refine hK.out _ _ hN ?_
  clear hK K
  try simp only [Act.put, List.setIfInBounds_toArray, List.set_cons_zero, List.set_cons_succ]
  -- CALL 10: none := Op.store 28 (Operand.tmp 7) (Operand.tmp 57)
  refine rcall 10 rfl (by kernel_rfl) (by rfl) (fun K hK => ?_)
  refine op_store_msg (op := ⟨none, .store _ _ _, _, _, _, _⟩) _ _ rfl wd.heap.size (msgL ⟨(numAt l 0 1 : Nat), (numAt l 4 1 : Nat), 0, 0, 0, 0, 0, 0⟩ zr) (msgL hd0 zr) _ rfl rfl hM (msgL_length _ _ zr_length) (msgL_length _ _ zr_length) (msgL_one _ _ zr_one) ?_
  refine hK.out _ _ (below_setRow hN (Nat.le_refl _) _) ?_
  clear hK K
  try simp only [Act.put, List.setIfInBounds_toArray, List.set_cons_zero, List.set_cons_succ]
  refine wpAnyH_done (by kernel_rfl) ?_ _
  have hG : w.heap.size ≤ wd.heap.size := (bnext hb hbW).size
  have hne : w.heap.size ≠ wd.heap.size := by have := hA.lt; have := hbW.size; omega
  replace hA := ((hA.below hbW).below hN).row_other hne (msgL ⟨(numAt l 0 1 : Nat), (numAt l 4 1 : Nat), 0, 0, 0, 0, 0, 0⟩ zr).toArray
  replace hM := hM.row (msgL ⟨(numAt l 0 1 : Nat), (numAt l 4 1 : Nat), 0, 0, 0, 0, 0, 0⟩ zr)
  replace hb := below_setRow (bnext (bnext hb hbW) hN) hG (msgL ⟨(numAt l 0 1 : Nat), (numAt l 4 1 : Nat), 0, 0, 0, 0, 0, 0⟩ zr).toArray
  clear HX HZ hcX hcZ hHeld hbW hN c0 c1 c4 C0 C1 C4
  generalize World.setRow _ _ _ = W1 at *
  generalize wd.heap.size = G at *
  -- END REFREGION
  go_wp2_with fail
  -- REFREADS
  refine (refGet_ok _ l _ _ _ (HB.out _ hb) hl (by decide) (by decide) (by decide) HS2.out).mono ?_
  rintro e w' ⟨rfl, rfl⟩
  have hc := hM.cell 2 _ rfl
  have hf := hM.free 2
  rw [show (6 : Int).toNat = 6 by decide, show (2 : Int).toNat = 2 by decide]
  go_wp2_with fail
  replace hA := hA.other hne 2 (.int .i64 (numAt l 6 2 : Nat))
  replace hM : Box _ G (msgL ⟨(numAt l 0 1 : Nat), (numAt l 4 1 : Nat), (numAt l 6 2 : Nat), 0, 0, 0, 0, 0⟩ zr) _ := hM.set 2 (.int .i64 (numAt l 6 2 : Nat))
  replace hb := hb.setCell (p := ⟨G, 2, none⟩) hG (.int .i64 (numAt l 6 2 : Nat))
  clear hc hf
  generalize World.setCell _ _ _ = W2 at *
  refine (refSigned8_ok _ l _ _ (HB.out _ hb) hl (by decide) HS3.out).mono ?_
  rintro e w' ⟨rfl, rfl⟩
  have hc := hM.cell 3 _ rfl
  have hf := hM.free 3
  rw [show (8 : Int).toNat = 8 by decide]
  go_wp2_with fail
  replace hA := hA.other hne 3 (.int .i64 (signedAt l 8 8))
  replace hM : Box _ G (msgL ⟨(numAt l 0 1 : Nat), (numAt l 4 1 : Nat), (numAt l 6 2 : Nat), (signedAt l 8 8), 0, 0, 0, 0⟩ zr) _ := hM.set 3 (.int .i64 (signedAt l 8 8))
  replace hb := hb.setCell (p := ⟨G, 3, none⟩) hG (.int .i64 (signedAt l 8 8))
  clear hc hf
  generalize World.setCell _ _ _ = W3 at *
  refine (refIdentGet_any _ l _ _ (HB.out _ hb) hl (by decide)).mono ?_
  rintro e wi ⟨rfl, hbi⟩
  rw [gotC_yes HS4.out, gotP_yes HS4.out]
  replace hA := hA.below hbi
  replace hM := hM.below hbi
  replace hb := bnext hb hbi
  clear hbi
  have hc := hM.cell 4 _ rfl
  have hf := hM.free 4
  have hc2 := hM.cell 5 _ rfl
  have hf2 := hM.free 5
  go_wp2_with fail
  replace hA := (hA.other hne 4 (.int .u64 (numAt l 20 8 : Nat))).other hne 5 (.int .i64 (numAt l 28 2 : Nat))
  replace hM : Box _ G (msgL ⟨(numAt l 0 1 : Nat), (numAt l 4 1 : Nat), (numAt l 6 2 : Nat), (signedAt l 8 8), (numAt l 20 8 : Nat), (numAt l 28 2 : Nat), 0, 0⟩ zr) _ := (hM.set 4 (.int .u64 (numAt l 20 8 : Nat))).set 5 (.int .i64 (numAt l 28 2 : Nat))
  replace hb := (hb.setCell (p := ⟨G, 4, none⟩) hG (.int .u64 (numAt l 20 8 : Nat))).setCell (p := ⟨G, 5, none⟩) hG (.int .i64 (numAt l 28 2 : Nat))
  clear hc hf hc2 hf2
  generalize World.setCell _ _ _ = W4 at *
  refine (refGet_ok _ l _ _ _ (HB.out _ hb) hl (by decide) (by decide) (by decide) HS5.out).mono ?_
  rintro e w' ⟨rfl, rfl⟩
  have hc := hM.cell 6 _ rfl
  have hf := hM.free 6
  rw [show (30 : Int).toNat = 30 by decide, show (2 : Int).toNat = 2 by decide]
  go_wp2_with fail
  replace hA := hA.other hne 6 (.int .i64 (numAt l 30 2 : Nat))
  replace hM : Box _ G (msgL ⟨(numAt l 0 1 : Nat), (numAt l 4 1 : Nat), (numAt l 6 2 : Nat), (signedAt l 8 8), (numAt l 20 8 : Nat), (numAt l 28 2 : Nat), (numAt l 30 2 : Nat), 0⟩ zr) _ := hM.set 6 (.int .i64 (numAt l 30 2 : Nat))
  replace hb := hb.setCell (p := ⟨G, 6, none⟩) hG (.int .i64 (numAt l 30 2 : Nat))
  clear hc hf
  generalize World.setCell _ _ _ = W5 at *
  refine (refSigned1_ok _ l _ _ (HB.out _ hb) hl (by decide) HS6.out).mono ?_
  rintro e w' ⟨rfl, rfl⟩
  have hc := hM.cell 7 _ rfl
  have hf := hM.free 7
  rw [show (33 : Int).toNat = 33 by decide]
  have hA2 := hA.other hne 7 (.int .i64 (signedAt l 33 1))
  have hM2 : Box _ G (msgL (gotH l) zr) _ := hM.set 7 (.int .i64 (signedAt l 33 1))
  have hb2 := hb.setCell (p := ⟨G, 7, none⟩) hG (.int .i64 (signedAt l 33 1))
  clear hA hM hb
  -- END REFREADS
  go_upto_region 16 with fail
  apply wp_region_lit
  refine wpList_load_msg (op := ⟨some 88, .load _ _, _, _, _, _⟩) rfl _ rfl G rfl (msgL (gotH l) zr) _ hM2 (msgL_length _ _ zr_length) ?_
  go_wp2_with (refine wpList_store_msg (op := ⟨none, .store _ _ _, _, _, _, _⟩) rfl _ _ rfl w.heap.size (msgL (gotH l) zr) (msgL hd0 zr) _ rfl rfl hA2 (msgL_length _ _ zr_length) (msgL_length _ _ zr_length) (msgL_one _ _ zr_one) ?_)
  refine bodyPost_ret (v := .tuple #[.agg (msgL (gotH l) zr).toArray, .int .i64 (lenOf l), .int .i64 0]) ?_ rfl ⟨rfl, below_setRow hb2 (Nat.le_refl _) _⟩
  exact results_msg_two (p := 2) (u := 3) (u' := 4) rfl _ _ w.heap.size _ (msgL (gotH l) zr) rfl (hA2.row _) (msgL_length _ _ zr_length)

end Go.Proofs.Ytohgpnlihfcecaa
