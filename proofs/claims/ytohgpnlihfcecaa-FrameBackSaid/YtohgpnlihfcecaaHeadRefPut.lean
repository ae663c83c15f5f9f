/- The document's own answer of chapter 6 that puts: carillonref06.Put (gen_refput.py). -/
import Derived.Test.YtohgpnlihfcecaaHeadPut
import Derived.Test.YtohgpnlihfcecaaB4
namespace Go.Proofs.Ytohgpnlihfcecaa
open Go.RowKit Go.Proofs
set_option maxRecDepth 50000
set_option linter.unusedVariables false
set_option linter.unusedSimpArgs false

/-- A number's lowest byte. -/
def byt (x : Int) : UInt8 := UInt8.ofNat (x % 18446744073709551616).toNat

theorem putS_one (x : Int) : putS x 1 = [byt x] := by
  unfold putS byt
  rw [show (min (max (1 : Int) 0) 8).toNat = 1 by decide]
  simp [putN]

theorem byt_val (x : Int) : x % 256 = ((byt x).toNat : Int) := by
  unfold byt
  rw [UInt8.toNat_ofNat']
  omega

theorem byt_wrap (x : Int) : IntKind.u8.wrap x = ((byt x).toNat : Int) := by
  rw [← byt_val]
  unfold IntKind.wrap
  simp [IntKind.signed, IntKind.bits]

theorem heads_same (h : Hd) (n : Int) (c : UInt8) (hc : ctl h.ty = (c.toNat : Int)) :
    [byt h.ty, 18] ++ putS n 2 ++ [byt h.dm, 0] ++ putS h.fl 2 ++ putS h.co 8 ++ [0, 0, 0, 0] ++ portS h.sc h.sp ++ putS h.sq 2 ++ [c, byt h.lg] = headS h n := by
  have e1 : putS 18 1 = [18] := by decide +kernel
  have e2 : putS 0 1 = [0] := by decide +kernel
  have e3 : putS 0 4 = [0, 0, 0, 0] := by decide +kernel
  have e4 : byt (c.toNat : Int) = c := by
    have h1 := byt_val (c.toNat : Int)
    have := c.toNat_lt
    apply UInt8.toNat_inj.1
    omega
  unfold headS
  rw [hc, putS_one h.ty, e1, putS_one h.dm, e2, e3, putS_one (c.toNat : Int), e4, putS_one h.lg]
  simp only [List.append_assoc, List.cons_append, List.nil_append]

set_option maxRecDepth 100000 in
set_option maxHeartbeats 8000000 in
theorem refHeadPut_yes (h : Hd) (r : List Value) (n : Int) (w : World) (hr : r.length = 15) (hs : 0 ≤ h.sc) (hs2 : h.sc < 18446744073709551616) (hp : putB h n = true) :
    Calls Try.prog 26 #[.agg (msgL h r).toArray, .int .i64 n] w (NewBytes w (headS h n)) := by
  have hl := msgL_length h r hr
  have HS := hid hs
  have HS2 := hid hs2
  clear hs hs2
  unfold putB at hp
  rw [Bool.and_eq_true] at hp
  obtain ⟨hc, hn⟩ := hp
  unfold inB at hn
  rw [decide_eq_true_eq] at hn
  obtain ⟨hn1, hn2⟩ := hn
  have Hk := hid (check_of hc).1
  go_enter Try.func26, Try.ntmps26
  go_upto_region 1 with fail
  obtain ⟨W, hWe, hbw, hBox⟩ := box_msg w (msgL h r)
  rw [← hWe]
  clear hWe
  have HH := hid hBox.hd
  go_wp2_with (refine wpList_load_msg (op := ⟨some 7, .load _ _, _, _, _, _⟩) rfl _ rfl w.heap.size rfl (msgL h r) _ hBox hl ?_)
  refine (refCheck_any _ _ _).mono ?_
  rintro e wc ⟨rfl, hb⟩
  rw [hc]
  obtain ⟨c0, c1, c2, c3, c4, c5, c6, c7⟩ := HH.out _ hb
  clear hBox hl hc
  have ht := byt_val h.ty
  have hd := byt_val h.dm
  have hlg := byt_val h.lg
  go_upto_region 4 with fail
  have own3 : Own (wc.alloc (Obj.cells (cellsOf [byt h.ty, 18]).toArray 5)) W.heap.size (.slice (some ⟨wc.heap.size, 0, none⟩) 2 2) [byt h.ty, 18] := (Own.lit wc [byt h.ty, 18] (by simp [maxLen])).mono hb.size
  have hb3 := bnext hb (bnew wc (Obj.cells (cellsOf [byt h.ty, 18]).toArray 5))
  have len3 : [byt h.ty, 18].length = 2 := rfl
  change Code.wp _ _ _ _ (wc.alloc (Obj.cells (cellsOf [byt h.ty, 18]).toArray 5))
  generalize (wc.alloc (Obj.cells (cellsOf [byt h.ty, 18]).toArray 5)) = wk3 at *
  generalize wc.heap.size = g3 at *
  clear hb c0 c1 c2 c3 c4 c5 c6 c7
  obtain ⟨c0, c1, c2, c3, c4, c5, c6, c7⟩ := HH.out _ hb3
  -- REFPUTS
  go_wp2_with fail
  refine (refPut_any _ _ _).mono ?_
  rintro e wa4 ⟨xa4, rfl, ownx, hbx⟩
  have hB := (bnext hb3 hbx).size
  go_upto_region 5 with (at_builtin; refine wpList_append_bytes (o := ⟨some 25, _, _, _, _, _⟩) rfl _ _ rfl rfl W.heap.size _ _ ([byt h.ty, 18]) (putS n 2) rfl rfl (own3.below hbx) ownx.bytes ?_ ?_ ?_; (rw [len3, putS_length _ _ (by decide) (by decide)]; decide); exact hB; intro v4 wk4 own4 hbel4)
  have hb4 := (bnext hb3 hbx).trans hbel4
  have len4 : ([byt h.ty, 18] ++ putS n 2).length = 4 := by rw [List.length_append, len3, putS_length _ _ (by decide) (by decide)]; rfl
  clear own3 hB len3 hb3 ownx hbx hbel4 c0 c1 c2 c3 c4 c5 c6 c7
  obtain ⟨c0, c1, c2, c3, c4, c5, c6, c7⟩ := HH.out _ hb4
  have hB : W.heap.size ≤ (wk4.alloc (Obj.cells (cellsOf [byt h.dm, 0]).toArray 5)).heap.size := (bnext hb4 (bnew wk4 _)).size
  have hx : Bytes (wk4.alloc (Obj.cells (cellsOf [byt h.dm, 0]).toArray 5)) (.slice (some ⟨wk4.heap.size, 0, none⟩) 2 2) [byt h.dm, 0] := (Own.lit wk4 [byt h.dm, 0] (by simp [maxLen])).bytes
  have hO := own4.below (bnew wk4 (Obj.cells (cellsOf [byt h.dm, 0]).toArray 5))
  go_upto_region 6 with (at_builtin; refine wpList_append_bytes (o := ⟨some 31, _, _, _, _, _⟩) rfl _ _ rfl rfl W.heap.size _ _ ([byt h.ty, 18] ++ putS n 2) [byt h.dm, 0] rfl rfl hO hx ?_ hB ?_; (rw [len4]; exact of_decide_eq_true (by kernel_rfl)); intro v5 wk5 own5 hbel5)
  have hb5 := (bnext hb4 (bnew wk4 (Obj.cells (cellsOf [byt h.dm, 0]).toArray 5))).trans hbel5
  have len5 : ([byt h.ty, 18] ++ putS n 2 ++ [byt h.dm, 0]).length = 6 := by rw [List.length_append, len4]; rfl
  clear own4 hB len4 hb4 hx hO hbel5 c0 c1 c2 c3 c4 c5 c6 c7
  obtain ⟨c0, c1, c2, c3, c4, c5, c6, c7⟩ := HH.out _ hb5
  go_wp2_with fail
  refine (refPut_any _ _ _).mono ?_
  rintro e wa6 ⟨xa6, rfl, ownx, hbx⟩
  have hB := (bnext hb5 hbx).size
  go_upto_region 7 with (at_builtin; refine wpList_append_bytes (o := ⟨some 36, _, _, _, _, _⟩) rfl _ _ rfl rfl W.heap.size _ _ ([byt h.ty, 18] ++ putS n 2 ++ [byt h.dm, 0]) (putS h.fl 2) rfl rfl (own5.below hbx) ownx.bytes ?_ ?_ ?_; (rw [len5, putS_length _ _ (by decide) (by decide)]; decide); exact hB; intro v6 wk6 own6 hbel6)
  have hb6 := (bnext hb5 hbx).trans hbel6
  have len6 : ([byt h.ty, 18] ++ putS n 2 ++ [byt h.dm, 0] ++ putS h.fl 2).length = 8 := by rw [List.length_append, len5, putS_length _ _ (by decide) (by decide)]; rfl
  clear own5 hB len5 hb5 ownx hbx hbel6 c0 c1 c2 c3 c4 c5 c6 c7
  obtain ⟨c0, c1, c2, c3, c4, c5, c6, c7⟩ := HH.out _ hb6
  go_wp2_with fail
  refine (refPut_any _ _ _).mono ?_
  rintro e wa7 ⟨xa7, rfl, ownx, hbx⟩
  have hB := (bnext hb6 hbx).size
  go_upto_region 8 with (at_builtin; refine wpList_append_bytes (o := ⟨some 41, _, _, _, _, _⟩) rfl _ _ rfl rfl W.heap.size _ _ ([byt h.ty, 18] ++ putS n 2 ++ [byt h.dm, 0] ++ putS h.fl 2) (putS h.co 8) rfl rfl (own6.below hbx) ownx.bytes ?_ ?_ ?_; (rw [len6, putS_length _ _ (by decide) (by decide)]; decide); exact hB; intro v7 wk7 own7 hbel7)
  have hb7 := (bnext hb6 hbx).trans hbel7
  have len7 : ([byt h.ty, 18] ++ putS n 2 ++ [byt h.dm, 0] ++ putS h.fl 2 ++ putS h.co 8).length = 16 := by rw [List.length_append, len6, putS_length _ _ (by decide) (by decide)]; rfl
  clear own6 hB len6 hb6 ownx hbx hbel7 c0 c1 c2 c3 c4 c5 c6 c7
  obtain ⟨c0, c1, c2, c3, c4, c5, c6, c7⟩ := HH.out _ hb7
  have hB : W.heap.size ≤ (wk7.alloc (Obj.cells (cellsOf [0, 0, 0, 0]).toArray 5)).heap.size := (bnext hb7 (bnew wk7 _)).size
  have hx : Bytes (wk7.alloc (Obj.cells (cellsOf [0, 0, 0, 0]).toArray 5)) (.slice (some ⟨wk7.heap.size, 0, none⟩) 4 4) [0, 0, 0, 0] := (Own.lit wk7 [0, 0, 0, 0] (by simp [maxLen])).bytes
  have hO := own7.below (bnew wk7 (Obj.cells (cellsOf [0, 0, 0, 0]).toArray 5))
  go_upto_region 9 with (at_builtin; refine wpList_append_bytes (o := ⟨some 44, _, _, _, _, _⟩) rfl _ _ rfl rfl W.heap.size _ _ ([byt h.ty, 18] ++ putS n 2 ++ [byt h.dm, 0] ++ putS h.fl 2 ++ putS h.co 8) [0, 0, 0, 0] rfl rfl hO hx ?_ hB ?_; (rw [len7]; exact of_decide_eq_true (by kernel_rfl)); intro v8 wk8 own8 hbel8)
  have hb8 := (bnext hb7 (bnew wk7 (Obj.cells (cellsOf [0, 0, 0, 0]).toArray 5))).trans hbel8
  have len8 : ([byt h.ty, 18] ++ putS n 2 ++ [byt h.dm, 0] ++ putS h.fl 2 ++ putS h.co 8 ++ [0, 0, 0, 0]).length = 20 := by rw [List.length_append, len7]; rfl
  clear own7 hB len7 hb7 hx hO hbel8 c0 c1 c2 c3 c4 c5 c6 c7
  obtain ⟨c0, c1, c2, c3, c4, c5, c6, c7⟩ := HH.out _ hb8
  go_wp2_with fail
  refine (refIdentPut_any _ _ _ HS.out HS2.out).mono ?_
  rintro e wa9 ⟨xa9, rfl, ownx, hbx⟩
  have hB := (bnext hb8 hbx).size
  go_upto_region 10 with (at_builtin; refine wpList_append_bytes (o := ⟨some 49, _, _, _, _, _⟩) rfl _ _ rfl rfl W.heap.size _ _ ([byt h.ty, 18] ++ putS n 2 ++ [byt h.dm, 0] ++ putS h.fl 2 ++ putS h.co 8 ++ [0, 0, 0, 0]) (portS h.sc h.sp) rfl rfl (own8.below hbx) ownx.bytes ?_ ?_ ?_; (rw [len8, portS_length]; decide); exact hB; intro v9 wk9 own9 hbel9)
  have hb9 := (bnext hb8 hbx).trans hbel9
  have len9 : ([byt h.ty, 18] ++ putS n 2 ++ [byt h.dm, 0] ++ putS h.fl 2 ++ putS h.co 8 ++ [0, 0, 0, 0] ++ portS h.sc h.sp).length = 30 := by rw [List.length_append, len8, portS_length]
  clear own8 hB len8 hb8 ownx hbx hbel9 c0 c1 c2 c3 c4 c5 c6 c7
  obtain ⟨c0, c1, c2, c3, c4, c5, c6, c7⟩ := HH.out _ hb9
  go_wp2_with fail
  refine (refPut_any _ _ _).mono ?_
  rintro e wa10 ⟨xa10, rfl, ownx, hbx⟩
  have hB := (bnext hb9 hbx).size
  go_upto_region 11 with (at_builtin; refine wpList_append_bytes (o := ⟨some 54, _, _, _, _, _⟩) rfl _ _ rfl rfl W.heap.size _ _ ([byt h.ty, 18] ++ putS n 2 ++ [byt h.dm, 0] ++ putS h.fl 2 ++ putS h.co 8 ++ [0, 0, 0, 0] ++ portS h.sc h.sp) (putS h.sq 2) rfl rfl (own9.below hbx) ownx.bytes ?_ ?_ ?_; (rw [len9, putS_length _ _ (by decide) (by decide)]; decide); exact hB; intro v10 wk10 own10 hbel10)
  have hb10 := (bnext hb9 hbx).trans hbel10
  have len10 : ([byt h.ty, 18] ++ putS n 2 ++ [byt h.dm, 0] ++ putS h.fl 2 ++ putS h.co 8 ++ [0, 0, 0, 0] ++ portS h.sc h.sp ++ putS h.sq 2).length = 32 := by rw [List.length_append, len9, putS_length _ _ (by decide) (by decide)]; rfl
  clear own9 hB len9 hb9 ownx hbx hbel10 c0 c1 c2 c3 c4 c5 c6 c7
  obtain ⟨c0, c1, c2, c3, c4, c5, c6, c7⟩ := HH.out _ hb10
  rcases known_or Hk.out with ht0 | ht0 | ht0 | ht0 | ht0 | ht0 | ht0 | ht0 | ht0 | ht0
  · have hB : W.heap.size ≤ (wk10.alloc (Obj.cells (cellsOf [0, byt h.lg]).toArray 5)).heap.size := (bnext hb10 (bnew wk10 _)).size
    have hx : Bytes (wk10.alloc (Obj.cells (cellsOf [0, byt h.lg]).toArray 5)) (.slice (some ⟨wk10.heap.size, 0, none⟩) 2 2) [0, byt h.lg] := (Own.lit wk10 [0, byt h.lg] (by simp [maxLen])).bytes
    have hO := own10.below (bnew wk10 (Obj.cells (cellsOf [0, byt h.lg]).toArray 5))
    go_wp2_with (at_builtin; refine wpList_append_bytes (o := ⟨some 73, _, _, _, _, _⟩) rfl _ _ rfl rfl W.heap.size _ _ ([byt h.ty, 18] ++ putS n 2 ++ [byt h.dm, 0] ++ putS h.fl 2 ++ putS h.co 8 ++ [0, 0, 0, 0] ++ portS h.sc h.sp ++ putS h.sq 2) [0, byt h.lg] rfl rfl hO hx ?_ hB ?_; (rw [len10]; exact of_decide_eq_true (by kernel_rfl)); intro ve we owne hbe)
    have hbf := (bnext hb10 (bnew wk10 (Obj.cells (cellsOf [0, byt h.lg]).toArray 5))).trans hbe
    go_ret
    refine ⟨ve, rfl, ?_, bnext hbw hbf⟩
    have e := owne.mono hbw.size
    rw [heads_same h n 0 (by rw [ht0]; rfl)] at e
    exact e
  · have hB : W.heap.size ≤ (wk10.alloc (Obj.cells (cellsOf [1, byt h.lg]).toArray 5)).heap.size := (bnext hb10 (bnew wk10 _)).size
    have hx : Bytes (wk10.alloc (Obj.cells (cellsOf [1, byt h.lg]).toArray 5)) (.slice (some ⟨wk10.heap.size, 0, none⟩) 2 2) [1, byt h.lg] := (Own.lit wk10 [1, byt h.lg] (by simp [maxLen])).bytes
    have hO := own10.below (bnew wk10 (Obj.cells (cellsOf [1, byt h.lg]).toArray 5))
    go_wp2_with (at_builtin; refine wpList_append_bytes (o := ⟨some 73, _, _, _, _, _⟩) rfl _ _ rfl rfl W.heap.size _ _ ([byt h.ty, 18] ++ putS n 2 ++ [byt h.dm, 0] ++ putS h.fl 2 ++ putS h.co 8 ++ [0, 0, 0, 0] ++ portS h.sc h.sp ++ putS h.sq 2) [1, byt h.lg] rfl rfl hO hx ?_ hB ?_; (rw [len10]; exact of_decide_eq_true (by kernel_rfl)); intro ve we owne hbe)
    have hbf := (bnext hb10 (bnew wk10 (Obj.cells (cellsOf [1, byt h.lg]).toArray 5))).trans hbe
    go_ret
    refine ⟨ve, rfl, ?_, bnext hbw hbf⟩
    have e := owne.mono hbw.size
    rw [heads_same h n 1 (by rw [ht0]; rfl)] at e
    exact e
  · have hB : W.heap.size ≤ (wk10.alloc (Obj.cells (cellsOf [5, byt h.lg]).toArray 5)).heap.size := (bnext hb10 (bnew wk10 _)).size
    have hx : Bytes (wk10.alloc (Obj.cells (cellsOf [5, byt h.lg]).toArray 5)) (.slice (some ⟨wk10.heap.size, 0, none⟩) 2 2) [5, byt h.lg] := (Own.lit wk10 [5, byt h.lg] (by simp [maxLen])).bytes
    have hO := own10.below (bnew wk10 (Obj.cells (cellsOf [5, byt h.lg]).toArray 5))
    go_wp2_with (at_builtin; refine wpList_append_bytes (o := ⟨some 73, _, _, _, _, _⟩) rfl _ _ rfl rfl W.heap.size _ _ ([byt h.ty, 18] ++ putS n 2 ++ [byt h.dm, 0] ++ putS h.fl 2 ++ putS h.co 8 ++ [0, 0, 0, 0] ++ portS h.sc h.sp ++ putS h.sq 2) [5, byt h.lg] rfl rfl hO hx ?_ hB ?_; (rw [len10]; exact of_decide_eq_true (by kernel_rfl)); intro ve we owne hbe)
    have hbf := (bnext hb10 (bnew wk10 (Obj.cells (cellsOf [5, byt h.lg]).toArray 5))).trans hbe
    go_ret
    refine ⟨ve, rfl, ?_, bnext hbw hbf⟩
    have e := owne.mono hbw.size
    rw [heads_same h n 5 (by rw [ht0]; rfl)] at e
    exact e
  · have hB : W.heap.size ≤ (wk10.alloc (Obj.cells (cellsOf [5, byt h.lg]).toArray 5)).heap.size := (bnext hb10 (bnew wk10 _)).size
    have hx : Bytes (wk10.alloc (Obj.cells (cellsOf [5, byt h.lg]).toArray 5)) (.slice (some ⟨wk10.heap.size, 0, none⟩) 2 2) [5, byt h.lg] := (Own.lit wk10 [5, byt h.lg] (by simp [maxLen])).bytes
    have hO := own10.below (bnew wk10 (Obj.cells (cellsOf [5, byt h.lg]).toArray 5))
    go_wp2_with (at_builtin; refine wpList_append_bytes (o := ⟨some 73, _, _, _, _, _⟩) rfl _ _ rfl rfl W.heap.size _ _ ([byt h.ty, 18] ++ putS n 2 ++ [byt h.dm, 0] ++ putS h.fl 2 ++ putS h.co 8 ++ [0, 0, 0, 0] ++ portS h.sc h.sp ++ putS h.sq 2) [5, byt h.lg] rfl rfl hO hx ?_ hB ?_; (rw [len10]; exact of_decide_eq_true (by kernel_rfl)); intro ve we owne hbe)
    have hbf := (bnext hb10 (bnew wk10 (Obj.cells (cellsOf [5, byt h.lg]).toArray 5))).trans hbe
    go_ret
    refine ⟨ve, rfl, ?_, bnext hbw hbf⟩
    have e := owne.mono hbw.size
    rw [heads_same h n 5 (by rw [ht0]; rfl)] at e
    exact e
  · have hB : W.heap.size ≤ (wk10.alloc (Obj.cells (cellsOf [2, byt h.lg]).toArray 5)).heap.size := (bnext hb10 (bnew wk10 _)).size
    have hx : Bytes (wk10.alloc (Obj.cells (cellsOf [2, byt h.lg]).toArray 5)) (.slice (some ⟨wk10.heap.size, 0, none⟩) 2 2) [2, byt h.lg] := (Own.lit wk10 [2, byt h.lg] (by simp [maxLen])).bytes
    have hO := own10.below (bnew wk10 (Obj.cells (cellsOf [2, byt h.lg]).toArray 5))
    go_wp2_with (at_builtin; refine wpList_append_bytes (o := ⟨some 73, _, _, _, _, _⟩) rfl _ _ rfl rfl W.heap.size _ _ ([byt h.ty, 18] ++ putS n 2 ++ [byt h.dm, 0] ++ putS h.fl 2 ++ putS h.co 8 ++ [0, 0, 0, 0] ++ portS h.sc h.sp ++ putS h.sq 2) [2, byt h.lg] rfl rfl hO hx ?_ hB ?_; (rw [len10]; exact of_decide_eq_true (by kernel_rfl)); intro ve we owne hbe)
    have hbf := (bnext hb10 (bnew wk10 (Obj.cells (cellsOf [2, byt h.lg]).toArray 5))).trans hbe
    go_ret
    refine ⟨ve, rfl, ?_, bnext hbw hbf⟩
    have e := owne.mono hbw.size
    rw [heads_same h n 2 (by rw [ht0]; rfl)] at e
    exact e
  · have hB : W.heap.size ≤ (wk10.alloc (Obj.cells (cellsOf [3, byt h.lg]).toArray 5)).heap.size := (bnext hb10 (bnew wk10 _)).size
    have hx : Bytes (wk10.alloc (Obj.cells (cellsOf [3, byt h.lg]).toArray 5)) (.slice (some ⟨wk10.heap.size, 0, none⟩) 2 2) [3, byt h.lg] := (Own.lit wk10 [3, byt h.lg] (by simp [maxLen])).bytes
    have hO := own10.below (bnew wk10 (Obj.cells (cellsOf [3, byt h.lg]).toArray 5))
    go_wp2_with (at_builtin; refine wpList_append_bytes (o := ⟨some 73, _, _, _, _, _⟩) rfl _ _ rfl rfl W.heap.size _ _ ([byt h.ty, 18] ++ putS n 2 ++ [byt h.dm, 0] ++ putS h.fl 2 ++ putS h.co 8 ++ [0, 0, 0, 0] ++ portS h.sc h.sp ++ putS h.sq 2) [3, byt h.lg] rfl rfl hO hx ?_ hB ?_; (rw [len10]; exact of_decide_eq_true (by kernel_rfl)); intro ve we owne hbe)
    have hbf := (bnext hb10 (bnew wk10 (Obj.cells (cellsOf [3, byt h.lg]).toArray 5))).trans hbe
    go_ret
    refine ⟨ve, rfl, ?_, bnext hbw hbf⟩
    have e := owne.mono hbw.size
    rw [heads_same h n 3 (by rw [ht0]; rfl)] at e
    exact e
  · have hB : W.heap.size ≤ (wk10.alloc (Obj.cells (cellsOf [5, byt h.lg]).toArray 5)).heap.size := (bnext hb10 (bnew wk10 _)).size
    have hx : Bytes (wk10.alloc (Obj.cells (cellsOf [5, byt h.lg]).toArray 5)) (.slice (some ⟨wk10.heap.size, 0, none⟩) 2 2) [5, byt h.lg] := (Own.lit wk10 [5, byt h.lg] (by simp [maxLen])).bytes
    have hO := own10.below (bnew wk10 (Obj.cells (cellsOf [5, byt h.lg]).toArray 5))
    go_wp2_with (at_builtin; refine wpList_append_bytes (o := ⟨some 73, _, _, _, _, _⟩) rfl _ _ rfl rfl W.heap.size _ _ ([byt h.ty, 18] ++ putS n 2 ++ [byt h.dm, 0] ++ putS h.fl 2 ++ putS h.co 8 ++ [0, 0, 0, 0] ++ portS h.sc h.sp ++ putS h.sq 2) [5, byt h.lg] rfl rfl hO hx ?_ hB ?_; (rw [len10]; exact of_decide_eq_true (by kernel_rfl)); intro ve we owne hbe)
    have hbf := (bnext hb10 (bnew wk10 (Obj.cells (cellsOf [5, byt h.lg]).toArray 5))).trans hbe
    go_ret
    refine ⟨ve, rfl, ?_, bnext hbw hbf⟩
    have e := owne.mono hbw.size
    rw [heads_same h n 5 (by rw [ht0]; rfl)] at e
    exact e
  · have hB : W.heap.size ≤ (wk10.alloc (Obj.cells (cellsOf [5, byt h.lg]).toArray 5)).heap.size := (bnext hb10 (bnew wk10 _)).size
    have hx : Bytes (wk10.alloc (Obj.cells (cellsOf [5, byt h.lg]).toArray 5)) (.slice (some ⟨wk10.heap.size, 0, none⟩) 2 2) [5, byt h.lg] := (Own.lit wk10 [5, byt h.lg] (by simp [maxLen])).bytes
    have hO := own10.below (bnew wk10 (Obj.cells (cellsOf [5, byt h.lg]).toArray 5))
    go_wp2_with (at_builtin; refine wpList_append_bytes (o := ⟨some 73, _, _, _, _, _⟩) rfl _ _ rfl rfl W.heap.size _ _ ([byt h.ty, 18] ++ putS n 2 ++ [byt h.dm, 0] ++ putS h.fl 2 ++ putS h.co 8 ++ [0, 0, 0, 0] ++ portS h.sc h.sp ++ putS h.sq 2) [5, byt h.lg] rfl rfl hO hx ?_ hB ?_; (rw [len10]; exact of_decide_eq_true (by kernel_rfl)); intro ve we owne hbe)
    have hbf := (bnext hb10 (bnew wk10 (Obj.cells (cellsOf [5, byt h.lg]).toArray 5))).trans hbe
    go_ret
    refine ⟨ve, rfl, ?_, bnext hbw hbf⟩
    have e := owne.mono hbw.size
    rw [heads_same h n 5 (by rw [ht0]; rfl)] at e
    exact e
  · have hB : W.heap.size ≤ (wk10.alloc (Obj.cells (cellsOf [5, byt h.lg]).toArray 5)).heap.size := (bnext hb10 (bnew wk10 _)).size
    have hx : Bytes (wk10.alloc (Obj.cells (cellsOf [5, byt h.lg]).toArray 5)) (.slice (some ⟨wk10.heap.size, 0, none⟩) 2 2) [5, byt h.lg] := (Own.lit wk10 [5, byt h.lg] (by simp [maxLen])).bytes
    have hO := own10.below (bnew wk10 (Obj.cells (cellsOf [5, byt h.lg]).toArray 5))
    go_wp2_with (at_builtin; refine wpList_append_bytes (o := ⟨some 73, _, _, _, _, _⟩) rfl _ _ rfl rfl W.heap.size _ _ ([byt h.ty, 18] ++ putS n 2 ++ [byt h.dm, 0] ++ putS h.fl 2 ++ putS h.co 8 ++ [0, 0, 0, 0] ++ portS h.sc h.sp ++ putS h.sq 2) [5, byt h.lg] rfl rfl hO hx ?_ hB ?_; (rw [len10]; exact of_decide_eq_true (by kernel_rfl)); intro ve we owne hbe)
    have hbf := (bnext hb10 (bnew wk10 (Obj.cells (cellsOf [5, byt h.lg]).toArray 5))).trans hbe
    go_ret
    refine ⟨ve, rfl, ?_, bnext hbw hbf⟩
    have e := owne.mono hbw.size
    rw [heads_same h n 5 (by rw [ht0]; rfl)] at e
    exact e
  · have hB : W.heap.size ≤ (wk10.alloc (Obj.cells (cellsOf [4, byt h.lg]).toArray 5)).heap.size := (bnext hb10 (bnew wk10 _)).size
    have hx : Bytes (wk10.alloc (Obj.cells (cellsOf [4, byt h.lg]).toArray 5)) (.slice (some ⟨wk10.heap.size, 0, none⟩) 2 2) [4, byt h.lg] := (Own.lit wk10 [4, byt h.lg] (by simp [maxLen])).bytes
    have hO := own10.below (bnew wk10 (Obj.cells (cellsOf [4, byt h.lg]).toArray 5))
    go_wp2_with (at_builtin; refine wpList_append_bytes (o := ⟨some 73, _, _, _, _, _⟩) rfl _ _ rfl rfl W.heap.size _ _ ([byt h.ty, 18] ++ putS n 2 ++ [byt h.dm, 0] ++ putS h.fl 2 ++ putS h.co 8 ++ [0, 0, 0, 0] ++ portS h.sc h.sp ++ putS h.sq 2) [4, byt h.lg] rfl rfl hO hx ?_ hB ?_; (rw [len10]; exact of_decide_eq_true (by kernel_rfl)); intro ve we owne hbe)
    have hbf := (bnext hb10 (bnew wk10 (Obj.cells (cellsOf [4, byt h.lg]).toArray 5))).trans hbe
    go_ret
    refine ⟨ve, rfl, ?_, bnext hbw hbf⟩
    have e := owne.mono hbw.size
    rw [heads_same h n 4 (by rw [ht0]; rfl)] at e
    exact e
  -- END REFPUTS
end Go.Proofs.Ytohgpnlihfcecaa
