/- header.Put. -/
import Derived.Test.YtohgpnlihfcecaaMsg
import Derived.Test.YtohgpnlihfcecaaB4
namespace Go.Proofs.Ytohgpnlihfcecaa
open Go.RowKit Go.Proofs
set_option maxRecDepth 50000
set_option linter.unusedVariables false
set_option linter.unusedSimpArgs false

/-- A header's bytes. -/
def headS (h : Hd) (n : Int) : List UInt8 :=
  [] ++ putS h.ty 1 ++ putS 18 1 ++ putS n 2 ++ putS h.dm 1 ++ putS 0 1 ++ putS h.fl 2 ++ putS h.co 8 ++ putS 0 4 ++ portS h.sc h.sp ++ putS h.sq 2 ++ putS (ctl h.ty) 1 ++ putS h.lg 1

theorem headS_length (h : Hd) (n : Int) : (headS h n).length = 34 := by
  unfold headS
  simp only [List.length_append, portS_length]
  rw [putS_length h.ty 1 (by decide) (by decide), putS_length 18 1 (by decide) (by decide), putS_length n 2 (by decide) (by decide), putS_length h.dm 1 (by decide) (by decide), putS_length 0 1 (by decide) (by decide),
    putS_length h.fl 2 (by decide) (by decide), putS_length h.co 8 (by decide) (by decide), putS_length 0 4 (by decide) (by decide), putS_length h.sq 2 (by decide) (by decide), putS_length (ctl h.ty) 1 (by decide) (by decide), putS_length h.lg 1 (by decide) (by decide)]
  rfl

/-- Whether a message with a length has a header. -/
def putB (h : Hd) (n : Int) : Bool := checkB h && inB n 34 400

set_option maxHeartbeats 1600000 in
theorem headPut_no (h : Hd) (r : List Value) (n : Int) (w : World) (hr : r.length = 15) (hp : putB h n = false) :
    Calls Try.prog 22 #[.agg (msgL h r).toArray, .int .i64 n] w fun e w' => e = .returned (.tuple #[.slice none 0 0, .bool false]) ∧ Below w.heap.size w w' := by
  have hl := msgL_length h r hr
  unfold putB at hp
  go_enter Try.func22, Try.ntmps22
  go_upto_region 1 with fail
  obtain ⟨W, hWe, hbw, hBox⟩ := box_msg w (msgL h r)
  rw [← hWe]
  clear hWe
  go_wp2_with (refine wpList_load_msg (op := ⟨some 9, .load _ _, _, _, _, _⟩) rfl _ rfl w.heap.size rfl (msgL h r) _ hBox hl ?_)
  refine (check_any _ _ _).mono ?_
  rintro e w1 ⟨rfl, hb1⟩
  cases hc : checkB h
  · go_wp2_with fail
    go_ret2
    exact ⟨rfl, bnext hbw hb1⟩
  · rw [hc, Bool.true_and] at hp
    go_wp2_with fail
    refine (mayLen_any _ _).mono ?_
    rintro e w' ⟨rfl, rfl⟩
    rw [hp]
    go_wp2_with fail
    go_ret2
    exact ⟨rfl, bnext hbw hb1⟩

set_option maxRecDepth 100000 in
set_option maxHeartbeats 4000000 in
theorem headPut_yes (h : Hd) (r : List Value) (n : Int) (w : World) (hr : r.length = 15) (hs : 0 ≤ h.sc) (hp : putB h n = true) :
    Calls Try.prog 22 #[.agg (msgL h r).toArray, .int .i64 n] w fun e w' => ∃ v, e = .returned (.tuple #[v, .bool true]) ∧ Own w' w.heap.size v (headS h n) ∧ Below w.heap.size w w' := by
  have hl := msgL_length h r hr
  have HS := hid hs
  clear hs
  unfold putB at hp
  rw [Bool.and_eq_true] at hp
  obtain ⟨hc, hn⟩ := hp
  go_enter Try.func22, Try.ntmps22
  go_upto_region 1 with fail
  obtain ⟨W, hWe, hbw, hBox⟩ := box_msg w (msgL h r)
  rw [← hWe]
  clear hWe
  have HH := hid hBox.hd
  go_wp2_with (refine wpList_load_msg (op := ⟨some 9, .load _ _, _, _, _, _⟩) rfl _ rfl w.heap.size rfl (msgL h r) _ hBox hl ?_)
  refine (check_any _ _ _).mono ?_
  rintro e wc ⟨rfl, hbc⟩
  rw [hc]
  obtain ⟨c0, c1, c2, c3, c4, c5, c6, c7⟩ := HH.out _ hbc
  clear hBox hl hc
  go_wp2_with fail
  refine (mayLen_any _ _).mono ?_
  rintro e w' ⟨rfl, rfl⟩
  rw [hn]
  clear hn
  go_wp2_with fail
  refine (control_any _ _).mono ?_
  rintro e w' ⟨rfl, rfl⟩
  go_wp2_with fail
  -- PUTS
  refine (put_any _ [] _ _ _ (Bytes.nil _) (by decide)).mono ?_
  rintro e w0 ⟨v0, rfl, own0, hbl0⟩
  have hb0 := bnext hbc hbl0
  obtain ⟨c0, c1, c2, c3, c4, c5, c6, c7⟩ := HH.out _ hb0
  have len0 : ([] ++ putS h.ty 1).length = 1 := by rw [List.nil_append]; exact putS_length _ _ (by decide) (by decide)
  go_wp2_with fail
  refine (put_any _ ([] ++ putS h.ty 1) _ _ _ own0.bytes (by have := len0; omega)).mono ?_
  rintro e w1 ⟨v1, rfl, own1, hbl1⟩
  have hb1 := bnext hb0 hbl1
  obtain ⟨c0, c1, c2, c3, c4, c5, c6, c7⟩ := HH.out _ hb1
  have len1 : ([] ++ putS h.ty 1 ++ putS 18 1).length = 2 := by rw [List.length_append, len0, putS_length _ _ (by decide) (by decide)]; rfl
  clear own0 len0
  go_wp2_with fail
  refine (put_any _ ([] ++ putS h.ty 1 ++ putS 18 1) _ _ _ own1.bytes (by have := len1; omega)).mono ?_
  rintro e w2 ⟨v2, rfl, own2, hbl2⟩
  have hb2 := bnext hb1 hbl2
  obtain ⟨c0, c1, c2, c3, c4, c5, c6, c7⟩ := HH.out _ hb2
  have len2 : ([] ++ putS h.ty 1 ++ putS 18 1 ++ putS n 2).length = 4 := by rw [List.length_append, len1, putS_length _ _ (by decide) (by decide)]; rfl
  clear own1 len1
  go_wp2_with fail
  refine (put_any _ ([] ++ putS h.ty 1 ++ putS 18 1 ++ putS n 2) _ _ _ own2.bytes (by have := len2; omega)).mono ?_
  rintro e w3 ⟨v3, rfl, own3, hbl3⟩
  have hb3 := bnext hb2 hbl3
  obtain ⟨c0, c1, c2, c3, c4, c5, c6, c7⟩ := HH.out _ hb3
  have len3 : ([] ++ putS h.ty 1 ++ putS 18 1 ++ putS n 2 ++ putS h.dm 1).length = 5 := by rw [List.length_append, len2, putS_length _ _ (by decide) (by decide)]; rfl
  clear own2 len2
  go_wp2_with fail
  refine (put_any _ ([] ++ putS h.ty 1 ++ putS 18 1 ++ putS n 2 ++ putS h.dm 1) _ _ _ own3.bytes (by have := len3; omega)).mono ?_
  rintro e w4 ⟨v4, rfl, own4, hbl4⟩
  have hb4 := bnext hb3 hbl4
  obtain ⟨c0, c1, c2, c3, c4, c5, c6, c7⟩ := HH.out _ hb4
  have len4 : ([] ++ putS h.ty 1 ++ putS 18 1 ++ putS n 2 ++ putS h.dm 1 ++ putS 0 1).length = 6 := by rw [List.length_append, len3, putS_length _ _ (by decide) (by decide)]; rfl
  clear own3 len3
  go_wp2_with fail
  refine (put_any _ ([] ++ putS h.ty 1 ++ putS 18 1 ++ putS n 2 ++ putS h.dm 1 ++ putS 0 1) _ _ _ own4.bytes (by have := len4; omega)).mono ?_
  rintro e w5 ⟨v5, rfl, own5, hbl5⟩
  have hb5 := bnext hb4 hbl5
  obtain ⟨c0, c1, c2, c3, c4, c5, c6, c7⟩ := HH.out _ hb5
  have len5 : ([] ++ putS h.ty 1 ++ putS 18 1 ++ putS n 2 ++ putS h.dm 1 ++ putS 0 1 ++ putS h.fl 2).length = 8 := by rw [List.length_append, len4, putS_length _ _ (by decide) (by decide)]; rfl
  clear own4 len4
  go_wp2_with fail
  refine (put_any _ ([] ++ putS h.ty 1 ++ putS 18 1 ++ putS n 2 ++ putS h.dm 1 ++ putS 0 1 ++ putS h.fl 2) _ _ _ own5.bytes (by have := len5; omega)).mono ?_
  rintro e w6 ⟨v6, rfl, own6, hbl6⟩
  have hb6 := bnext hb5 hbl6
  obtain ⟨c0, c1, c2, c3, c4, c5, c6, c7⟩ := HH.out _ hb6
  have len6 : ([] ++ putS h.ty 1 ++ putS 18 1 ++ putS n 2 ++ putS h.dm 1 ++ putS 0 1 ++ putS h.fl 2 ++ putS h.co 8).length = 16 := by rw [List.length_append, len5, putS_length _ _ (by decide) (by decide)]; rfl
  clear own5 len5
  go_wp2_with fail
  refine (put_any _ ([] ++ putS h.ty 1 ++ putS 18 1 ++ putS n 2 ++ putS h.dm 1 ++ putS 0 1 ++ putS h.fl 2 ++ putS h.co 8) _ _ _ own6.bytes (by have := len6; omega)).mono ?_
  rintro e w7 ⟨v7, rfl, own7, hbl7⟩
  have hb7 := bnext hb6 hbl7
  obtain ⟨c0, c1, c2, c3, c4, c5, c6, c7⟩ := HH.out _ hb7
  have len7 : ([] ++ putS h.ty 1 ++ putS 18 1 ++ putS n 2 ++ putS h.dm 1 ++ putS 0 1 ++ putS h.fl 2 ++ putS h.co 8 ++ putS 0 4).length = 20 := by rw [List.length_append, len6, putS_length _ _ (by decide) (by decide)]; rfl
  clear own6 len6
  go_wp2_with fail
  refine (identPut_any _ ([] ++ putS h.ty 1 ++ putS 18 1 ++ putS n 2 ++ putS h.dm 1 ++ putS 0 1 ++ putS h.fl 2 ++ putS h.co 8 ++ putS 0 4) _ _ _ own7.bytes (by have := len7; omega) HS.out).mono ?_
  rintro e w8 ⟨v8, rfl, own8, hbl8⟩
  have hb8 := bnext hb7 hbl8
  obtain ⟨c0, c1, c2, c3, c4, c5, c6, c7⟩ := HH.out _ hb8
  have len8 : ([] ++ putS h.ty 1 ++ putS 18 1 ++ putS n 2 ++ putS h.dm 1 ++ putS 0 1 ++ putS h.fl 2 ++ putS h.co 8 ++ putS 0 4 ++ portS h.sc h.sp).length = 30 := by rw [List.length_append, len7, portS_length]
  clear own7 len7
  go_wp2_with fail
  refine (put_any _ ([] ++ putS h.ty 1 ++ putS 18 1 ++ putS n 2 ++ putS h.dm 1 ++ putS 0 1 ++ putS h.fl 2 ++ putS h.co 8 ++ putS 0 4 ++ portS h.sc h.sp) _ _ _ own8.bytes (by have := len8; omega)).mono ?_
  rintro e w9 ⟨v9, rfl, own9, hbl9⟩
  have hb9 := bnext hb8 hbl9
  obtain ⟨c0, c1, c2, c3, c4, c5, c6, c7⟩ := HH.out _ hb9
  have len9 : ([] ++ putS h.ty 1 ++ putS 18 1 ++ putS n 2 ++ putS h.dm 1 ++ putS 0 1 ++ putS h.fl 2 ++ putS h.co 8 ++ putS 0 4 ++ portS h.sc h.sp ++ putS h.sq 2).length = 32 := by rw [List.length_append, len8, putS_length _ _ (by decide) (by decide)]; rfl
  clear own8 len8
  go_wp2_with fail
  refine (put_any _ ([] ++ putS h.ty 1 ++ putS 18 1 ++ putS n 2 ++ putS h.dm 1 ++ putS 0 1 ++ putS h.fl 2 ++ putS h.co 8 ++ putS 0 4 ++ portS h.sc h.sp ++ putS h.sq 2) _ _ _ own9.bytes (by have := len9; omega)).mono ?_
  rintro e w10 ⟨v10, rfl, own10, hbl10⟩
  have hb10 := bnext hb9 hbl10
  obtain ⟨c0, c1, c2, c3, c4, c5, c6, c7⟩ := HH.out _ hb10
  have len10 : ([] ++ putS h.ty 1 ++ putS 18 1 ++ putS n 2 ++ putS h.dm 1 ++ putS 0 1 ++ putS h.fl 2 ++ putS h.co 8 ++ putS 0 4 ++ portS h.sc h.sp ++ putS h.sq 2 ++ putS (ctl h.ty) 1).length = 33 := by rw [List.length_append, len9, putS_length _ _ (by decide) (by decide)]; rfl
  clear own9 len9
  go_wp2_with fail
  refine (put_any _ ([] ++ putS h.ty 1 ++ putS 18 1 ++ putS n 2 ++ putS h.dm 1 ++ putS 0 1 ++ putS h.fl 2 ++ putS h.co 8 ++ putS 0 4 ++ portS h.sc h.sp ++ putS h.sq 2 ++ putS (ctl h.ty) 1) _ _ _ own10.bytes (by have := len10; omega)).mono ?_
  rintro e w11 ⟨v11, rfl, own11, hbl11⟩
  have hb11 := bnext hb10 hbl11
  obtain ⟨c0, c1, c2, c3, c4, c5, c6, c7⟩ := HH.out _ hb11
  have len11 : ([] ++ putS h.ty 1 ++ putS 18 1 ++ putS n 2 ++ putS h.dm 1 ++ putS 0 1 ++ putS h.fl 2 ++ putS h.co 8 ++ putS 0 4 ++ portS h.sc h.sp ++ putS h.sq 2 ++ putS (ctl h.ty) 1 ++ putS h.lg 1).length = 34 := by rw [List.length_append, len10, putS_length _ _ (by decide) (by decide)]; rfl
  clear own10 len10
  -- END PUTS
  go_wp2_with fail
  go_ret2
  exact ⟨_, rfl, own11.mono (Nat.le_trans hbw.size hb10.size), bnext hbw hb11⟩
end Go.Proofs.Ytohgpnlihfcecaa
