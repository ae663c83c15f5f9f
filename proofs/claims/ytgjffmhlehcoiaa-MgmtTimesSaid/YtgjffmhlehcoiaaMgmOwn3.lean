/- The program's own answers to questions: told, turned, Answer (gen_mgmown.py). -/
import Derived.Test.YtgjffmhlehcoiaaMgmOwn2
import Derived.Test.YtgjffmhlehcoiaaStrB
import Derived.Test.YtgjffmhlehcoiaaConfOwn
namespace Go.Proofs.Ytgjffmhlehcoiaa
open Go.RowKit Go.Proofs
set_option maxRecDepth 50000
set_option linter.unusedVariables false
set_option linter.unusedSimpArgs false

set_option maxRecDepth 100000 in
set_option maxHeartbeats 8000000 in
theorem member_8197 (g : Nat) (w : World) : Calls Try.prog 27 #[.pointer (some ⟨g, 0, none⟩), .int .i64 8197] w fun e w' => e = .returned (.pointer (some ⟨g, 3, none⟩)) ∧ w' = w := by
  go_enter Try.func27, Try.ntmps27
  go_wp2_with fail
  go_ret
  exact ⟨rfl, rfl⟩

set_option maxRecDepth 100000 in
set_option maxHeartbeats 8000000 in
theorem member_8198 (g : Nat) (w : World) : Calls Try.prog 27 #[.pointer (some ⟨g, 0, none⟩), .int .i64 8198] w fun e w' => e = .returned (.pointer (some ⟨g, 4, none⟩)) ∧ w' = w := by
  go_enter Try.func27, Try.ntmps27
  go_wp2_with fail
  go_ret
  exact ⟨rfl, rfl⟩

set_option maxRecDepth 100000 in
set_option maxHeartbeats 8000000 in
theorem member_8199 (g : Nat) (w : World) : Calls Try.prog 27 #[.pointer (some ⟨g, 0, none⟩), .int .i64 8199] w fun e w' => e = .returned (.pointer (some ⟨g, 2, none⟩)) ∧ w' = w := by
  go_enter Try.func27, Try.ntmps27
  go_wp2_with fail
  go_ret
  exact ⟨rfl, rfl⟩

set_option maxRecDepth 100000 in
set_option maxHeartbeats 8000000 in
theorem member_8201 (g : Nat) (w : World) : Calls Try.prog 27 #[.pointer (some ⟨g, 0, none⟩), .int .i64 8201] w fun e w' => e = .returned (.pointer (some ⟨g, 9, none⟩)) ∧ w' = w := by
  go_enter Try.func27, Try.ntmps27
  go_wp2_with fail
  go_ret
  exact ⟨rfl, rfl⟩

set_option maxRecDepth 100000 in
set_option maxHeartbeats 8000000 in
theorem member_8202 (g : Nat) (w : World) : Calls Try.prog 27 #[.pointer (some ⟨g, 0, none⟩), .int .i64 8202] w fun e w' => e = .returned (.pointer (some ⟨g, 12, none⟩)) ∧ w' = w := by
  go_enter Try.func27, Try.ntmps27
  go_wp2_with fail
  go_ret
  exact ⟨rfl, rfl⟩

set_option maxRecDepth 100000 in
set_option maxHeartbeats 8000000 in
theorem member_8203 (g : Nat) (w : World) : Calls Try.prog 27 #[.pointer (some ⟨g, 0, none⟩), .int .i64 8203] w fun e w' => e = .returned (.pointer (some ⟨g, 10, none⟩)) ∧ w' = w := by
  go_enter Try.func27, Try.ntmps27
  go_wp2_with fail
  go_ret
  exact ⟨rfl, rfl⟩

set_option maxRecDepth 100000 in
set_option maxHeartbeats 8000000 in
theorem member_8208 (g : Nat) (w : World) : Calls Try.prog 27 #[.pointer (some ⟨g, 0, none⟩), .int .i64 8208] w fun e w' => e = .returned (.pointer (some ⟨g, 6, none⟩)) ∧ w' = w := by
  go_enter Try.func27, Try.ntmps27
  go_wp2_with fail
  go_ret
  exact ⟨rfl, rfl⟩

def TellIn (v : Vw) : Prop := 0 ≤ v.c.cl ∧ 0 ≤ v.p.pc ∧ 0 ≤ v.p.gr
set_option maxRecDepth 100000 in
set_option maxHeartbeats 8000000 in
theorem told_0 (v : Vw) (hv0 : TellIn v) (w : World) : Calls Try.prog 22 #[.agg (vwK2.enc v).toArray, .int .i64 0] w (NewBytes w ([])) := by
  have hv := hid hv0
  clear hv0
  have z0 := bnew w (Obj.cells (vwK2.enc v).toArray 41)
  have B := Box.new w (vwK2.enc v) 41
  have hb := z0
  clear z0
  go_enter Try.func22, Try.ntmps22
  go_upto_region 1 with fail
  change Code.wp Try.prog _ _ _ (w.alloc (Obj.cells (vwK2.enc v).toArray 41))
  generalize (w.alloc (Obj.cells (vwK2.enc v).toArray 41)) = W at *
  generalize hG : w.heap.size = G at *
  rw [← hG] at hb
  have l_B : w.heap.size ≤ G := by omega
  go_wp2_with fail
  go_ret
  exact ⟨_, rfl, Own.nil _ _, hb⟩

set_option maxRecDepth 100000 in
set_option maxHeartbeats 8000000 in
theorem told_8192 (v : Vw) (hv0 : TellIn v) (w : World) : Calls Try.prog 22 #[.agg (vwK2.enc v).toArray, .int .i64 8192] w (NewBytes w (defS v.c)) := by
  have hv := hid hv0
  clear hv0
  have z0 := bnew w (Obj.cells (vwK2.enc v).toArray 41)
  have B := Box.new w (vwK2.enc v) 41
  have hb := z0
  clear z0
  go_enter Try.func22, Try.ntmps22
  go_upto_region 1 with fail
  change Code.wp Try.prog _ _ _ (w.alloc (Obj.cells (vwK2.enc v).toArray 41))
  generalize (w.alloc (Obj.cells (vwK2.enc v).toArray 41)) = W at *
  generalize hG : w.heap.size = G at *
  rw [← hG] at hb
  have l_B : w.heap.size ≤ G := by omega
  go_wp2_with (guard_target =~ wpList _ _ _ (⟨some 11, _, _, _, _, _⟩ :: _) _ _; refine cfT.load (op := ⟨some 11, .load _ _, _, _, _, _⟩) (by rfl) _ (by rfl) (G) 0 (by rfl) (v.c) (vw_rc B) ?_)
  refine (ownSet_any v.c hv.out.1 _).mono ?_
  rintro e w1 ⟨x, rfl, own, bq⟩
  have o1 := hid (own.mono hb.size)
  replace hb := bnext hb bq
  clear own bq
  go_wp2_with fail
  go_ret
  exact ⟨_, rfl, o1.out, hb⟩

set_option maxRecDepth 100000 in
set_option maxHeartbeats 8000000 in
theorem told_8193 (v : Vw) (hv0 : TellIn v) (w : World) : Calls Try.prog 22 #[.agg (vwK2.enc v).toArray, .int .i64 8193] w (NewBytes w (curS v)) := by
  have hv := hid hv0
  clear hv0
  have z0 := bnew w (Obj.cells (vwK2.enc v).toArray 41)
  have B := Box.new w (vwK2.enc v) 41
  have hb := z0
  clear z0
  go_enter Try.func22, Try.ntmps22
  go_upto_region 1 with fail
  change Code.wp Try.prog _ _ _ (w.alloc (Obj.cells (vwK2.enc v).toArray 41))
  generalize (w.alloc (Obj.cells (vwK2.enc v).toArray 41)) = W at *
  generalize hG : w.heap.size = G at *
  rw [← hG] at hb
  have l_B : w.heap.size ≤ G := by omega
  go_wp2_with (guard_target =~ wpList _ _ _ (⟨some 15, _, _, _, _, _⟩ :: _) _ _; refine vwT2.load (op := ⟨some 15, .load _ _, _, _, _, _⟩) (by rfl) _ (by rfl) (G) 0 (by rfl) (v) (B.rangeK) ?_)
  refine (currentSet_any v _).mono ?_
  rintro e w1 ⟨x, rfl, own, bq⟩
  have o1 := hid (own.mono hb.size)
  replace hb := bnext hb bq
  clear own bq
  go_wp2_with fail
  go_ret
  exact ⟨_, rfl, o1.out, hb⟩

set_option maxRecDepth 100000 in
set_option maxHeartbeats 8000000 in
theorem told_8194 (v : Vw) (hv0 : TellIn v) (w : World) : Calls Try.prog 22 #[.agg (vwK2.enc v).toArray, .int .i64 8194] w (NewBytes w (parS v.p)) := by
  have hv := hid hv0
  clear hv0
  have z0 := bnew w (Obj.cells (vwK2.enc v).toArray 41)
  have B := Box.new w (vwK2.enc v) 41
  have hb := z0
  clear z0
  go_enter Try.func22, Try.ntmps22
  go_upto_region 1 with fail
  change Code.wp Try.prog _ _ _ (w.alloc (Obj.cells (vwK2.enc v).toArray 41))
  generalize (w.alloc (Obj.cells (vwK2.enc v).toArray 41)) = W at *
  generalize hG : w.heap.size = G at *
  rw [← hG] at hb
  have l_B : w.heap.size ≤ G := by omega
  go_wp2_with (guard_target =~ wpList _ _ _ (⟨some 20, _, _, _, _, _⟩ :: _) _ _; refine paT2.load (op := ⟨some 20, .load _ _, _, _, _, _⟩) (by rfl) _ (by rfl) (G) 23 (by rfl) (v.p) (vw_rp B) ?_)
  refine (parentSet_any v.p hv.out.2 _).mono ?_
  rintro e w1 ⟨x, rfl, own, bq⟩
  have o1 := hid (own.mono hb.size)
  replace hb := bnext hb bq
  clear own bq
  go_wp2_with fail
  go_ret
  exact ⟨_, rfl, o1.out, hb⟩

set_option maxRecDepth 100000 in
set_option maxHeartbeats 8000000 in
theorem told_8195 (v : Vw) (hv0 : TellIn v) (w : World) : Calls Try.prog 22 #[.agg (vwK2.enc v).toArray, .int .i64 8195] w (NewBytes w (timS2 (tmP v.p))) := by
  have hv := hid hv0
  clear hv0
  have z0 := bnew w (Obj.cells (vwK2.enc v).toArray 41)
  have B := Box.new w (vwK2.enc v) 41
  have hb := z0
  clear z0
  go_enter Try.func22, Try.ntmps22
  go_upto_region 1 with fail
  change Code.wp Try.prog _ _ _ (w.alloc (Obj.cells (vwK2.enc v).toArray 41))
  generalize (w.alloc (Obj.cells (vwK2.enc v).toArray 41)) = W at *
  generalize hG : w.heap.size = G at *
  rw [← hG] at hb
  have l_B : w.heap.size ≤ G := by omega
  go_wp2_with (guard_target =~ wpList _ _ _ (⟨some 26, _, _, _, _, _⟩ :: _) _ _; refine tmT.load (op := ⟨some 26, .load _ _, _, _, _, _⟩) (by rfl) _ (by rfl) (G) 32 (by rfl) (tmP v.p) (vw_rt B) ?_)
  refine (timesSet_any (tmP v.p) _).mono ?_
  rintro e w1 ⟨x, rfl, own, bq⟩
  have o1 := hid (own.mono hb.size)
  replace hb := bnext hb bq
  clear own bq
  go_wp2_with fail
  go_ret
  exact ⟨_, rfl, o1.out, hb⟩

set_option maxRecDepth 100000 in
set_option maxHeartbeats 8000000 in
theorem told_8196 (v : Vw) (hv0 : TellIn v) (w : World) : Calls Try.prog 22 #[.agg (vwK2.enc v).toArray, .int .i64 8196] w (NewBytes w (porS v)) := by
  have hv := hid hv0
  clear hv0
  have z0 := bnew w (Obj.cells (vwK2.enc v).toArray 41)
  have B := Box.new w (vwK2.enc v) 41
  have hb := z0
  clear z0
  go_enter Try.func22, Try.ntmps22
  go_upto_region 1 with fail
  change Code.wp Try.prog _ _ _ (w.alloc (Obj.cells (vwK2.enc v).toArray 41))
  generalize (w.alloc (Obj.cells (vwK2.enc v).toArray 41)) = W at *
  generalize hG : w.heap.size = G at *
  rw [← hG] at hb
  have l_B : w.heap.size ≤ G := by omega
  go_wp2_with (guard_target =~ wpList _ _ _ (⟨some 30, _, _, _, _, _⟩ :: _) _ _; refine vwT2.load (op := ⟨some 30, .load _ _, _, _, _, _⟩) (by rfl) _ (by rfl) (G) 0 (by rfl) (v) (B.rangeK) ?_)
  refine (portSet_any v hv.out.1 _).mono ?_
  rintro e w1 ⟨x, rfl, own, bq⟩
  have o1 := hid (own.mono hb.size)
  replace hb := bnext hb bq
  clear own bq
  go_wp2_with fail
  go_ret
  exact ⟨_, rfl, o1.out, hb⟩

set_option maxRecDepth 100000 in
set_option maxHeartbeats 8000000 in
theorem told_8197 (v : Vw) (hv0 : TellIn v) (w : World) : Calls Try.prog 22 #[.agg (vwK2.enc v).toArray, .int .i64 8197] w (NewBytes w (twoS v.c.p1)) := by
  have hv := hid hv0
  clear hv0
  have z0 := bnew w (Obj.cells (vwK2.enc v).toArray 41)
  have B := Box.new w (vwK2.enc v) 41
  have hb := z0
  clear z0
  go_enter Try.func22, Try.ntmps22
  go_upto_region 1 with fail
  change Code.wp Try.prog _ _ _ (w.alloc (Obj.cells (vwK2.enc v).toArray 41))
  generalize (w.alloc (Obj.cells (vwK2.enc v).toArray 41)) = W at *
  generalize hG : w.heap.size = G at *
  rw [← hG] at hb
  have l_B : w.heap.size ≤ G := by omega
  go_wp2_with fail
  refine (member_8197 G _).mono ?_
  rintro e w1 ⟨rfl, rfl⟩
  have k0 := B.cell 3 _ rfl
  go_wp2_with fail
  clear k0
  refine (each_2 _ [] v.c.p1 0 _ (Bytes.nil _) (by decide)).mono ?_
  rintro e w2 ⟨x1, rfl, own, bq⟩
  obtain ⟨L1, hL⟩ : ∃ L1 : List UInt8, L1 = [] ++ eachS [v.c.p1, 0] := ⟨_, rfl⟩
  rw [← hL] at own
  have n1 := hid (show L1.length = 2 by rw [hL, List.length_append]; simp only [List.length_append, ln1, ln2, ln8, lnq, lnp, putN_length, eachS_len, List.length_cons, List.length_nil, stampS_length])
  have o1 := hid (own.mono hb.size)
  have e1 := hid hL
  clear hL own
  replace B := B.below bq
  replace hb := bnext hb bq
  clear bq
  have hfin : L1 = twoS v.c.p1 := by
    rw [e1.out]
    simp only [twoS, eachS, List.nil_append, List.append_nil]
  rw [hfin] at o1
  go_wp2_with fail
  go_ret
  exact ⟨_, rfl, o1.out, hb⟩

set_option maxRecDepth 100000 in
set_option maxHeartbeats 8000000 in
theorem told_8198 (v : Vw) (hv0 : TellIn v) (w : World) : Calls Try.prog 22 #[.agg (vwK2.enc v).toArray, .int .i64 8198] w (NewBytes w (twoS v.c.p2)) := by
  have hv := hid hv0
  clear hv0
  have z0 := bnew w (Obj.cells (vwK2.enc v).toArray 41)
  have B := Box.new w (vwK2.enc v) 41
  have hb := z0
  clear z0
  go_enter Try.func22, Try.ntmps22
  go_upto_region 1 with fail
  change Code.wp Try.prog _ _ _ (w.alloc (Obj.cells (vwK2.enc v).toArray 41))
  generalize (w.alloc (Obj.cells (vwK2.enc v).toArray 41)) = W at *
  generalize hG : w.heap.size = G at *
  rw [← hG] at hb
  have l_B : w.heap.size ≤ G := by omega
  go_wp2_with fail
  refine (member_8198 G _).mono ?_
  rintro e w1 ⟨rfl, rfl⟩
  have k0 := B.cell 4 _ rfl
  go_wp2_with fail
  clear k0
  refine (each_2 _ [] v.c.p2 0 _ (Bytes.nil _) (by decide)).mono ?_
  rintro e w2 ⟨x1, rfl, own, bq⟩
  obtain ⟨L1, hL⟩ : ∃ L1 : List UInt8, L1 = [] ++ eachS [v.c.p2, 0] := ⟨_, rfl⟩
  rw [← hL] at own
  have n1 := hid (show L1.length = 2 by rw [hL, List.length_append]; simp only [List.length_append, ln1, ln2, ln8, lnq, lnp, putN_length, eachS_len, List.length_cons, List.length_nil, stampS_length])
  have o1 := hid (own.mono hb.size)
  have e1 := hid hL
  clear hL own
  replace B := B.below bq
  replace hb := bnext hb bq
  clear bq
  have hfin : L1 = twoS v.c.p2 := by
    rw [e1.out]
    simp only [twoS, eachS, List.nil_append, List.append_nil]
  rw [hfin] at o1
  go_wp2_with fail
  go_ret
  exact ⟨_, rfl, o1.out, hb⟩

set_option maxRecDepth 100000 in
set_option maxHeartbeats 8000000 in
theorem told_8199 (v : Vw) (hv0 : TellIn v) (w : World) : Calls Try.prog 22 #[.agg (vwK2.enc v).toArray, .int .i64 8199] w (NewBytes w (twoS v.c.dm)) := by
  have hv := hid hv0
  clear hv0
  have z0 := bnew w (Obj.cells (vwK2.enc v).toArray 41)
  have B := Box.new w (vwK2.enc v) 41
  have hb := z0
  clear z0
  go_enter Try.func22, Try.ntmps22
  go_upto_region 1 with fail
  change Code.wp Try.prog _ _ _ (w.alloc (Obj.cells (vwK2.enc v).toArray 41))
  generalize (w.alloc (Obj.cells (vwK2.enc v).toArray 41)) = W at *
  generalize hG : w.heap.size = G at *
  rw [← hG] at hb
  have l_B : w.heap.size ≤ G := by omega
  go_wp2_with fail
  refine (member_8199 G _).mono ?_
  rintro e w1 ⟨rfl, rfl⟩
  have k0 := B.cell 2 _ rfl
  go_wp2_with fail
  clear k0
  refine (each_2 _ [] v.c.dm 0 _ (Bytes.nil _) (by decide)).mono ?_
  rintro e w2 ⟨x1, rfl, own, bq⟩
  obtain ⟨L1, hL⟩ : ∃ L1 : List UInt8, L1 = [] ++ eachS [v.c.dm, 0] := ⟨_, rfl⟩
  rw [← hL] at own
  have n1 := hid (show L1.length = 2 by rw [hL, List.length_append]; simp only [List.length_append, ln1, ln2, ln8, lnq, lnp, putN_length, eachS_len, List.length_cons, List.length_nil, stampS_length])
  have o1 := hid (own.mono hb.size)
  have e1 := hid hL
  clear hL own
  replace B := B.below bq
  replace hb := bnext hb bq
  clear bq
  have hfin : L1 = twoS v.c.dm := by
    rw [e1.out]
    simp only [twoS, eachS, List.nil_append, List.append_nil]
  rw [hfin] at o1
  go_wp2_with fail
  go_ret
  exact ⟨_, rfl, o1.out, hb⟩

set_option maxRecDepth 100000 in
set_option maxHeartbeats 8000000 in
theorem told_8200 (v : Vw) (hv0 : TellIn v) (w : World) : Calls Try.prog 22 #[.agg (vwK2.enc v).toArray, .int .i64 8200] w (NewBytes w (twoS (bitI v.c.so))) := by
  have hv := hid hv0
  clear hv0
  have z0 := bnew w (Obj.cells (vwK2.enc v).toArray 41)
  have B := Box.new w (vwK2.enc v) 41
  have hb := z0
  clear z0
  go_enter Try.func22, Try.ntmps22
  go_upto_region 1 with fail
  change Code.wp Try.prog _ _ _ (w.alloc (Obj.cells (vwK2.enc v).toArray 41))
  generalize (w.alloc (Obj.cells (vwK2.enc v).toArray 41)) = W at *
  generalize hG : w.heap.size = G at *
  rw [← hG] at hb
  have l_B : w.heap.size ≤ G := by omega
  have k8 := B.cell 8 _ rfl
  go_wp2_with fail
  refine (bit_any v.c.so _).mono ?_
  rintro e w1 ⟨rfl, rfl⟩
  clear k8
  go_wp2_with fail
  refine (each_2 _ [] (bitI v.c.so) 0 _ (Bytes.nil _) (by decide)).mono ?_
  rintro e w2 ⟨x1, rfl, own, bq⟩
  obtain ⟨L1, hL⟩ : ∃ L1 : List UInt8, L1 = [] ++ eachS [bitI v.c.so, 0] := ⟨_, rfl⟩
  rw [← hL] at own
  have n1 := hid (show L1.length = 2 by rw [hL, List.length_append]; simp only [List.length_append, ln1, ln2, ln8, lnq, lnp, putN_length, eachS_len, List.length_cons, List.length_nil, stampS_length])
  have o1 := hid (own.mono hb.size)
  have e1 := hid hL
  clear hL own
  replace B := B.below bq
  replace hb := bnext hb bq
  clear bq
  have hfin : L1 = twoS (bitI v.c.so) := by
    rw [e1.out]
    simp only [twoS, eachS, List.nil_append, List.append_nil]
  rw [hfin] at o1
  go_wp2_with fail
  go_ret
  exact ⟨_, rfl, o1.out, hb⟩

set_option maxRecDepth 100000 in
set_option maxHeartbeats 8000000 in
theorem told_8201 (v : Vw) (hv0 : TellIn v) (w : World) : Calls Try.prog 22 #[.agg (vwK2.enc v).toArray, .int .i64 8201] w (NewBytes w (twoS v.c.la)) := by
  have hv := hid hv0
  clear hv0
  have z0 := bnew w (Obj.cells (vwK2.enc v).toArray 41)
  have B := Box.new w (vwK2.enc v) 41
  have hb := z0
  clear z0
  go_enter Try.func22, Try.ntmps22
  go_upto_region 1 with fail
  change Code.wp Try.prog _ _ _ (w.alloc (Obj.cells (vwK2.enc v).toArray 41))
  generalize (w.alloc (Obj.cells (vwK2.enc v).toArray 41)) = W at *
  generalize hG : w.heap.size = G at *
  rw [← hG] at hb
  have l_B : w.heap.size ≤ G := by omega
  go_wp2_with fail
  refine (member_8201 G _).mono ?_
  rintro e w1 ⟨rfl, rfl⟩
  have k0 := B.cell 9 _ rfl
  go_wp2_with fail
  clear k0
  refine (each_2 _ [] v.c.la 0 _ (Bytes.nil _) (by decide)).mono ?_
  rintro e w2 ⟨x1, rfl, own, bq⟩
  obtain ⟨L1, hL⟩ : ∃ L1 : List UInt8, L1 = [] ++ eachS [v.c.la, 0] := ⟨_, rfl⟩
  rw [← hL] at own
  have n1 := hid (show L1.length = 2 by rw [hL, List.length_append]; simp only [List.length_append, ln1, ln2, ln8, lnq, lnp, putN_length, eachS_len, List.length_cons, List.length_nil, stampS_length])
  have o1 := hid (own.mono hb.size)
  have e1 := hid hL
  clear hL own
  replace B := B.below bq
  replace hb := bnext hb bq
  clear bq
  have hfin : L1 = twoS v.c.la := by
    rw [e1.out]
    simp only [twoS, eachS, List.nil_append, List.append_nil]
  rw [hfin] at o1
  go_wp2_with fail
  go_ret
  exact ⟨_, rfl, o1.out, hb⟩

set_option maxRecDepth 100000 in
set_option maxHeartbeats 8000000 in
theorem told_8202 (v : Vw) (hv0 : TellIn v) (w : World) : Calls Try.prog 22 #[.agg (vwK2.enc v).toArray, .int .i64 8202] w (NewBytes w (twoS v.c.tm)) := by
  have hv := hid hv0
  clear hv0
  have z0 := bnew w (Obj.cells (vwK2.enc v).toArray 41)
  have B := Box.new w (vwK2.enc v) 41
  have hb := z0
  clear z0
  go_enter Try.func22, Try.ntmps22
  go_upto_region 1 with fail
  change Code.wp Try.prog _ _ _ (w.alloc (Obj.cells (vwK2.enc v).toArray 41))
  generalize (w.alloc (Obj.cells (vwK2.enc v).toArray 41)) = W at *
  generalize hG : w.heap.size = G at *
  rw [← hG] at hb
  have l_B : w.heap.size ≤ G := by omega
  go_wp2_with fail
  refine (member_8202 G _).mono ?_
  rintro e w1 ⟨rfl, rfl⟩
  have k0 := B.cell 12 _ rfl
  go_wp2_with fail
  clear k0
  refine (each_2 _ [] v.c.tm 0 _ (Bytes.nil _) (by decide)).mono ?_
  rintro e w2 ⟨x1, rfl, own, bq⟩
  obtain ⟨L1, hL⟩ : ∃ L1 : List UInt8, L1 = [] ++ eachS [v.c.tm, 0] := ⟨_, rfl⟩
  rw [← hL] at own
  have n1 := hid (show L1.length = 2 by rw [hL, List.length_append]; simp only [List.length_append, ln1, ln2, ln8, lnq, lnp, putN_length, eachS_len, List.length_cons, List.length_nil, stampS_length])
  have o1 := hid (own.mono hb.size)
  have e1 := hid hL
  clear hL own
  replace B := B.below bq
  replace hb := bnext hb bq
  clear bq
  have hfin : L1 = twoS v.c.tm := by
    rw [e1.out]
    simp only [twoS, eachS, List.nil_append, List.append_nil]
  rw [hfin] at o1
  go_wp2_with fail
  go_ret
  exact ⟨_, rfl, o1.out, hb⟩

set_option maxRecDepth 100000 in
set_option maxHeartbeats 8000000 in
theorem told_8203 (v : Vw) (hv0 : TellIn v) (w : World) : Calls Try.prog 22 #[.agg (vwK2.enc v).toArray, .int .i64 8203] w (NewBytes w (twoS v.c.ls)) := by
  have hv := hid hv0
  clear hv0
  have z0 := bnew w (Obj.cells (vwK2.enc v).toArray 41)
  have B := Box.new w (vwK2.enc v) 41
  have hb := z0
  clear z0
  go_enter Try.func22, Try.ntmps22
  go_upto_region 1 with fail
  change Code.wp Try.prog _ _ _ (w.alloc (Obj.cells (vwK2.enc v).toArray 41))
  generalize (w.alloc (Obj.cells (vwK2.enc v).toArray 41)) = W at *
  generalize hG : w.heap.size = G at *
  rw [← hG] at hb
  have l_B : w.heap.size ≤ G := by omega
  go_wp2_with fail
  refine (member_8203 G _).mono ?_
  rintro e w1 ⟨rfl, rfl⟩
  have k0 := B.cell 10 _ rfl
  go_wp2_with fail
  clear k0
  refine (each_2 _ [] v.c.ls 0 _ (Bytes.nil _) (by decide)).mono ?_
  rintro e w2 ⟨x1, rfl, own, bq⟩
  obtain ⟨L1, hL⟩ : ∃ L1 : List UInt8, L1 = [] ++ eachS [v.c.ls, 0] := ⟨_, rfl⟩
  rw [← hL] at own
  have n1 := hid (show L1.length = 2 by rw [hL, List.length_append]; simp only [List.length_append, ln1, ln2, ln8, lnq, lnp, putN_length, eachS_len, List.length_cons, List.length_nil, stampS_length])
  have o1 := hid (own.mono hb.size)
  have e1 := hid hL
  clear hL own
  replace B := B.below bq
  replace hb := bnext hb bq
  clear bq
  have hfin : L1 = twoS v.c.ls := by
    rw [e1.out]
    simp only [twoS, eachS, List.nil_append, List.append_nil]
  rw [hfin] at o1
  go_wp2_with fail
  go_ret
  exact ⟨_, rfl, o1.out, hb⟩

set_option maxRecDepth 100000 in
set_option maxHeartbeats 8000000 in
theorem told_8204 (v : Vw) (hv0 : TellIn v) (w : World) : Calls Try.prog 22 #[.agg (vwK2.enc v).toArray, .int .i64 8204] w (NewBytes w (twoS 2)) := by
  have hv := hid hv0
  clear hv0
  have z0 := bnew w (Obj.cells (vwK2.enc v).toArray 41)
  have B := Box.new w (vwK2.enc v) 41
  have hb := z0
  clear z0
  go_enter Try.func22, Try.ntmps22
  go_upto_region 1 with fail
  change Code.wp Try.prog _ _ _ (w.alloc (Obj.cells (vwK2.enc v).toArray 41))
  generalize (w.alloc (Obj.cells (vwK2.enc v).toArray 41)) = W at *
  generalize hG : w.heap.size = G at *
  rw [← hG] at hb
  have l_B : w.heap.size ≤ G := by omega
  go_wp2_with fail
  refine (each_2 _ [] 2 0 _ (Bytes.nil _) (by decide)).mono ?_
  rintro e w1 ⟨x1, rfl, own, bq⟩
  obtain ⟨L1, hL⟩ : ∃ L1 : List UInt8, L1 = [] ++ eachS [2, 0] := ⟨_, rfl⟩
  rw [← hL] at own
  have n1 := hid (show L1.length = 2 by rw [hL, List.length_append]; simp only [List.length_append, ln1, ln2, ln8, lnq, lnp, putN_length, eachS_len, List.length_cons, List.length_nil, stampS_length])
  have o1 := hid (own.mono hb.size)
  have e1 := hid hL
  clear hL own
  replace B := B.below bq
  replace hb := bnext hb bq
  clear bq
  have hfin : L1 = twoS 2 := by
    rw [e1.out]
    simp only [twoS, eachS, List.nil_append, List.append_nil]
  rw [hfin] at o1
  go_wp2_with fail
  go_ret
  exact ⟨_, rfl, o1.out, hb⟩

set_option maxRecDepth 100000 in
set_option maxHeartbeats 8000000 in
theorem told_8207 (v : Vw) (hv0 : TellIn v) (w : World) : Calls Try.prog 22 #[.agg (vwK2.enc v).toArray, .int .i64 8207] w (NewBytes w (stampS v.nw)) := by
  have hv := hid hv0
  clear hv0
  have z0 := bnew w (Obj.cells (vwK2.enc v).toArray 41)
  have B := Box.new w (vwK2.enc v) 41
  have hb := z0
  clear z0
  go_enter Try.func22, Try.ntmps22
  go_upto_region 1 with fail
  change Code.wp Try.prog _ _ _ (w.alloc (Obj.cells (vwK2.enc v).toArray 41))
  generalize (w.alloc (Obj.cells (vwK2.enc v).toArray 41)) = W at *
  generalize hG : w.heap.size = G at *
  rw [← hG] at hb
  have l_B : w.heap.size ≤ G := by omega
  have k37 := B.cell 37 _ rfl
  go_wp2_with fail
  clear k37
  refine (stampPut_any _ [] v.nw _ (Bytes.nil _) (by decide)).mono ?_
  rintro e w1 ⟨x1, rfl, own, bq⟩
  obtain ⟨L1, hL⟩ : ∃ L1 : List UInt8, L1 = [] ++ stampS v.nw := ⟨_, rfl⟩
  rw [← hL] at own
  have n1 := hid (show L1.length = 10 by rw [hL, List.length_append]; simp only [List.length_append, ln1, ln2, ln8, lnq, lnp, putN_length, eachS_len, List.length_cons, List.length_nil, stampS_length])
  have o1 := hid (own.mono hb.size)
  have e1 := hid hL
  clear hL own
  replace B := B.below bq
  replace hb := bnext hb bq
  clear bq
  have hfin : L1 = stampS v.nw := e1.out
  rw [hfin] at o1
  go_wp2_with fail
  go_ret
  exact ⟨_, rfl, o1.out, hb⟩

set_option maxRecDepth 100000 in
set_option maxHeartbeats 8000000 in
theorem told_8208 (v : Vw) (hv0 : TellIn v) (w : World) : Calls Try.prog 22 #[.agg (vwK2.enc v).toArray, .int .i64 8208] w (NewBytes w (twoS v.c.qa)) := by
  have hv := hid hv0
  clear hv0
  have z0 := bnew w (Obj.cells (vwK2.enc v).toArray 41)
  have B := Box.new w (vwK2.enc v) 41
  have hb := z0
  clear z0
  go_enter Try.func22, Try.ntmps22
  go_upto_region 1 with fail
  change Code.wp Try.prog _ _ _ (w.alloc (Obj.cells (vwK2.enc v).toArray 41))
  generalize (w.alloc (Obj.cells (vwK2.enc v).toArray 41)) = W at *
  generalize hG : w.heap.size = G at *
  rw [← hG] at hb
  have l_B : w.heap.size ≤ G := by omega
  go_wp2_with fail
  refine (member_8208 G _).mono ?_
  rintro e w1 ⟨rfl, rfl⟩
  have k0 := B.cell 6 _ rfl
  go_wp2_with fail
  clear k0
  refine (each_2 _ [] v.c.qa 0 _ (Bytes.nil _) (by decide)).mono ?_
  rintro e w2 ⟨x1, rfl, own, bq⟩
  obtain ⟨L1, hL⟩ : ∃ L1 : List UInt8, L1 = [] ++ eachS [v.c.qa, 0] := ⟨_, rfl⟩
  rw [← hL] at own
  have n1 := hid (show L1.length = 2 by rw [hL, List.length_append]; simp only [List.length_append, ln1, ln2, ln8, lnq, lnp, putN_length, eachS_len, List.length_cons, List.length_nil, stampS_length])
  have o1 := hid (own.mono hb.size)
  have e1 := hid hL
  clear hL own
  replace B := B.below bq
  replace hb := bnext hb bq
  clear bq
  have hfin : L1 = twoS v.c.qa := by
    rw [e1.out]
    simp only [twoS, eachS, List.nil_append, List.append_nil]
  rw [hfin] at o1
  go_wp2_with fail
  go_ret
  exact ⟨_, rfl, o1.out, hb⟩

theorem told_any (v : Vw) (hv : TellIn v) (id : Int) (h : getB2 id = true) (w : World) : Calls Try.prog 22 #[.agg (vwK2.enc v).toArray, .int .i64 id] w (NewBytes w (toldS v id)) := by
  by_cases h0 : id = 0
  · subst h0
    exact told_0 v hv w
  by_cases h8192 : id = 8192
  · subst h8192
    exact told_8192 v hv w
  by_cases h8193 : id = 8193
  · subst h8193
    exact told_8193 v hv w
  by_cases h8194 : id = 8194
  · subst h8194
    exact told_8194 v hv w
  by_cases h8195 : id = 8195
  · subst h8195
    exact told_8195 v hv w
  by_cases h8196 : id = 8196
  · subst h8196
    exact told_8196 v hv w
  by_cases h8197 : id = 8197
  · subst h8197
    exact told_8197 v hv w
  by_cases h8198 : id = 8198
  · subst h8198
    exact told_8198 v hv w
  by_cases h8199 : id = 8199
  · subst h8199
    exact told_8199 v hv w
  by_cases h8200 : id = 8200
  · subst h8200
    exact told_8200 v hv w
  by_cases h8201 : id = 8201
  · subst h8201
    exact told_8201 v hv w
  by_cases h8202 : id = 8202
  · subst h8202
    exact told_8202 v hv w
  by_cases h8203 : id = 8203
  · subst h8203
    exact told_8203 v hv w
  by_cases h8204 : id = 8204
  · subst h8204
    exact told_8204 v hv w
  by_cases h8207 : id = 8207
  · subst h8207
    exact told_8207 v hv w
  by_cases h8208 : id = 8208
  · subst h8208
    exact told_8208 v hv w
  exfalso
  revert h
  unfold getB2 sizeI cmdB
  simp only [h0, h8192, h8193, h8194, h8195, h8196, h8197, h8198, h8199, h8200, h8201, h8202, h8203, h8204, h8207, h8208, if_false, false_or, or_false]
  repeat' split
  all_goals simp
  all_goals omega

end Go.Proofs.Ytgjffmhlehcoiaa
