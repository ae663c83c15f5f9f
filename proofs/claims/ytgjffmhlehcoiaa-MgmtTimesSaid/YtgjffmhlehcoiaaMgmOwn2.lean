/- The program's own answers to questions: what is told (gen_mgmown.py). -/
import Derived.Test.YtgjffmhlehcoiaaMgmOwnB
import Derived.Test.YtgjffmhlehcoiaaIdentb
import Derived.Test.YtgjffmhlehcoiaaQualc
import Derived.Test.YtgjffmhlehcoiaaStampb
namespace Go.Proofs.Ytgjffmhlehcoiaa
open Go.RowKit Go.Proofs
set_option maxRecDepth 50000
set_option linter.unusedVariables false
set_option linter.unusedSimpArgs false

structure Qz where
  c : Int
  a : Int
  v : Int
def qzK : RowK Qz := ⟨fun q => [.int .i64 q.c, .int .i64 q.a, .int .i64 q.v], 3, by decide, fun _ => rfl, by
  intro a u hu
  simp only [List.mem_cons, List.not_mem_nil, or_false] at hu
  rcases hu with rfl | rfl | rfl <;> rfl⟩
theorem qzT : StrT qzK 24 := ⟨⟨_, Try.underlying24, rfl⟩, by kernel_rfl⟩
structure Pz where
  c : Int
  p : Int
def pzK : RowK Pz := ⟨fun q => [.int .u64 q.c, .int .i64 q.p], 2, by decide, fun _ => rfl, by
  intro a u hu
  simp only [List.mem_cons, List.not_mem_nil, or_false] at hu
  rcases hu with rfl | rfl <;> rfl⟩
theorem pzT : StrT pzK 37 := ⟨⟨_, Try.underlying37, rfl⟩, by kernel_rfl⟩
def vwK2 : RowK Vw := ⟨vwL, 41, by decide, fun _ => rfl, by
  intro a u hu
  simp only [vwL, cfL, paL, List.cons_append, List.nil_append, List.mem_cons, List.not_mem_nil, or_false] at hu
  rcases hu with rfl | rfl | rfl | rfl | rfl | rfl | rfl | rfl | rfl | rfl | rfl | rfl | rfl | rfl | rfl | rfl | rfl | rfl | rfl | rfl | rfl | rfl | rfl | rfl | rfl | rfl | rfl | rfl | rfl | rfl | rfl | rfl | rfl | rfl | rfl | rfl | rfl | rfl | rfl | rfl | rfl <;> rfl⟩
theorem vwT2 : StrT vwK2 41 := ⟨⟨_, Try.underlying41, rfl⟩, by kernel_rfl⟩
theorem paT2 : StrT paK 39 := ⟨⟨_, Try.underlying39, rfl⟩, by kernel_rfl⟩
def tmP (p : Pa) : Tm := ⟨p.ut, p.fl, p.og⟩
theorem vw_rc {w : World} {g : Nat} {v : Vw} {t : TypeId} (B : Box w g (vwK2.enc v) t) : w.rangeAt g 0 (cfK.enc v.c) := Box.range_mid [] (cfL v.c) (paL v.p ++ [.int .i64 v.off, .int .i64 v.dl, .int .i64 v.nw, .int .i64 v.st, .int .i64 v.pe, .int .i64 v.po]) B
theorem vw_rp {w : World} {g : Nat} {v : Vw} {t : TypeId} (B : Box w g (vwK2.enc v) t) : w.rangeAt g 23 (paK.enc v.p) := Box.range_mid (cfL v.c) (paL v.p) [.int .i64 v.off, .int .i64 v.dl, .int .i64 v.nw, .int .i64 v.st, .int .i64 v.pe, .int .i64 v.po] B
theorem vw_rt {w : World} {g : Nat} {v : Vw} {t : TypeId} (B : Box w g (vwK2.enc v) t) : w.rangeAt g 32 (tmK.enc (tmP v.p)) := fun j u hj => B.cell (32 + j) u (by rcases j with _ | _ | _ | j <;> first | exact hj | (simp [tmK, tmL] at hj))
theorem cf_rq {w : World} {g : Nat} {c : Cf} {t : TypeId} (B : Box w g (cfK.enc c) t) : w.rangeAt g 5 (qzK.enc ⟨c.qc, c.qa, c.qv⟩) := fun j u hj => B.cell (5 + j) u (by rcases j with _ | _ | _ | j <;> first | exact hj | (simp [qzK] at hj))
theorem pa_rp {w : World} {g : Nat} {p : Pa} {t : TypeId} (B : Box w g (paK.enc p) t) : w.rangeAt g 0 (pzK.enc ⟨p.pc, p.pp⟩) := fun j u hj => B.cell (0 + j) u (by rcases j with _ | _ | j <;> first | exact hj | (simp [pzK] at hj))
theorem pa_rq {w : World} {g : Nat} {p : Pa} {t : TypeId} (B : Box w g (paK.enc p) t) : w.rangeAt g 3 (qzK.enc ⟨p.qc, p.qa, p.qv⟩) := fun j u hj => B.cell (3 + j) u (by rcases j with _ | _ | _ | j <;> first | exact hj | (simp [qzK] at hj))
theorem ln1 (x : Int) : (putS x 1).length = 1 := putS_length x 1 (by decide) (by decide)
theorem ln2 (x : Int) : (putS x 2).length = 2 := putS_length x 2 (by decide) (by decide)
theorem ln8 (x : Int) : (putS x 8).length = 8 := putS_length x 8 (by decide) (by decide)
theorem lnq (c a v : Int) : (qualS c a v).length = 4 := by unfold qualS; simp only [List.length_append, ln1, ln2]
theorem lnp (c p : Int) : (portS c p).length = 10 := by unfold portS; rw [List.length_append, putN_length, ln2]
theorem bit_yes (w : World) : Calls Try.prog 39 #[.bool true] w fun e w' => e = .returned (.int .i64 1) ∧ w' = w := bit_any true w
theorem bit_no (w : World) : Calls Try.prog 39 #[.bool false] w fun e w' => e = .returned (.int .i64 0) ∧ w' = w := bit_any false w

set_option maxRecDepth 100000 in
set_option maxHeartbeats 8000000 in
theorem ownSet_false_false (c : Cf) (hos : c.os = false) (hso : c.so = false) (hc0 : 0 ≤ c.cl) (w : World) : Calls Try.prog 32 #[.agg (cfK.enc c).toArray] w (NewBytes w (defS c)) := by
  have hbits := hid (show bitI (!c.os) + 2 * bitI c.so = 1 by rw [hos, hso]; rfl)
  have hcl := hid hc0
  clear hc0
  have z0 := bnew w (Obj.cells (cfK.enc c).toArray 28)
  have B := Box.new w (cfK.enc c) 28
  have hb := z0
  clear z0
  go_enter Try.func32, Try.ntmps32
  go_upto_region 1 with fail
  change Code.wp Try.prog _ _ _ (w.alloc (Obj.cells (cfK.enc c).toArray 28))
  generalize (w.alloc (Obj.cells (cfK.enc c).toArray 28)) = W at *
  generalize hG : w.heap.size = G at *
  rw [← hG] at hb
  have l_B : w.heap.size ≤ G := by omega
  have HX := hid fun (wx : World) (h : Below W.heap.size W wx) => (B.below h).cell 14 (.bool false) (by show some (Value.bool c.os) = _; rw [hos])
  have HY := hid fun (wx : World) (h : Below W.heap.size W wx) => (B.below h).cell 8 (.bool false) (by show some (Value.bool c.so) = _; rw [hso])
  have HBx := hid fun (wx : World) (h : Below W.heap.size W wx) => B.below h
  have hb0 := hid hb
  clear B hb
  refine wp_region_held_drew (S := fun w' => Below W.drew.heap.size W.drew w') (by kernel_rfl) (Below.refl _ _) ?_
  intro hHeld
  have hbW := Below.drew (Below.refl W.heap.size W)
  generalize W.drew = wd at *
  have hcX := fun wx h => HX.out wx (bnext hbW h)
  have hcY := fun wx h => HY.out wx (bnext hbW h)
  refine rtake 0 rfl (by rfl) (by kernel_rfl) (by kernel_rfl) (by kernel_rfl) (fun _ _ _ h => h) hHeld (fun wx hwx => by go_simp; try with_reducible rfl) ?_
  try simp only [Act.put, List.setIfInBounds_toArray, List.set_cons_zero, List.set_cons_succ]
  refine rtake 1 rfl (by rfl) (by kernel_rfl) (by kernel_rfl) (by kernel_rfl) (fun _ _ _ h => h) hHeld (fun wx hwx => by go_simp; try with_reducible rfl) ?_
  try simp only [Act.put, List.setIfInBounds_toArray, List.set_cons_zero, List.set_cons_succ]
  refine rtake 2 rfl (by rfl) (by kernel_rfl) (by kernel_rfl) (by kernel_rfl) (fun _ _ _ h => h) hHeld (fun wx hwx => by go_simp; try with_reducible rfl) ?_
  try simp only [Act.put, List.setIfInBounds_toArray, List.set_cons_zero, List.set_cons_succ]
  refine rtake 4 rfl (by rfl) (by kernel_rfl) (by kernel_rfl) (by kernel_rfl) (fun _ _ _ h => h) hHeld (fun wx hwx => by go_simp; try with_reducible rfl) ?_
  try simp only [Act.put, List.setIfInBounds_toArray, List.set_cons_zero, List.set_cons_succ]
  refine rtake 5 rfl (by rfl) (by kernel_rfl) (by kernel_rfl) (by kernel_rfl) (fun _ _ _ h => h) hHeld (fun wx hwx => by go_simp; try with_reducible rfl) ?_
  try simp only [Act.put, List.setIfInBounds_toArray, List.set_cons_zero, List.set_cons_succ]
  -- CALL 3: some 7 := Op.call { callee := Callee.value (Operand.func 39), args := #[Operand.tmp 6], argTypes := #[4] }
  refine rcall 3 rfl (by kernel_rfl) (by rfl) (fun K hK => ?_)
  go_simp
  refine (bit_yes _).mono ?_
  rintro e wx3 ⟨rfl, rfl⟩
  refine hK.out _ _ hHeld ?_
  clear hK K
  try simp only [Act.put, List.setIfInBounds_toArray, List.set_cons_zero, List.set_cons_succ]
  -- CALL 6: some 10 := Op.call { callee := Callee.value (Operand.func 39), args := #[Operand.tmp 9], argTypes := #[4] }
  refine rcall 6 rfl (by kernel_rfl) (by rfl) (fun K hK => ?_)
  go_simp
  refine (bit_no _).mono ?_
  rintro e wx6 ⟨rfl, rfl⟩
  refine hK.out _ _ hHeld ?_
  clear hK K
  try simp only [Act.put, List.setIfInBounds_toArray, List.set_cons_zero, List.set_cons_succ]
  refine rtake 7 rfl (by rfl) (by kernel_rfl) (by kernel_rfl) (by kernel_rfl) (fun _ _ _ h => h) hHeld (fun wx hwx => by go_simp; try with_reducible rfl) ?_
  try simp only [Act.put, List.setIfInBounds_toArray, List.set_cons_zero, List.set_cons_succ]
  refine rtake 8 rfl (by rfl) (by kernel_rfl) (by kernel_rfl) (by kernel_rfl) (fun _ _ _ h => h) hHeld (fun wx hwx => by go_simp; try with_reducible rfl) ?_
  try simp only [Act.put, List.setIfInBounds_toArray, List.set_cons_zero, List.set_cons_succ]
  -- CALL 9: some 13 := Op.buildSlice 83 2 #[(0, Operand.tmp 12), (1, Operand.const (Value.int IntKind.i64 0))]
  refine rcall 9 rfl (by kernel_rfl) (by rfl) (fun K hK => ?_)
  go_simp
  have hH := hHeld.alloc hHeld.size (Obj.cells #[.int .i64 1, .int .i64 0] 3)
  refine hK.out _ _ hH ?_
  clear hK K
  have hH0 := hHeld
  clear hHeld
  have hHeld := hH
  clear hH
  try simp only [Act.put, List.setIfInBounds_toArray, List.set_cons_zero, List.set_cons_succ]
  -- CALL 10: some 14 := Op.call { callee := Callee.value (Operand.func 38), args := #[Operand.const (Value.slice none 0 0), Operand.tmp 13], argTypes := #[42, 83] }
  refine rcall 10 rfl (by kernel_rfl) (by rfl) (fun K hK => ?_)
  go_simp
  refine (each_2 _ [] 1 0 _ (Bytes.nil _) (by decide)).mono ?_
  rintro e wx10 ⟨x1, rfl, own, bq⟩
  have hH := bnext hH0 bq
  refine hK.out _ _ hH ?_
  clear hK K hHeld
  have hHeld := hH
  clear hH
  try simp only [Act.put, List.setIfInBounds_toArray, List.set_cons_zero, List.set_cons_succ]
  refine rtake 11 rfl (by rfl) (by kernel_rfl) (by kernel_rfl) (by kernel_rfl) (fun _ _ _ h => h) hHeld (fun wx hwx => by go_simp; try with_reducible rfl) ?_
  try simp only [Act.put, List.setIfInBounds_toArray, List.set_cons_zero, List.set_cons_succ]
  refine wpAnyH_done (by kernel_rfl) ?_ _
  have hall := bnext hbW hHeld
  have B := HBx.out _ hall
  have hb := bnext hb0.out hall
  have own2 := own.mono (Nat.le_trans hb0.out.size (Nat.le_trans hbW.size hH0.size))
  obtain ⟨L1, hL⟩ : ∃ L1 : List UInt8, L1 = [] ++ eachS [1, 0] := ⟨_, rfl⟩
  rw [← hL] at own2
  have n1 := hid (show L1.length = 2 by rw [hL]; rfl)
  have o1 := hid own2
  have e1 := hid hL
  clear hL own own2 bq hall hHeld hH0 hbW hcX hcY HX HY HBx hb0
  have k1 := B.cell 1 _ rfl
  go_wp2_with fail
  clear k1
  refine (put_any _ L1 c.po 2 _ (o1.out.bytes) (by rw [n1.out]; decide)).mono ?_
  rintro e w21 ⟨x2, rfl, own, bq⟩
  obtain ⟨L2, hL⟩ : ∃ L2 : List UInt8, L2 = L1 ++ putS c.po 2 := ⟨_, rfl⟩
  rw [← hL] at own
  have n2 := hid (show L2.length = 4 by rw [hL, List.length_append, n1.out]; simp only [List.length_append, ln1, ln2, ln8, lnq, lnp, putN_length, eachS_len, List.length_cons, List.length_nil, stampS_length])
  have o2 := hid (own.mono hb.size)
  have e2 := hid hL
  clear hL own
  clear o1 n1
  replace B := B.below bq
  replace hb := bnext hb bq
  clear bq
  have k3 := B.cell 3 _ rfl
  go_wp2_with fail
  clear k3
  refine (each_1 _ L2 c.p1 _ (o2.out.bytes) (by rw [n2.out]; decide)).mono ?_
  rintro e w22 ⟨x3, rfl, own, bq⟩
  obtain ⟨L3, hL⟩ : ∃ L3 : List UInt8, L3 = L2 ++ eachS [c.p1] := ⟨_, rfl⟩
  rw [← hL] at own
  have n3 := hid (show L3.length = 5 by rw [hL, List.length_append, n2.out]; simp only [List.length_append, ln1, ln2, ln8, lnq, lnp, putN_length, eachS_len, List.length_cons, List.length_nil, stampS_length])
  have o3 := hid (own.mono hb.size)
  have e3 := hid hL
  clear hL own
  clear o2 n2
  replace B := B.below bq
  replace hb := bnext hb bq
  clear bq
  go_wp2_with (guard_target =~ wpList _ _ _ (⟨some 26, _, _, _, _, _⟩ :: _) _ _; refine qzT.load (op := ⟨some 26, .load _ _, _, _, _, _⟩) (by rfl) _ (by rfl) (G) 5 (by rfl) (⟨c.qc, c.qa, c.qv⟩) (cf_rq B) ?_)
  refine (qualPut_any _ L3 c.qc c.qa c.qv _ (o3.out.bytes) (by rw [n3.out]; decide)).mono ?_
  rintro e w23 ⟨x4, rfl, own, bq⟩
  obtain ⟨L4, hL⟩ : ∃ L4 : List UInt8, L4 = L3 ++ qualS c.qc c.qa c.qv := ⟨_, rfl⟩
  rw [← hL] at own
  have n4 := hid (show L4.length = 9 by rw [hL, List.length_append, n3.out]; simp only [List.length_append, ln1, ln2, ln8, lnq, lnp, putN_length, eachS_len, List.length_cons, List.length_nil, stampS_length])
  have o4 := hid (own.mono hb.size)
  have e4 := hid hL
  clear hL own
  clear o3 n3
  replace B := B.below bq
  replace hb := bnext hb bq
  clear bq
  have k4 := B.cell 4 _ rfl
  go_wp2_with fail
  clear k4
  refine (each_1 _ L4 c.p2 _ (o4.out.bytes) (by rw [n4.out]; decide)).mono ?_
  rintro e w24 ⟨x5, rfl, own, bq⟩
  obtain ⟨L5, hL⟩ : ∃ L5 : List UInt8, L5 = L4 ++ eachS [c.p2] := ⟨_, rfl⟩
  rw [← hL] at own
  have n5 := hid (show L5.length = 10 by rw [hL, List.length_append, n4.out]; simp only [List.length_append, ln1, ln2, ln8, lnq, lnp, putN_length, eachS_len, List.length_cons, List.length_nil, stampS_length])
  have o5 := hid (own.mono hb.size)
  have e5 := hid hL
  clear hL own
  clear o4 n4
  replace B := B.below bq
  replace hb := bnext hb bq
  clear bq
  have k0 := B.cell 0 _ rfl
  go_wp2_with fail
  clear k0
  refine (putId_any _ L5 c.cl _ (o5.out.bytes) (by rw [n5.out]; decide) hcl.out).mono ?_
  rintro e w25 ⟨x6, rfl, own, bq⟩
  obtain ⟨L6, hL⟩ : ∃ L6 : List UInt8, L6 = L5 ++ putN c.cl.toNat 8 := ⟨_, rfl⟩
  rw [← hL] at own
  have n6 := hid (show L6.length = 18 by rw [hL, List.length_append, n5.out]; simp only [List.length_append, ln1, ln2, ln8, lnq, lnp, putN_length, eachS_len, List.length_cons, List.length_nil, stampS_length])
  have o6 := hid (own.mono hb.size)
  have e6 := hid hL
  clear hL own
  clear o5 n5
  replace B := B.below bq
  replace hb := bnext hb bq
  clear bq
  have k2 := B.cell 2 _ rfl
  go_wp2_with fail
  clear k2
  refine (each_2 _ L6 c.dm 0 _ (o6.out.bytes) (by rw [n6.out]; decide)).mono ?_
  rintro e w26 ⟨x7, rfl, own, bq⟩
  obtain ⟨L7, hL⟩ : ∃ L7 : List UInt8, L7 = L6 ++ eachS [c.dm, 0] := ⟨_, rfl⟩
  rw [← hL] at own
  have n7 := hid (show L7.length = 20 by rw [hL, List.length_append, n6.out]; simp only [List.length_append, ln1, ln2, ln8, lnq, lnp, putN_length, eachS_len, List.length_cons, List.length_nil, stampS_length])
  have o7 := hid (own.mono hb.size)
  have e7 := hid hL
  clear hL own
  clear o6 n6
  replace B := B.below bq
  replace hb := bnext hb bq
  clear bq
  have hfin : L7 = defS c := by
    rw [e7.out, e6.out, e5.out, e4.out, e3.out, e2.out, e1.out]
    simp only [defS, hbits.out, eachS, List.append_assoc, List.nil_append, List.append_nil, List.cons_append]
  rw [hfin] at o7
  go_wp2_with fail
  go_ret
  exact ⟨_, rfl, o7.out, hb⟩

set_option maxRecDepth 100000 in
set_option maxHeartbeats 8000000 in
theorem ownSet_false_true (c : Cf) (hos : c.os = false) (hso : c.so = true) (hc0 : 0 ≤ c.cl) (w : World) : Calls Try.prog 32 #[.agg (cfK.enc c).toArray] w (NewBytes w (defS c)) := by
  have hbits := hid (show bitI (!c.os) + 2 * bitI c.so = 3 by rw [hos, hso]; rfl)
  have hcl := hid hc0
  clear hc0
  have z0 := bnew w (Obj.cells (cfK.enc c).toArray 28)
  have B := Box.new w (cfK.enc c) 28
  have hb := z0
  clear z0
  go_enter Try.func32, Try.ntmps32
  go_upto_region 1 with fail
  change Code.wp Try.prog _ _ _ (w.alloc (Obj.cells (cfK.enc c).toArray 28))
  generalize (w.alloc (Obj.cells (cfK.enc c).toArray 28)) = W at *
  generalize hG : w.heap.size = G at *
  rw [← hG] at hb
  have l_B : w.heap.size ≤ G := by omega
  have HX := hid fun (wx : World) (h : Below W.heap.size W wx) => (B.below h).cell 14 (.bool false) (by show some (Value.bool c.os) = _; rw [hos])
  have HY := hid fun (wx : World) (h : Below W.heap.size W wx) => (B.below h).cell 8 (.bool true) (by show some (Value.bool c.so) = _; rw [hso])
  have HBx := hid fun (wx : World) (h : Below W.heap.size W wx) => B.below h
  have hb0 := hid hb
  clear B hb
  refine wp_region_held_drew (S := fun w' => Below W.drew.heap.size W.drew w') (by kernel_rfl) (Below.refl _ _) ?_
  intro hHeld
  have hbW := Below.drew (Below.refl W.heap.size W)
  generalize W.drew = wd at *
  have hcX := fun wx h => HX.out wx (bnext hbW h)
  have hcY := fun wx h => HY.out wx (bnext hbW h)
  refine rtake 0 rfl (by rfl) (by kernel_rfl) (by kernel_rfl) (by kernel_rfl) (fun _ _ _ h => h) hHeld (fun wx hwx => by go_simp; try with_reducible rfl) ?_
  try simp only [Act.put, List.setIfInBounds_toArray, List.set_cons_zero, List.set_cons_succ]
  refine rtake 1 rfl (by rfl) (by kernel_rfl) (by kernel_rfl) (by kernel_rfl) (fun _ _ _ h => h) hHeld (fun wx hwx => by go_simp; try with_reducible rfl) ?_
  try simp only [Act.put, List.setIfInBounds_toArray, List.set_cons_zero, List.set_cons_succ]
  refine rtake 2 rfl (by rfl) (by kernel_rfl) (by kernel_rfl) (by kernel_rfl) (fun _ _ _ h => h) hHeld (fun wx hwx => by go_simp; try with_reducible rfl) ?_
  try simp only [Act.put, List.setIfInBounds_toArray, List.set_cons_zero, List.set_cons_succ]
  refine rtake 4 rfl (by rfl) (by kernel_rfl) (by kernel_rfl) (by kernel_rfl) (fun _ _ _ h => h) hHeld (fun wx hwx => by go_simp; try with_reducible rfl) ?_
  try simp only [Act.put, List.setIfInBounds_toArray, List.set_cons_zero, List.set_cons_succ]
  refine rtake 5 rfl (by rfl) (by kernel_rfl) (by kernel_rfl) (by kernel_rfl) (fun _ _ _ h => h) hHeld (fun wx hwx => by go_simp; try with_reducible rfl) ?_
  try simp only [Act.put, List.setIfInBounds_toArray, List.set_cons_zero, List.set_cons_succ]
  -- CALL 3: some 7 := Op.call { callee := Callee.value (Operand.func 39), args := #[Operand.tmp 6], argTypes := #[4] }
  refine rcall 3 rfl (by kernel_rfl) (by rfl) (fun K hK => ?_)
  go_simp
  refine (bit_yes _).mono ?_
  rintro e wx3 ⟨rfl, rfl⟩
  refine hK.out _ _ hHeld ?_
  clear hK K
  try simp only [Act.put, List.setIfInBounds_toArray, List.set_cons_zero, List.set_cons_succ]
  -- CALL 6: some 10 := Op.call { callee := Callee.value (Operand.func 39), args := #[Operand.tmp 9], argTypes := #[4] }
  refine rcall 6 rfl (by kernel_rfl) (by rfl) (fun K hK => ?_)
  go_simp
  refine (bit_yes _).mono ?_
  rintro e wx6 ⟨rfl, rfl⟩
  refine hK.out _ _ hHeld ?_
  clear hK K
  try simp only [Act.put, List.setIfInBounds_toArray, List.set_cons_zero, List.set_cons_succ]
  refine rtake 7 rfl (by rfl) (by kernel_rfl) (by kernel_rfl) (by kernel_rfl) (fun _ _ _ h => h) hHeld (fun wx hwx => by go_simp; try with_reducible rfl) ?_
  try simp only [Act.put, List.setIfInBounds_toArray, List.set_cons_zero, List.set_cons_succ]
  refine rtake 8 rfl (by rfl) (by kernel_rfl) (by kernel_rfl) (by kernel_rfl) (fun _ _ _ h => h) hHeld (fun wx hwx => by go_simp; try with_reducible rfl) ?_
  try simp only [Act.put, List.setIfInBounds_toArray, List.set_cons_zero, List.set_cons_succ]
  -- CALL 9: some 13 := Op.buildSlice 83 2 #[(0, Operand.tmp 12), (1, Operand.const (Value.int IntKind.i64 0))]
  refine rcall 9 rfl (by kernel_rfl) (by rfl) (fun K hK => ?_)
  go_simp
  have hH := hHeld.alloc hHeld.size (Obj.cells #[.int .i64 3, .int .i64 0] 3)
  refine hK.out _ _ hH ?_
  clear hK K
  have hH0 := hHeld
  clear hHeld
  have hHeld := hH
  clear hH
  try simp only [Act.put, List.setIfInBounds_toArray, List.set_cons_zero, List.set_cons_succ]
  -- CALL 10: some 14 := Op.call { callee := Callee.value (Operand.func 38), args := #[Operand.const (Value.slice none 0 0), Operand.tmp 13], argTypes := #[42, 83] }
  refine rcall 10 rfl (by kernel_rfl) (by rfl) (fun K hK => ?_)
  go_simp
  refine (each_2 _ [] 3 0 _ (Bytes.nil _) (by decide)).mono ?_
  rintro e wx10 ⟨x1, rfl, own, bq⟩
  have hH := bnext hH0 bq
  refine hK.out _ _ hH ?_
  clear hK K hHeld
  have hHeld := hH
  clear hH
  try simp only [Act.put, List.setIfInBounds_toArray, List.set_cons_zero, List.set_cons_succ]
  refine rtake 11 rfl (by rfl) (by kernel_rfl) (by kernel_rfl) (by kernel_rfl) (fun _ _ _ h => h) hHeld (fun wx hwx => by go_simp; try with_reducible rfl) ?_
  try simp only [Act.put, List.setIfInBounds_toArray, List.set_cons_zero, List.set_cons_succ]
  refine wpAnyH_done (by kernel_rfl) ?_ _
  have hall := bnext hbW hHeld
  have B := HBx.out _ hall
  have hb := bnext hb0.out hall
  have own2 := own.mono (Nat.le_trans hb0.out.size (Nat.le_trans hbW.size hH0.size))
  obtain ⟨L1, hL⟩ : ∃ L1 : List UInt8, L1 = [] ++ eachS [3, 0] := ⟨_, rfl⟩
  rw [← hL] at own2
  have n1 := hid (show L1.length = 2 by rw [hL]; rfl)
  have o1 := hid own2
  have e1 := hid hL
  clear hL own own2 bq hall hHeld hH0 hbW hcX hcY HX HY HBx hb0
  have k1 := B.cell 1 _ rfl
  go_wp2_with fail
  clear k1
  refine (put_any _ L1 c.po 2 _ (o1.out.bytes) (by rw [n1.out]; decide)).mono ?_
  rintro e w21 ⟨x2, rfl, own, bq⟩
  obtain ⟨L2, hL⟩ : ∃ L2 : List UInt8, L2 = L1 ++ putS c.po 2 := ⟨_, rfl⟩
  rw [← hL] at own
  have n2 := hid (show L2.length = 4 by rw [hL, List.length_append, n1.out]; simp only [List.length_append, ln1, ln2, ln8, lnq, lnp, putN_length, eachS_len, List.length_cons, List.length_nil, stampS_length])
  have o2 := hid (own.mono hb.size)
  have e2 := hid hL
  clear hL own
  clear o1 n1
  replace B := B.below bq
  replace hb := bnext hb bq
  clear bq
  have k3 := B.cell 3 _ rfl
  go_wp2_with fail
  clear k3
  refine (each_1 _ L2 c.p1 _ (o2.out.bytes) (by rw [n2.out]; decide)).mono ?_
  rintro e w22 ⟨x3, rfl, own, bq⟩
  obtain ⟨L3, hL⟩ : ∃ L3 : List UInt8, L3 = L2 ++ eachS [c.p1] := ⟨_, rfl⟩
  rw [← hL] at own
  have n3 := hid (show L3.length = 5 by rw [hL, List.length_append, n2.out]; simp only [List.length_append, ln1, ln2, ln8, lnq, lnp, putN_length, eachS_len, List.length_cons, List.length_nil, stampS_length])
  have o3 := hid (own.mono hb.size)
  have e3 := hid hL
  clear hL own
  clear o2 n2
  replace B := B.below bq
  replace hb := bnext hb bq
  clear bq
  go_wp2_with (guard_target =~ wpList _ _ _ (⟨some 26, _, _, _, _, _⟩ :: _) _ _; refine qzT.load (op := ⟨some 26, .load _ _, _, _, _, _⟩) (by rfl) _ (by rfl) (G) 5 (by rfl) (⟨c.qc, c.qa, c.qv⟩) (cf_rq B) ?_)
  refine (qualPut_any _ L3 c.qc c.qa c.qv _ (o3.out.bytes) (by rw [n3.out]; decide)).mono ?_
  rintro e w23 ⟨x4, rfl, own, bq⟩
  obtain ⟨L4, hL⟩ : ∃ L4 : List UInt8, L4 = L3 ++ qualS c.qc c.qa c.qv := ⟨_, rfl⟩
  rw [← hL] at own
  have n4 := hid (show L4.length = 9 by rw [hL, List.length_append, n3.out]; simp only [List.length_append, ln1, ln2, ln8, lnq, lnp, putN_length, eachS_len, List.length_cons, List.length_nil, stampS_length])
  have o4 := hid (own.mono hb.size)
  have e4 := hid hL
  clear hL own
  clear o3 n3
  replace B := B.below bq
  replace hb := bnext hb bq
  clear bq
  have k4 := B.cell 4 _ rfl
  go_wp2_with fail
  clear k4
  refine (each_1 _ L4 c.p2 _ (o4.out.bytes) (by rw [n4.out]; decide)).mono ?_
  rintro e w24 ⟨x5, rfl, own, bq⟩
  obtain ⟨L5, hL⟩ : ∃ L5 : List UInt8, L5 = L4 ++ eachS [c.p2] := ⟨_, rfl⟩
  rw [← hL] at own
  have n5 := hid (show L5.length = 10 by rw [hL, List.length_append, n4.out]; simp only [List.length_append, ln1, ln2, ln8, lnq, lnp, putN_length, eachS_len, List.length_cons, List.length_nil, stampS_length])
  have o5 := hid (own.mono hb.size)
  have e5 := hid hL
  clear hL own
  clear o4 n4
  replace B := B.below bq
  replace hb := bnext hb bq
  clear bq
  have k0 := B.cell 0 _ rfl
  go_wp2_with fail
  clear k0
  refine (putId_any _ L5 c.cl _ (o5.out.bytes) (by rw [n5.out]; decide) hcl.out).mono ?_
  rintro e w25 ⟨x6, rfl, own, bq⟩
  obtain ⟨L6, hL⟩ : ∃ L6 : List UInt8, L6 = L5 ++ putN c.cl.toNat 8 := ⟨_, rfl⟩
  rw [← hL] at own
  have n6 := hid (show L6.length = 18 by rw [hL, List.length_append, n5.out]; simp only [List.length_append, ln1, ln2, ln8, lnq, lnp, putN_length, eachS_len, List.length_cons, List.length_nil, stampS_length])
  have o6 := hid (own.mono hb.size)
  have e6 := hid hL
  clear hL own
  clear o5 n5
  replace B := B.below bq
  replace hb := bnext hb bq
  clear bq
  have k2 := B.cell 2 _ rfl
  go_wp2_with fail
  clear k2
  refine (each_2 _ L6 c.dm 0 _ (o6.out.bytes) (by rw [n6.out]; decide)).mono ?_
  rintro e w26 ⟨x7, rfl, own, bq⟩
  obtain ⟨L7, hL⟩ : ∃ L7 : List UInt8, L7 = L6 ++ eachS [c.dm, 0] := ⟨_, rfl⟩
  rw [← hL] at own
  have n7 := hid (show L7.length = 20 by rw [hL, List.length_append, n6.out]; simp only [List.length_append, ln1, ln2, ln8, lnq, lnp, putN_length, eachS_len, List.length_cons, List.length_nil, stampS_length])
  have o7 := hid (own.mono hb.size)
  have e7 := hid hL
  clear hL own
  clear o6 n6
  replace B := B.below bq
  replace hb := bnext hb bq
  clear bq
  have hfin : L7 = defS c := by
    rw [e7.out, e6.out, e5.out, e4.out, e3.out, e2.out, e1.out]
    simp only [defS, hbits.out, eachS, List.append_assoc, List.nil_append, List.append_nil, List.cons_append]
  rw [hfin] at o7
  go_wp2_with fail
  go_ret
  exact ⟨_, rfl, o7.out, hb⟩

set_option maxRecDepth 100000 in
set_option maxHeartbeats 8000000 in
theorem ownSet_true_false (c : Cf) (hos : c.os = true) (hso : c.so = false) (hc0 : 0 ≤ c.cl) (w : World) : Calls Try.prog 32 #[.agg (cfK.enc c).toArray] w (NewBytes w (defS c)) := by
  have hbits := hid (show bitI (!c.os) + 2 * bitI c.so = 0 by rw [hos, hso]; rfl)
  have hcl := hid hc0
  clear hc0
  have z0 := bnew w (Obj.cells (cfK.enc c).toArray 28)
  have B := Box.new w (cfK.enc c) 28
  have hb := z0
  clear z0
  go_enter Try.func32, Try.ntmps32
  go_upto_region 1 with fail
  change Code.wp Try.prog _ _ _ (w.alloc (Obj.cells (cfK.enc c).toArray 28))
  generalize (w.alloc (Obj.cells (cfK.enc c).toArray 28)) = W at *
  generalize hG : w.heap.size = G at *
  rw [← hG] at hb
  have l_B : w.heap.size ≤ G := by omega
  have HX := hid fun (wx : World) (h : Below W.heap.size W wx) => (B.below h).cell 14 (.bool true) (by show some (Value.bool c.os) = _; rw [hos])
  have HY := hid fun (wx : World) (h : Below W.heap.size W wx) => (B.below h).cell 8 (.bool false) (by show some (Value.bool c.so) = _; rw [hso])
  have HBx := hid fun (wx : World) (h : Below W.heap.size W wx) => B.below h
  have hb0 := hid hb
  clear B hb
  refine wp_region_held_drew (S := fun w' => Below W.drew.heap.size W.drew w') (by kernel_rfl) (Below.refl _ _) ?_
  intro hHeld
  have hbW := Below.drew (Below.refl W.heap.size W)
  generalize W.drew = wd at *
  have hcX := fun wx h => HX.out wx (bnext hbW h)
  have hcY := fun wx h => HY.out wx (bnext hbW h)
  refine rtake 0 rfl (by rfl) (by kernel_rfl) (by kernel_rfl) (by kernel_rfl) (fun _ _ _ h => h) hHeld (fun wx hwx => by go_simp; try with_reducible rfl) ?_
  try simp only [Act.put, List.setIfInBounds_toArray, List.set_cons_zero, List.set_cons_succ]
  refine rtake 1 rfl (by rfl) (by kernel_rfl) (by kernel_rfl) (by kernel_rfl) (fun _ _ _ h => h) hHeld (fun wx hwx => by go_simp; try with_reducible rfl) ?_
  try simp only [Act.put, List.setIfInBounds_toArray, List.set_cons_zero, List.set_cons_succ]
  refine rtake 2 rfl (by rfl) (by kernel_rfl) (by kernel_rfl) (by kernel_rfl) (fun _ _ _ h => h) hHeld (fun wx hwx => by go_simp; try with_reducible rfl) ?_
  try simp only [Act.put, List.setIfInBounds_toArray, List.set_cons_zero, List.set_cons_succ]
  refine rtake 4 rfl (by rfl) (by kernel_rfl) (by kernel_rfl) (by kernel_rfl) (fun _ _ _ h => h) hHeld (fun wx hwx => by go_simp; try with_reducible rfl) ?_
  try simp only [Act.put, List.setIfInBounds_toArray, List.set_cons_zero, List.set_cons_succ]
  refine rtake 5 rfl (by rfl) (by kernel_rfl) (by kernel_rfl) (by kernel_rfl) (fun _ _ _ h => h) hHeld (fun wx hwx => by go_simp; try with_reducible rfl) ?_
  try simp only [Act.put, List.setIfInBounds_toArray, List.set_cons_zero, List.set_cons_succ]
  -- CALL 3: some 7 := Op.call { callee := Callee.value (Operand.func 39), args := #[Operand.tmp 6], argTypes := #[4] }
  refine rcall 3 rfl (by kernel_rfl) (by rfl) (fun K hK => ?_)
  go_simp
  refine (bit_no _).mono ?_
  rintro e wx3 ⟨rfl, rfl⟩
  refine hK.out _ _ hHeld ?_
  clear hK K
  try simp only [Act.put, List.setIfInBounds_toArray, List.set_cons_zero, List.set_cons_succ]
  -- CALL 6: some 10 := Op.call { callee := Callee.value (Operand.func 39), args := #[Operand.tmp 9], argTypes := #[4] }
  refine rcall 6 rfl (by kernel_rfl) (by rfl) (fun K hK => ?_)
  go_simp
  refine (bit_no _).mono ?_
  rintro e wx6 ⟨rfl, rfl⟩
  refine hK.out _ _ hHeld ?_
  clear hK K
  try simp only [Act.put, List.setIfInBounds_toArray, List.set_cons_zero, List.set_cons_succ]
  refine rtake 7 rfl (by rfl) (by kernel_rfl) (by kernel_rfl) (by kernel_rfl) (fun _ _ _ h => h) hHeld (fun wx hwx => by go_simp; try with_reducible rfl) ?_
  try simp only [Act.put, List.setIfInBounds_toArray, List.set_cons_zero, List.set_cons_succ]
  refine rtake 8 rfl (by rfl) (by kernel_rfl) (by kernel_rfl) (by kernel_rfl) (fun _ _ _ h => h) hHeld (fun wx hwx => by go_simp; try with_reducible rfl) ?_
  try simp only [Act.put, List.setIfInBounds_toArray, List.set_cons_zero, List.set_cons_succ]
  -- CALL 9: some 13 := Op.buildSlice 83 2 #[(0, Operand.tmp 12), (1, Operand.const (Value.int IntKind.i64 0))]
  refine rcall 9 rfl (by kernel_rfl) (by rfl) (fun K hK => ?_)
  go_simp
  have hH := hHeld.alloc hHeld.size (Obj.cells #[.int .i64 0, .int .i64 0] 3)
  refine hK.out _ _ hH ?_
  clear hK K
  have hH0 := hHeld
  clear hHeld
  have hHeld := hH
  clear hH
  try simp only [Act.put, List.setIfInBounds_toArray, List.set_cons_zero, List.set_cons_succ]
  -- CALL 10: some 14 := Op.call { callee := Callee.value (Operand.func 38), args := #[Operand.const (Value.slice none 0 0), Operand.tmp 13], argTypes := #[42, 83] }
  refine rcall 10 rfl (by kernel_rfl) (by rfl) (fun K hK => ?_)
  go_simp
  refine (each_2 _ [] 0 0 _ (Bytes.nil _) (by decide)).mono ?_
  rintro e wx10 ⟨x1, rfl, own, bq⟩
  have hH := bnext hH0 bq
  refine hK.out _ _ hH ?_
  clear hK K hHeld
  have hHeld := hH
  clear hH
  try simp only [Act.put, List.setIfInBounds_toArray, List.set_cons_zero, List.set_cons_succ]
  refine rtake 11 rfl (by rfl) (by kernel_rfl) (by kernel_rfl) (by kernel_rfl) (fun _ _ _ h => h) hHeld (fun wx hwx => by go_simp; try with_reducible rfl) ?_
  try simp only [Act.put, List.setIfInBounds_toArray, List.set_cons_zero, List.set_cons_succ]
  refine wpAnyH_done (by kernel_rfl) ?_ _
  have hall := bnext hbW hHeld
  have B := HBx.out _ hall
  have hb := bnext hb0.out hall
  have own2 := own.mono (Nat.le_trans hb0.out.size (Nat.le_trans hbW.size hH0.size))
  obtain ⟨L1, hL⟩ : ∃ L1 : List UInt8, L1 = [] ++ eachS [0, 0] := ⟨_, rfl⟩
  rw [← hL] at own2
  have n1 := hid (show L1.length = 2 by rw [hL]; rfl)
  have o1 := hid own2
  have e1 := hid hL
  clear hL own own2 bq hall hHeld hH0 hbW hcX hcY HX HY HBx hb0
  have k1 := B.cell 1 _ rfl
  go_wp2_with fail
  clear k1
  refine (put_any _ L1 c.po 2 _ (o1.out.bytes) (by rw [n1.out]; decide)).mono ?_
  rintro e w21 ⟨x2, rfl, own, bq⟩
  obtain ⟨L2, hL⟩ : ∃ L2 : List UInt8, L2 = L1 ++ putS c.po 2 := ⟨_, rfl⟩
  rw [← hL] at own
  have n2 := hid (show L2.length = 4 by rw [hL, List.length_append, n1.out]; simp only [List.length_append, ln1, ln2, ln8, lnq, lnp, putN_length, eachS_len, List.length_cons, List.length_nil, stampS_length])
  have o2 := hid (own.mono hb.size)
  have e2 := hid hL
  clear hL own
  clear o1 n1
  replace B := B.below bq
  replace hb := bnext hb bq
  clear bq
  have k3 := B.cell 3 _ rfl
  go_wp2_with fail
  clear k3
  refine (each_1 _ L2 c.p1 _ (o2.out.bytes) (by rw [n2.out]; decide)).mono ?_
  rintro e w22 ⟨x3, rfl, own, bq⟩
  obtain ⟨L3, hL⟩ : ∃ L3 : List UInt8, L3 = L2 ++ eachS [c.p1] := ⟨_, rfl⟩
  rw [← hL] at own
  have n3 := hid (show L3.length = 5 by rw [hL, List.length_append, n2.out]; simp only [List.length_append, ln1, ln2, ln8, lnq, lnp, putN_length, eachS_len, List.length_cons, List.length_nil, stampS_length])
  have o3 := hid (own.mono hb.size)
  have e3 := hid hL
  clear hL own
  clear o2 n2
  replace B := B.below bq
  replace hb := bnext hb bq
  clear bq
  go_wp2_with (guard_target =~ wpList _ _ _ (⟨some 26, _, _, _, _, _⟩ :: _) _ _; refine qzT.load (op := ⟨some 26, .load _ _, _, _, _, _⟩) (by rfl) _ (by rfl) (G) 5 (by rfl) (⟨c.qc, c.qa, c.qv⟩) (cf_rq B) ?_)
  refine (qualPut_any _ L3 c.qc c.qa c.qv _ (o3.out.bytes) (by rw [n3.out]; decide)).mono ?_
  rintro e w23 ⟨x4, rfl, own, bq⟩
  obtain ⟨L4, hL⟩ : ∃ L4 : List UInt8, L4 = L3 ++ qualS c.qc c.qa c.qv := ⟨_, rfl⟩
  rw [← hL] at own
  have n4 := hid (show L4.length = 9 by rw [hL, List.length_append, n3.out]; simp only [List.length_append, ln1, ln2, ln8, lnq, lnp, putN_length, eachS_len, List.length_cons, List.length_nil, stampS_length])
  have o4 := hid (own.mono hb.size)
  have e4 := hid hL
  clear hL own
  clear o3 n3
  replace B := B.below bq
  replace hb := bnext hb bq
  clear bq
  have k4 := B.cell 4 _ rfl
  go_wp2_with fail
  clear k4
  refine (each_1 _ L4 c.p2 _ (o4.out.bytes) (by rw [n4.out]; decide)).mono ?_
  rintro e w24 ⟨x5, rfl, own, bq⟩
  obtain ⟨L5, hL⟩ : ∃ L5 : List UInt8, L5 = L4 ++ eachS [c.p2] := ⟨_, rfl⟩
  rw [← hL] at own
  have n5 := hid (show L5.length = 10 by rw [hL, List.length_append, n4.out]; simp only [List.length_append, ln1, ln2, ln8, lnq, lnp, putN_length, eachS_len, List.length_cons, List.length_nil, stampS_length])
  have o5 := hid (own.mono hb.size)
  have e5 := hid hL
  clear hL own
  clear o4 n4
  replace B := B.below bq
  replace hb := bnext hb bq
  clear bq
  have k0 := B.cell 0 _ rfl
  go_wp2_with fail
  clear k0
  refine (putId_any _ L5 c.cl _ (o5.out.bytes) (by rw [n5.out]; decide) hcl.out).mono ?_
  rintro e w25 ⟨x6, rfl, own, bq⟩
  obtain ⟨L6, hL⟩ : ∃ L6 : List UInt8, L6 = L5 ++ putN c.cl.toNat 8 := ⟨_, rfl⟩
  rw [← hL] at own
  have n6 := hid (show L6.length = 18 by rw [hL, List.length_append, n5.out]; simp only [List.length_append, ln1, ln2, ln8, lnq, lnp, putN_length, eachS_len, List.length_cons, List.length_nil, stampS_length])
  have o6 := hid (own.mono hb.size)
  have e6 := hid hL
  clear hL own
  clear o5 n5
  replace B := B.below bq
  replace hb := bnext hb bq
  clear bq
  have k2 := B.cell 2 _ rfl
  go_wp2_with fail
  clear k2
  refine (each_2 _ L6 c.dm 0 _ (o6.out.bytes) (by rw [n6.out]; decide)).mono ?_
  rintro e w26 ⟨x7, rfl, own, bq⟩
  obtain ⟨L7, hL⟩ : ∃ L7 : List UInt8, L7 = L6 ++ eachS [c.dm, 0] := ⟨_, rfl⟩
  rw [← hL] at own
  have n7 := hid (show L7.length = 20 by rw [hL, List.length_append, n6.out]; simp only [List.length_append, ln1, ln2, ln8, lnq, lnp, putN_length, eachS_len, List.length_cons, List.length_nil, stampS_length])
  have o7 := hid (own.mono hb.size)
  have e7 := hid hL
  clear hL own
  clear o6 n6
  replace B := B.below bq
  replace hb := bnext hb bq
  clear bq
  have hfin : L7 = defS c := by
    rw [e7.out, e6.out, e5.out, e4.out, e3.out, e2.out, e1.out]
    simp only [defS, hbits.out, eachS, List.append_assoc, List.nil_append, List.append_nil, List.cons_append]
  rw [hfin] at o7
  go_wp2_with fail
  go_ret
  exact ⟨_, rfl, o7.out, hb⟩

set_option maxRecDepth 100000 in
set_option maxHeartbeats 8000000 in
theorem ownSet_true_true (c : Cf) (hos : c.os = true) (hso : c.so = true) (hc0 : 0 ≤ c.cl) (w : World) : Calls Try.prog 32 #[.agg (cfK.enc c).toArray] w (NewBytes w (defS c)) := by
  have hbits := hid (show bitI (!c.os) + 2 * bitI c.so = 2 by rw [hos, hso]; rfl)
  have hcl := hid hc0
  clear hc0
  have z0 := bnew w (Obj.cells (cfK.enc c).toArray 28)
  have B := Box.new w (cfK.enc c) 28
  have hb := z0
  clear z0
  go_enter Try.func32, Try.ntmps32
  go_upto_region 1 with fail
  change Code.wp Try.prog _ _ _ (w.alloc (Obj.cells (cfK.enc c).toArray 28))
  generalize (w.alloc (Obj.cells (cfK.enc c).toArray 28)) = W at *
  generalize hG : w.heap.size = G at *
  rw [← hG] at hb
  have l_B : w.heap.size ≤ G := by omega
  have HX := hid fun (wx : World) (h : Below W.heap.size W wx) => (B.below h).cell 14 (.bool true) (by show some (Value.bool c.os) = _; rw [hos])
  have HY := hid fun (wx : World) (h : Below W.heap.size W wx) => (B.below h).cell 8 (.bool true) (by show some (Value.bool c.so) = _; rw [hso])
  have HBx := hid fun (wx : World) (h : Below W.heap.size W wx) => B.below h
  have hb0 := hid hb
  clear B hb
  refine wp_region_held_drew (S := fun w' => Below W.drew.heap.size W.drew w') (by kernel_rfl) (Below.refl _ _) ?_
  intro hHeld
  have hbW := Below.drew (Below.refl W.heap.size W)
  generalize W.drew = wd at *
  have hcX := fun wx h => HX.out wx (bnext hbW h)
  have hcY := fun wx h => HY.out wx (bnext hbW h)
  refine rtake 0 rfl (by rfl) (by kernel_rfl) (by kernel_rfl) (by kernel_rfl) (fun _ _ _ h => h) hHeld (fun wx hwx => by go_simp; try with_reducible rfl) ?_
  try simp only [Act.put, List.setIfInBounds_toArray, List.set_cons_zero, List.set_cons_succ]
  refine rtake 1 rfl (by rfl) (by kernel_rfl) (by kernel_rfl) (by kernel_rfl) (fun _ _ _ h => h) hHeld (fun wx hwx => by go_simp; try with_reducible rfl) ?_
  try simp only [Act.put, List.setIfInBounds_toArray, List.set_cons_zero, List.set_cons_succ]
  refine rtake 2 rfl (by rfl) (by kernel_rfl) (by kernel_rfl) (by kernel_rfl) (fun _ _ _ h => h) hHeld (fun wx hwx => by go_simp; try with_reducible rfl) ?_
  try simp only [Act.put, List.setIfInBounds_toArray, List.set_cons_zero, List.set_cons_succ]
  refine rtake 4 rfl (by rfl) (by kernel_rfl) (by kernel_rfl) (by kernel_rfl) (fun _ _ _ h => h) hHeld (fun wx hwx => by go_simp; try with_reducible rfl) ?_
  try simp only [Act.put, List.setIfInBounds_toArray, List.set_cons_zero, List.set_cons_succ]
  refine rtake 5 rfl (by rfl) (by kernel_rfl) (by kernel_rfl) (by kernel_rfl) (fun _ _ _ h => h) hHeld (fun wx hwx => by go_simp; try with_reducible rfl) ?_
  try simp only [Act.put, List.setIfInBounds_toArray, List.set_cons_zero, List.set_cons_succ]
  -- CALL 3: some 7 := Op.call { callee := Callee.value (Operand.func 39), args := #[Operand.tmp 6], argTypes := #[4] }
  refine rcall 3 rfl (by kernel_rfl) (by rfl) (fun K hK => ?_)
  go_simp
  refine (bit_no _).mono ?_
  rintro e wx3 ⟨rfl, rfl⟩
  refine hK.out _ _ hHeld ?_
  clear hK K
  try simp only [Act.put, List.setIfInBounds_toArray, List.set_cons_zero, List.set_cons_succ]
  -- CALL 6: some 10 := Op.call { callee := Callee.value (Operand.func 39), args := #[Operand.tmp 9], argTypes := #[4] }
  refine rcall 6 rfl (by kernel_rfl) (by rfl) (fun K hK => ?_)
  go_simp
  refine (bit_yes _).mono ?_
  rintro e wx6 ⟨rfl, rfl⟩
  refine hK.out _ _ hHeld ?_
  clear hK K
  try simp only [Act.put, List.setIfInBounds_toArray, List.set_cons_zero, List.set_cons_succ]
  refine rtake 7 rfl (by rfl) (by kernel_rfl) (by kernel_rfl) (by kernel_rfl) (fun _ _ _ h => h) hHeld (fun wx hwx => by go_simp; try with_reducible rfl) ?_
  try simp only [Act.put, List.setIfInBounds_toArray, List.set_cons_zero, List.set_cons_succ]
  refine rtake 8 rfl (by rfl) (by kernel_rfl) (by kernel_rfl) (by kernel_rfl) (fun _ _ _ h => h) hHeld (fun wx hwx => by go_simp; try with_reducible rfl) ?_
  try simp only [Act.put, List.setIfInBounds_toArray, List.set_cons_zero, List.set_cons_succ]
  -- CALL 9: some 13 := Op.buildSlice 83 2 #[(0, Operand.tmp 12), (1, Operand.const (Value.int IntKind.i64 0))]
  refine rcall 9 rfl (by kernel_rfl) (by rfl) (fun K hK => ?_)
  go_simp
  have hH := hHeld.alloc hHeld.size (Obj.cells #[.int .i64 2, .int .i64 0] 3)
  refine hK.out _ _ hH ?_
  clear hK K
  have hH0 := hHeld
  clear hHeld
  have hHeld := hH
  clear hH
  try simp only [Act.put, List.setIfInBounds_toArray, List.set_cons_zero, List.set_cons_succ]
  -- CALL 10: some 14 := Op.call { callee := Callee.value (Operand.func 38), args := #[Operand.const (Value.slice none 0 0), Operand.tmp 13], argTypes := #[42, 83] }
  refine rcall 10 rfl (by kernel_rfl) (by rfl) (fun K hK => ?_)
  go_simp
  refine (each_2 _ [] 2 0 _ (Bytes.nil _) (by decide)).mono ?_
  rintro e wx10 ⟨x1, rfl, own, bq⟩
  have hH := bnext hH0 bq
  refine hK.out _ _ hH ?_
  clear hK K hHeld
  have hHeld := hH
  clear hH
  try simp only [Act.put, List.setIfInBounds_toArray, List.set_cons_zero, List.set_cons_succ]
  refine rtake 11 rfl (by rfl) (by kernel_rfl) (by kernel_rfl) (by kernel_rfl) (fun _ _ _ h => h) hHeld (fun wx hwx => by go_simp; try with_reducible rfl) ?_
  try simp only [Act.put, List.setIfInBounds_toArray, List.set_cons_zero, List.set_cons_succ]
  refine wpAnyH_done (by kernel_rfl) ?_ _
  have hall := bnext hbW hHeld
  have B := HBx.out _ hall
  have hb := bnext hb0.out hall
  have own2 := own.mono (Nat.le_trans hb0.out.size (Nat.le_trans hbW.size hH0.size))
  obtain ⟨L1, hL⟩ : ∃ L1 : List UInt8, L1 = [] ++ eachS [2, 0] := ⟨_, rfl⟩
  rw [← hL] at own2
  have n1 := hid (show L1.length = 2 by rw [hL]; rfl)
  have o1 := hid own2
  have e1 := hid hL
  clear hL own own2 bq hall hHeld hH0 hbW hcX hcY HX HY HBx hb0
  have k1 := B.cell 1 _ rfl
  go_wp2_with fail
  clear k1
  refine (put_any _ L1 c.po 2 _ (o1.out.bytes) (by rw [n1.out]; decide)).mono ?_
  rintro e w21 ⟨x2, rfl, own, bq⟩
  obtain ⟨L2, hL⟩ : ∃ L2 : List UInt8, L2 = L1 ++ putS c.po 2 := ⟨_, rfl⟩
  rw [← hL] at own
  have n2 := hid (show L2.length = 4 by rw [hL, List.length_append, n1.out]; simp only [List.length_append, ln1, ln2, ln8, lnq, lnp, putN_length, eachS_len, List.length_cons, List.length_nil, stampS_length])
  have o2 := hid (own.mono hb.size)
  have e2 := hid hL
  clear hL own
  clear o1 n1
  replace B := B.below bq
  replace hb := bnext hb bq
  clear bq
  have k3 := B.cell 3 _ rfl
  go_wp2_with fail
  clear k3
  refine (each_1 _ L2 c.p1 _ (o2.out.bytes) (by rw [n2.out]; decide)).mono ?_
  rintro e w22 ⟨x3, rfl, own, bq⟩
  obtain ⟨L3, hL⟩ : ∃ L3 : List UInt8, L3 = L2 ++ eachS [c.p1] := ⟨_, rfl⟩
  rw [← hL] at own
  have n3 := hid (show L3.length = 5 by rw [hL, List.length_append, n2.out]; simp only [List.length_append, ln1, ln2, ln8, lnq, lnp, putN_length, eachS_len, List.length_cons, List.length_nil, stampS_length])
  have o3 := hid (own.mono hb.size)
  have e3 := hid hL
  clear hL own
  clear o2 n2
  replace B := B.below bq
  replace hb := bnext hb bq
  clear bq
  go_wp2_with (guard_target =~ wpList _ _ _ (⟨some 26, _, _, _, _, _⟩ :: _) _ _; refine qzT.load (op := ⟨some 26, .load _ _, _, _, _, _⟩) (by rfl) _ (by rfl) (G) 5 (by rfl) (⟨c.qc, c.qa, c.qv⟩) (cf_rq B) ?_)
  refine (qualPut_any _ L3 c.qc c.qa c.qv _ (o3.out.bytes) (by rw [n3.out]; decide)).mono ?_
  rintro e w23 ⟨x4, rfl, own, bq⟩
  obtain ⟨L4, hL⟩ : ∃ L4 : List UInt8, L4 = L3 ++ qualS c.qc c.qa c.qv := ⟨_, rfl⟩
  rw [← hL] at own
  have n4 := hid (show L4.length = 9 by rw [hL, List.length_append, n3.out]; simp only [List.length_append, ln1, ln2, ln8, lnq, lnp, putN_length, eachS_len, List.length_cons, List.length_nil, stampS_length])
  have o4 := hid (own.mono hb.size)
  have e4 := hid hL
  clear hL own
  clear o3 n3
  replace B := B.below bq
  replace hb := bnext hb bq
  clear bq
  have k4 := B.cell 4 _ rfl
  go_wp2_with fail
  clear k4
  refine (each_1 _ L4 c.p2 _ (o4.out.bytes) (by rw [n4.out]; decide)).mono ?_
  rintro e w24 ⟨x5, rfl, own, bq⟩
  obtain ⟨L5, hL⟩ : ∃ L5 : List UInt8, L5 = L4 ++ eachS [c.p2] := ⟨_, rfl⟩
  rw [← hL] at own
  have n5 := hid (show L5.length = 10 by rw [hL, List.length_append, n4.out]; simp only [List.length_append, ln1, ln2, ln8, lnq, lnp, putN_length, eachS_len, List.length_cons, List.length_nil, stampS_length])
  have o5 := hid (own.mono hb.size)
  have e5 := hid hL
  clear hL own
  clear o4 n4
  replace B := B.below bq
  replace hb := bnext hb bq
  clear bq
  have k0 := B.cell 0 _ rfl
  go_wp2_with fail
  clear k0
  refine (putId_any _ L5 c.cl _ (o5.out.bytes) (by rw [n5.out]; decide) hcl.out).mono ?_
  rintro e w25 ⟨x6, rfl, own, bq⟩
  obtain ⟨L6, hL⟩ : ∃ L6 : List UInt8, L6 = L5 ++ putN c.cl.toNat 8 := ⟨_, rfl⟩
  rw [← hL] at own
  have n6 := hid (show L6.length = 18 by rw [hL, List.length_append, n5.out]; simp only [List.length_append, ln1, ln2, ln8, lnq, lnp, putN_length, eachS_len, List.length_cons, List.length_nil, stampS_length])
  have o6 := hid (own.mono hb.size)
  have e6 := hid hL
  clear hL own
  clear o5 n5
  replace B := B.below bq
  replace hb := bnext hb bq
  clear bq
  have k2 := B.cell 2 _ rfl
  go_wp2_with fail
  clear k2
  refine (each_2 _ L6 c.dm 0 _ (o6.out.bytes) (by rw [n6.out]; decide)).mono ?_
  rintro e w26 ⟨x7, rfl, own, bq⟩
  obtain ⟨L7, hL⟩ : ∃ L7 : List UInt8, L7 = L6 ++ eachS [c.dm, 0] := ⟨_, rfl⟩
  rw [← hL] at own
  have n7 := hid (show L7.length = 20 by rw [hL, List.length_append, n6.out]; simp only [List.length_append, ln1, ln2, ln8, lnq, lnp, putN_length, eachS_len, List.length_cons, List.length_nil, stampS_length])
  have o7 := hid (own.mono hb.size)
  have e7 := hid hL
  clear hL own
  clear o6 n6
  replace B := B.below bq
  replace hb := bnext hb bq
  clear bq
  have hfin : L7 = defS c := by
    rw [e7.out, e6.out, e5.out, e4.out, e3.out, e2.out, e1.out]
    simp only [defS, hbits.out, eachS, List.append_assoc, List.nil_append, List.append_nil, List.cons_append]
  rw [hfin] at o7
  go_wp2_with fail
  go_ret
  exact ⟨_, rfl, o7.out, hb⟩

theorem ownSet_any (c : Cf) (hc : 0 ≤ c.cl) (w : World) : Calls Try.prog 32 #[.agg (cfK.enc c).toArray] w (NewBytes w (defS c)) := by
  cases h1 : c.os <;> cases h2 : c.so
  · exact ownSet_false_false c h1 h2 hc w
  · exact ownSet_false_true c h1 h2 hc w
  · exact ownSet_true_false c h1 h2 hc w
  · exact ownSet_true_true c h1 h2 hc w

set_option maxRecDepth 100000 in
set_option maxHeartbeats 8000000 in
theorem currentSet_any (v : Vw) (w : World) : Calls Try.prog 33 #[.agg (vwK2.enc v).toArray] w (NewBytes w (curS v)) := by
  have z0 := bnew w (Obj.cells (vwK2.enc v).toArray 41)
  have B := Box.new w (vwK2.enc v) 41
  have hb := z0
  clear z0
  go_enter Try.func33, Try.ntmps33
  go_upto_region 1 with fail
  change Code.wp Try.prog _ _ _ (w.alloc (Obj.cells (vwK2.enc v).toArray 41))
  generalize (w.alloc (Obj.cells (vwK2.enc v).toArray 41)) = W at *
  generalize hG : w.heap.size = G at *
  rw [← hG] at hb
  have l_B : w.heap.size ≤ G := by omega
  have k31 := B.cell 31 _ rfl
  go_wp2_with fail
  clear k31
  refine (put_any _ [] v.p.st 2 _ (Bytes.nil _) (by decide)).mono ?_
  rintro e w1 ⟨x1, rfl, own, bq⟩
  obtain ⟨L1, hL⟩ : ∃ L1 : List UInt8, L1 = [] ++ putS v.p.st 2 := ⟨_, rfl⟩
  rw [← hL] at own
  have n1 := hid (show L1.length = 2 by rw [hL, List.length_append]; simp only [List.length_append, ln1, ln2, ln8, lnq, lnp, putN_length, eachS_len, List.length_cons, List.length_nil, stampS_length])
  have o1 := hid (own.mono hb.size)
  have e1 := hid hL
  clear hL own
  replace B := B.below bq
  replace hb := bnext hb bq
  clear bq
  have k35 := B.cell 35 _ rfl
  go_wp2_with fail
  clear k35
  refine (scaled_any v.off _).mono ?_
  rintro e w2 ⟨rfl, rfl⟩
  go_wp2_with fail
  refine (put_any _ L1 (satI v.off) 8 _ (o1.out.bytes) (by rw [n1.out]; decide)).mono ?_
  rintro e w3 ⟨x2, rfl, own, bq⟩
  obtain ⟨L2, hL⟩ : ∃ L2 : List UInt8, L2 = L1 ++ putS (satI v.off) 8 := ⟨_, rfl⟩
  rw [← hL] at own
  have n2 := hid (show L2.length = 10 by rw [hL, List.length_append, n1.out]; simp only [List.length_append, ln1, ln2, ln8, lnq, lnp, putN_length, eachS_len, List.length_cons, List.length_nil, stampS_length])
  have o2 := hid (own.mono hb.size)
  have e2 := hid hL
  clear hL own
  clear o1 n1
  replace B := B.below bq
  replace hb := bnext hb bq
  clear bq
  have k36 := B.cell 36 _ rfl
  go_wp2_with fail
  clear k36
  refine (scaled_any v.dl _).mono ?_
  rintro e w4 ⟨rfl, rfl⟩
  go_wp2_with fail
  refine (put_any _ L2 (satI v.dl) 8 _ (o2.out.bytes) (by rw [n2.out]; decide)).mono ?_
  rintro e w5 ⟨x3, rfl, own, bq⟩
  obtain ⟨L3, hL⟩ : ∃ L3 : List UInt8, L3 = L2 ++ putS (satI v.dl) 8 := ⟨_, rfl⟩
  rw [← hL] at own
  have n3 := hid (show L3.length = 18 by rw [hL, List.length_append, n2.out]; simp only [List.length_append, ln1, ln2, ln8, lnq, lnp, putN_length, eachS_len, List.length_cons, List.length_nil, stampS_length])
  have o3 := hid (own.mono hb.size)
  have e3 := hid hL
  clear hL own
  clear o2 n2
  replace B := B.below bq
  replace hb := bnext hb bq
  clear bq
  have hfin : L3 = curS v := by
    rw [e3.out, e2.out, e1.out]
    simp only [curS, eachS, List.append_assoc, List.nil_append, List.append_nil, List.cons_append]
  rw [hfin] at o3
  go_wp2_with fail
  go_ret
  exact ⟨_, rfl, o3.out, hb⟩

set_option maxRecDepth 100000 in
set_option maxHeartbeats 8000000 in
theorem parentSet_any (p : Pa) (hp : 0 ≤ p.pc ∧ 0 ≤ p.gr) (w : World) : Calls Try.prog 34 #[.agg (paK.enc p).toArray] w (NewBytes w (parS p)) := by
  have b0 := hid (show putS 0 1 = [0] by decide)
  have b255 := hid (show putS 255 1 = [255] by decide)
  have b127 := hid (show putS 127 1 = [127] by decide)
  have hpc := hid hp
  clear hp
  have z0 := bnew w (Obj.cells (paK.enc p).toArray 39)
  have B := Box.new w (paK.enc p) 39
  have hb := z0
  clear z0
  go_enter Try.func34, Try.ntmps34
  go_upto_region 1 with fail
  change Code.wp Try.prog _ _ _ (w.alloc (Obj.cells (paK.enc p).toArray 39))
  generalize (w.alloc (Obj.cells (paK.enc p).toArray 39)) = W at *
  generalize hG : w.heap.size = G at *
  rw [← hG] at hb
  have l_B : w.heap.size ≤ G := by omega
  go_wp2_with (guard_target =~ wpList _ _ _ (⟨some 5, _, _, _, _, _⟩ :: _) _ _; refine pzT.load (op := ⟨some 5, .load _ _, _, _, _, _⟩) (by rfl) _ (by rfl) (G) 0 (by rfl) (⟨p.pc, p.pp⟩) (pa_rp B) ?_)
  refine (identPut_any _ [] p.pc p.pp _ (Bytes.nil _) (by decide) hpc.out.1).mono ?_
  rintro e w1 ⟨x1, rfl, own, bq⟩
  obtain ⟨L1, hL⟩ : ∃ L1 : List UInt8, L1 = [] ++ portS p.pc p.pp := ⟨_, rfl⟩
  rw [← hL] at own
  have n1 := hid (show L1.length = 10 by rw [hL, List.length_append]; simp only [List.length_append, ln1, ln2, ln8, lnq, lnp, putN_length, eachS_len, List.length_cons, List.length_nil, stampS_length])
  have o1 := hid (own.mono hb.size)
  have e1 := hid hL
  clear hL own
  replace B := B.below bq
  replace hb := bnext hb bq
  clear bq
  go_wp2_with fail
  refine (each_8 _ L1 0 0 255 255 127 255 255 255 _ (o1.out.bytes) (by rw [n1.out]; decide)).mono ?_
  rintro e w2 ⟨x2, rfl, own, bq⟩
  obtain ⟨L2, hL⟩ : ∃ L2 : List UInt8, L2 = L1 ++ eachS [0, 0, 255, 255, 127, 255, 255, 255] := ⟨_, rfl⟩
  rw [← hL] at own
  have n2 := hid (show L2.length = 18 by rw [hL, List.length_append, n1.out]; simp only [List.length_append, ln1, ln2, ln8, lnq, lnp, putN_length, eachS_len, List.length_cons, List.length_nil, stampS_length])
  have o2 := hid (own.mono hb.size)
  have e2 := hid hL
  clear hL own
  clear o1 n1
  replace B := B.below bq
  replace hb := bnext hb bq
  clear bq
  have k6 := B.cell 6 _ rfl
  go_wp2_with fail
  clear k6
  refine (each_1 _ L2 p.p1 _ (o2.out.bytes) (by rw [n2.out]; decide)).mono ?_
  rintro e w3 ⟨x3, rfl, own, bq⟩
  obtain ⟨L3, hL⟩ : ∃ L3 : List UInt8, L3 = L2 ++ eachS [p.p1] := ⟨_, rfl⟩
  rw [← hL] at own
  have n3 := hid (show L3.length = 19 by rw [hL, List.length_append, n2.out]; simp only [List.length_append, ln1, ln2, ln8, lnq, lnp, putN_length, eachS_len, List.length_cons, List.length_nil, stampS_length])
  have o3 := hid (own.mono hb.size)
  have e3 := hid hL
  clear hL own
  clear o2 n2
  replace B := B.below bq
  replace hb := bnext hb bq
  clear bq
  go_wp2_with (guard_target =~ wpList _ _ _ (⟨some 17, _, _, _, _, _⟩ :: _) _ _; refine qzT.load (op := ⟨some 17, .load _ _, _, _, _, _⟩) (by rfl) _ (by rfl) (G) 3 (by rfl) (⟨p.qc, p.qa, p.qv⟩) (pa_rq B) ?_)
  refine (qualPut_any _ L3 p.qc p.qa p.qv _ (o3.out.bytes) (by rw [n3.out]; decide)).mono ?_
  rintro e w4 ⟨x4, rfl, own, bq⟩
  obtain ⟨L4, hL⟩ : ∃ L4 : List UInt8, L4 = L3 ++ qualS p.qc p.qa p.qv := ⟨_, rfl⟩
  rw [← hL] at own
  have n4 := hid (show L4.length = 23 by rw [hL, List.length_append, n3.out]; simp only [List.length_append, ln1, ln2, ln8, lnq, lnp, putN_length, eachS_len, List.length_cons, List.length_nil, stampS_length])
  have o4 := hid (own.mono hb.size)
  have e4 := hid hL
  clear hL own
  clear o3 n3
  replace B := B.below bq
  replace hb := bnext hb bq
  clear bq
  have k7 := B.cell 7 _ rfl
  go_wp2_with fail
  clear k7
  refine (each_1 _ L4 p.p2 _ (o4.out.bytes) (by rw [n4.out]; decide)).mono ?_
  rintro e w5 ⟨x5, rfl, own, bq⟩
  obtain ⟨L5, hL⟩ : ∃ L5 : List UInt8, L5 = L4 ++ eachS [p.p2] := ⟨_, rfl⟩
  rw [← hL] at own
  have n5 := hid (show L5.length = 24 by rw [hL, List.length_append, n4.out]; simp only [List.length_append, ln1, ln2, ln8, lnq, lnp, putN_length, eachS_len, List.length_cons, List.length_nil, stampS_length])
  have o5 := hid (own.mono hb.size)
  have e5 := hid hL
  clear hL own
  clear o4 n4
  replace B := B.below bq
  replace hb := bnext hb bq
  clear bq
  have k2 := B.cell 2 _ rfl
  go_wp2_with fail
  clear k2
  refine (putId_any _ L5 p.gr _ (o5.out.bytes) (by rw [n5.out]; decide) hpc.out.2).mono ?_
  rintro e w6 ⟨x6, rfl, own, bq⟩
  obtain ⟨L6, hL⟩ : ∃ L6 : List UInt8, L6 = L5 ++ putN p.gr.toNat 8 := ⟨_, rfl⟩
  rw [← hL] at own
  have n6 := hid (show L6.length = 32 by rw [hL, List.length_append, n5.out]; simp only [List.length_append, ln1, ln2, ln8, lnq, lnp, putN_length, eachS_len, List.length_cons, List.length_nil, stampS_length])
  have o6 := hid (own.mono hb.size)
  have e6 := hid hL
  clear hL own
  clear o5 n5
  replace B := B.below bq
  replace hb := bnext hb bq
  clear bq
  have hfin : L6 = parS p := by
    rw [e6.out, e5.out, e4.out, e3.out, e2.out, e1.out]
    simp only [parS, b0.out, b255.out, b127.out, eachS, List.append_assoc, List.nil_append, List.append_nil, List.cons_append]
  rw [hfin] at o6
  go_wp2_with fail
  go_ret
  exact ⟨_, rfl, o6.out, hb⟩

def timS2 (t : Tm) : List UInt8 := putS t.ut 2 ++ putS (t.fl % 64) 1 ++ putS t.og 1
set_option maxRecDepth 100000 in
set_option maxHeartbeats 8000000 in
theorem timesSet_any (t : Tm) (w : World) : Calls Try.prog 35 #[.agg (tmK.enc t).toArray] w (NewBytes w (timS2 t)) := by
  have z0 := bnew w (Obj.cells (tmK.enc t).toArray 26)
  have B := Box.new w (tmK.enc t) 26
  have hb := z0
  clear z0
  go_enter Try.func35, Try.ntmps35
  go_upto_region 1 with fail
  change Code.wp Try.prog _ _ _ (w.alloc (Obj.cells (tmK.enc t).toArray 26))
  generalize (w.alloc (Obj.cells (tmK.enc t).toArray 26)) = W at *
  generalize hG : w.heap.size = G at *
  rw [← hG] at hb
  have l_B : w.heap.size ≤ G := by omega
  have k0 := B.cell 0 _ rfl
  go_wp2_with fail
  clear k0
  refine (put_any _ [] t.ut 2 _ (Bytes.nil _) (by decide)).mono ?_
  rintro e w1 ⟨x1, rfl, own, bq⟩
  obtain ⟨L1, hL⟩ : ∃ L1 : List UInt8, L1 = [] ++ putS t.ut 2 := ⟨_, rfl⟩
  rw [← hL] at own
  have n1 := hid (show L1.length = 2 by rw [hL, List.length_append]; simp only [List.length_append, ln1, ln2, ln8, lnq, lnp, putN_length, eachS_len, List.length_cons, List.length_nil, stampS_length])
  have o1 := hid (own.mono hb.size)
  have e1 := hid hL
  clear hL own
  replace B := B.below bq
  replace hb := bnext hb bq
  clear bq
  have hm : bits .and .i64 t.fl 63 = t.fl % 64 := and_mask t.fl 6 (by decide)
  have k1 := B.cell 1 _ rfl
  have k2 := B.cell 2 _ rfl
  go_wp2_with fail
  clear k1 k2
  clear hm
  refine (each_2 _ L1 (t.fl % 64) t.og _ (o1.out.bytes) (by rw [n1.out]; decide)).mono ?_
  rintro e w2 ⟨x2, rfl, own, bq⟩
  obtain ⟨L2, hL⟩ : ∃ L2 : List UInt8, L2 = L1 ++ eachS [t.fl % 64, t.og] := ⟨_, rfl⟩
  rw [← hL] at own
  have n2 := hid (show L2.length = 4 by rw [hL, List.length_append, n1.out]; simp only [List.length_append, ln1, ln2, ln8, lnq, lnp, putN_length, eachS_len, List.length_cons, List.length_nil, stampS_length])
  have o2 := hid (own.mono hb.size)
  have e2 := hid hL
  clear hL own
  clear o1 n1
  replace B := B.below bq
  replace hb := bnext hb bq
  clear bq
  have hfin : L2 = timS2 t := by
    rw [e2.out, e1.out]
    simp only [timS2, eachS, List.append_assoc, List.nil_append, List.append_nil, List.cons_append]
  rw [hfin] at o2
  go_wp2_with fail
  go_ret
  exact ⟨_, rfl, o2.out, hb⟩

set_option maxRecDepth 100000 in
set_option maxHeartbeats 8000000 in
theorem portSet_false (v : Vw) (hc : 0 ≤ v.c.cl) (hp : v.c.pe = false) (w : World) : Calls Try.prog 36 #[.agg (vwK2.enc v).toArray] w (NewBytes w (porS v)) := by
  have hpe := hid hp
  have hcl := hid hc
  have hbit := hid (show 1 + bitI v.c.pe = 1 by rw [hp]; rfl)
  clear hp hc
  have z0 := bnew w (Obj.cells (vwK2.enc v).toArray 41)
  have B := Box.new w (vwK2.enc v) 41
  have hb := z0
  clear z0
  go_enter Try.func36, Try.ntmps36
  go_upto_region 1 with fail
  change Code.wp Try.prog _ _ _ (w.alloc (Obj.cells (vwK2.enc v).toArray 41))
  generalize (w.alloc (Obj.cells (vwK2.enc v).toArray 41)) = W at *
  generalize hG : w.heap.size = G at *
  rw [← hG] at hb
  have l_B : w.heap.size ≤ G := by omega
  have hn1 := bnew W (Obj.cells (cfK.enc (zeroC)).toArray 28)
  have hM0 := Box.new W (cfK.enc (zeroC)) 28
  go_upto_region 2 with (first | (guard_target =~ wpList _ _ _ (⟨some 7, _, _, _, _, _⟩ :: _) _ _; refine cfT.load (op := ⟨some 7, .load _ _, _, _, _, _⟩) (by rfl) _ (by rfl) (G) 0 (by rfl) (v.c) (vw_rc B) ?_) | (guard_target =~ wpList _ _ _ (⟨none, _, _, _, _, _⟩ :: _) _ _; refine cfT.store (op := ⟨none, .store _ _ _, _, _, _, _⟩) (by rfl) _ _ (by rfl) (W.heap.size) (v.c) (zeroC) _ (by rfl) (by rfl) hM0 ?_))
  have n_B_C : G ≠ W.heap.size := by have h1 := B.lt; have h2 := Nat.le_refl W.heap.size; omega
  have l_C : w.heap.size ≤ W.heap.size := Nat.le_trans hb.size (Nat.le_refl W.heap.size)
  have C := hM0.rowK (cfK.enc (v.c))
  replace B := (B.below hn1).rowK_other (k := W.heap.size) n_B_C (cfK.enc (v.c)).toArray
  have hW := below_setRow hn1 (Nat.le_refl _) (cfK.enc (v.c)).toArray
  replace hb := bnext hb hW
  change Code.wp Try.prog _ _ _ ((W.alloc (Obj.cells (cfK.enc (zeroC)).toArray 28)).setRow W.heap.size (cfK.enc (v.c)).toArray)
  generalize (W.alloc (Obj.cells (cfK.enc (zeroC)).toArray 28)).setRow W.heap.size (cfK.enc (v.c)).toArray = w1 at *
  clear hn1 hM0 hW
  generalize W.heap.size = GC at *
  have k0 := C.cell 0 _ rfl
  have k40 := B.cell 40 _ rfl
  go_wp2_with (guard_target =~ wpList _ _ _ (⟨some 12, _, _, _, _, _⟩ :: _) _ _; refine wpList_build_any (op := ⟨some 12, .build _ _, _, _, _, _⟩) (by rfl) _ _ (by rfl) _ (by rfl) (pzK.enc ⟨v.c.cl, v.po⟩).toArray (by kernel_rfl) ?_)
  clear k0 k40
  refine (identPut_any _ [] v.c.cl v.po _ (Bytes.nil _) (by decide) hcl.out).mono ?_
  rintro e w2 ⟨x1, rfl, own, bq⟩
  obtain ⟨L1, hL⟩ : ∃ L1 : List UInt8, L1 = [] ++ portS v.c.cl v.po := ⟨_, rfl⟩
  rw [← hL] at own
  have n1 := hid (show L1.length = 10 by rw [hL, List.length_append]; simp only [List.length_append, ln1, ln2, ln8, lnq, lnp, putN_length, eachS_len, List.length_cons, List.length_nil, stampS_length])
  have o1 := hid (own.mono hb.size)
  have e1 := hid hL
  clear hL own
  replace B := B.below bq
  replace C := C.below bq
  replace hb := bnext hb bq
  clear bq
  have k38 := B.cell 38 _ rfl
  have k11 := C.cell 11 _ rfl
  go_wp2_with fail
  clear k38 k11
  refine (each_2 _ L1 v.st v.c.ld _ (o1.out.bytes) (by rw [n1.out]; decide)).mono ?_
  rintro e w3 ⟨x2, rfl, own, bq⟩
  obtain ⟨L2, hL⟩ : ∃ L2 : List UInt8, L2 = L1 ++ eachS [v.st, v.c.ld] := ⟨_, rfl⟩
  rw [← hL] at own
  have n2 := hid (show L2.length = 12 by rw [hL, List.length_append, n1.out]; simp only [List.length_append, ln1, ln2, ln8, lnq, lnp, putN_length, eachS_len, List.length_cons, List.length_nil, stampS_length])
  have o2 := hid (own.mono hb.size)
  have e2 := hid hL
  clear hL own
  clear o1 n1
  replace B := B.below bq
  replace C := C.below bq
  replace hb := bnext hb bq
  clear bq
  have k39 := B.cell 39 _ rfl
  go_wp2_with fail
  clear k39
  refine (scaled_any v.pe _).mono ?_
  rintro e w4 ⟨rfl, rfl⟩
  go_wp2_with fail
  refine (put_any _ L2 (satI v.pe) 8 _ (o2.out.bytes) (by rw [n2.out]; decide)).mono ?_
  rintro e w5 ⟨x3, rfl, own, bq⟩
  obtain ⟨L3, hL⟩ : ∃ L3 : List UInt8, L3 = L2 ++ putS (satI v.pe) 8 := ⟨_, rfl⟩
  rw [← hL] at own
  have n3 := hid (show L3.length = 20 by rw [hL, List.length_append, n2.out]; simp only [List.length_append, ln1, ln2, ln8, lnq, lnp, putN_length, eachS_len, List.length_cons, List.length_nil, stampS_length])
  have o3 := hid (own.mono hb.size)
  have e3 := hid hL
  clear hL own
  clear o2 n2
  replace B := B.below bq
  replace C := C.below bq
  replace hb := bnext hb bq
  clear bq
  have k13 := C.cell 13 (.bool false) (by show some (Value.bool v.c.pe) = _; rw [hpe.out])
  have k9 := C.cell 9 _ rfl
  have k10 := C.cell 10 _ rfl
  have k11 := C.cell 11 _ rfl
  have k12 := C.cell 12 _ rfl
  go_wp2_with fail
  clear k13 k9 k10 k11 k12
  refine (each_6 _ L3 v.c.la v.c.tm v.c.ls 1 v.c.ld 2 _ (o3.out.bytes) (by rw [n3.out]; decide)).mono ?_
  rintro e w6 ⟨x4, rfl, own, bq⟩
  obtain ⟨L4, hL⟩ : ∃ L4 : List UInt8, L4 = L3 ++ eachS [v.c.la, v.c.tm, v.c.ls, 1, v.c.ld, 2] := ⟨_, rfl⟩
  rw [← hL] at own
  have n4 := hid (show L4.length = 26 by rw [hL, List.length_append, n3.out]; simp only [List.length_append, ln1, ln2, ln8, lnq, lnp, putN_length, eachS_len, List.length_cons, List.length_nil, stampS_length])
  have o4 := hid (own.mono hb.size)
  have e4 := hid hL
  clear hL own
  clear o3 n3
  replace B := B.below bq
  replace C := C.below bq
  replace hb := bnext hb bq
  clear bq
  have hfin : L4 = porS v := by
    rw [e4.out, e3.out, e2.out, e1.out]
    simp only [porS, hbit.out, eachS, List.append_assoc, List.nil_append, List.append_nil, List.cons_append]
  rw [hfin] at o4
  go_wp2_with fail
  go_ret
  exact ⟨_, rfl, o4.out, hb⟩

set_option maxRecDepth 100000 in
set_option maxHeartbeats 8000000 in
theorem portSet_true (v : Vw) (hc : 0 ≤ v.c.cl) (hp : v.c.pe = true) (w : World) : Calls Try.prog 36 #[.agg (vwK2.enc v).toArray] w (NewBytes w (porS v)) := by
  have hpe := hid hp
  have hcl := hid hc
  have hbit := hid (show 1 + bitI v.c.pe = 2 by rw [hp]; rfl)
  clear hp hc
  have z0 := bnew w (Obj.cells (vwK2.enc v).toArray 41)
  have B := Box.new w (vwK2.enc v) 41
  have hb := z0
  clear z0
  go_enter Try.func36, Try.ntmps36
  go_upto_region 1 with fail
  change Code.wp Try.prog _ _ _ (w.alloc (Obj.cells (vwK2.enc v).toArray 41))
  generalize (w.alloc (Obj.cells (vwK2.enc v).toArray 41)) = W at *
  generalize hG : w.heap.size = G at *
  rw [← hG] at hb
  have l_B : w.heap.size ≤ G := by omega
  have hn1 := bnew W (Obj.cells (cfK.enc (zeroC)).toArray 28)
  have hM0 := Box.new W (cfK.enc (zeroC)) 28
  go_upto_region 2 with (first | (guard_target =~ wpList _ _ _ (⟨some 7, _, _, _, _, _⟩ :: _) _ _; refine cfT.load (op := ⟨some 7, .load _ _, _, _, _, _⟩) (by rfl) _ (by rfl) (G) 0 (by rfl) (v.c) (vw_rc B) ?_) | (guard_target =~ wpList _ _ _ (⟨none, _, _, _, _, _⟩ :: _) _ _; refine cfT.store (op := ⟨none, .store _ _ _, _, _, _, _⟩) (by rfl) _ _ (by rfl) (W.heap.size) (v.c) (zeroC) _ (by rfl) (by rfl) hM0 ?_))
  have n_B_C : G ≠ W.heap.size := by have h1 := B.lt; have h2 := Nat.le_refl W.heap.size; omega
  have l_C : w.heap.size ≤ W.heap.size := Nat.le_trans hb.size (Nat.le_refl W.heap.size)
  have C := hM0.rowK (cfK.enc (v.c))
  replace B := (B.below hn1).rowK_other (k := W.heap.size) n_B_C (cfK.enc (v.c)).toArray
  have hW := below_setRow hn1 (Nat.le_refl _) (cfK.enc (v.c)).toArray
  replace hb := bnext hb hW
  change Code.wp Try.prog _ _ _ ((W.alloc (Obj.cells (cfK.enc (zeroC)).toArray 28)).setRow W.heap.size (cfK.enc (v.c)).toArray)
  generalize (W.alloc (Obj.cells (cfK.enc (zeroC)).toArray 28)).setRow W.heap.size (cfK.enc (v.c)).toArray = w1 at *
  clear hn1 hM0 hW
  generalize W.heap.size = GC at *
  have k0 := C.cell 0 _ rfl
  have k40 := B.cell 40 _ rfl
  go_wp2_with (guard_target =~ wpList _ _ _ (⟨some 12, _, _, _, _, _⟩ :: _) _ _; refine wpList_build_any (op := ⟨some 12, .build _ _, _, _, _, _⟩) (by rfl) _ _ (by rfl) _ (by rfl) (pzK.enc ⟨v.c.cl, v.po⟩).toArray (by kernel_rfl) ?_)
  clear k0 k40
  refine (identPut_any _ [] v.c.cl v.po _ (Bytes.nil _) (by decide) hcl.out).mono ?_
  rintro e w2 ⟨x1, rfl, own, bq⟩
  obtain ⟨L1, hL⟩ : ∃ L1 : List UInt8, L1 = [] ++ portS v.c.cl v.po := ⟨_, rfl⟩
  rw [← hL] at own
  have n1 := hid (show L1.length = 10 by rw [hL, List.length_append]; simp only [List.length_append, ln1, ln2, ln8, lnq, lnp, putN_length, eachS_len, List.length_cons, List.length_nil, stampS_length])
  have o1 := hid (own.mono hb.size)
  have e1 := hid hL
  clear hL own
  replace B := B.below bq
  replace C := C.below bq
  replace hb := bnext hb bq
  clear bq
  have k38 := B.cell 38 _ rfl
  have k11 := C.cell 11 _ rfl
  go_wp2_with fail
  clear k38 k11
  refine (each_2 _ L1 v.st v.c.ld _ (o1.out.bytes) (by rw [n1.out]; decide)).mono ?_
  rintro e w3 ⟨x2, rfl, own, bq⟩
  obtain ⟨L2, hL⟩ : ∃ L2 : List UInt8, L2 = L1 ++ eachS [v.st, v.c.ld] := ⟨_, rfl⟩
  rw [← hL] at own
  have n2 := hid (show L2.length = 12 by rw [hL, List.length_append, n1.out]; simp only [List.length_append, ln1, ln2, ln8, lnq, lnp, putN_length, eachS_len, List.length_cons, List.length_nil, stampS_length])
  have o2 := hid (own.mono hb.size)
  have e2 := hid hL
  clear hL own
  clear o1 n1
  replace B := B.below bq
  replace C := C.below bq
  replace hb := bnext hb bq
  clear bq
  have k39 := B.cell 39 _ rfl
  go_wp2_with fail
  clear k39
  refine (scaled_any v.pe _).mono ?_
  rintro e w4 ⟨rfl, rfl⟩
  go_wp2_with fail
  refine (put_any _ L2 (satI v.pe) 8 _ (o2.out.bytes) (by rw [n2.out]; decide)).mono ?_
  rintro e w5 ⟨x3, rfl, own, bq⟩
  obtain ⟨L3, hL⟩ : ∃ L3 : List UInt8, L3 = L2 ++ putS (satI v.pe) 8 := ⟨_, rfl⟩
  rw [← hL] at own
  have n3 := hid (show L3.length = 20 by rw [hL, List.length_append, n2.out]; simp only [List.length_append, ln1, ln2, ln8, lnq, lnp, putN_length, eachS_len, List.length_cons, List.length_nil, stampS_length])
  have o3 := hid (own.mono hb.size)
  have e3 := hid hL
  clear hL own
  clear o2 n2
  replace B := B.below bq
  replace C := C.below bq
  replace hb := bnext hb bq
  clear bq
  have k13 := C.cell 13 (.bool true) (by show some (Value.bool v.c.pe) = _; rw [hpe.out])
  have k9 := C.cell 9 _ rfl
  have k10 := C.cell 10 _ rfl
  have k11 := C.cell 11 _ rfl
  have k12 := C.cell 12 _ rfl
  go_wp2_with fail
  clear k13 k9 k10 k11 k12
  refine (each_6 _ L3 v.c.la v.c.tm v.c.ls 2 v.c.ld 2 _ (o3.out.bytes) (by rw [n3.out]; decide)).mono ?_
  rintro e w6 ⟨x4, rfl, own, bq⟩
  obtain ⟨L4, hL⟩ : ∃ L4 : List UInt8, L4 = L3 ++ eachS [v.c.la, v.c.tm, v.c.ls, 2, v.c.ld, 2] := ⟨_, rfl⟩
  rw [← hL] at own
  have n4 := hid (show L4.length = 26 by rw [hL, List.length_append, n3.out]; simp only [List.length_append, ln1, ln2, ln8, lnq, lnp, putN_length, eachS_len, List.length_cons, List.length_nil, stampS_length])
  have o4 := hid (own.mono hb.size)
  have e4 := hid hL
  clear hL own
  clear o3 n3
  replace B := B.below bq
  replace C := C.below bq
  replace hb := bnext hb bq
  clear bq
  have hfin : L4 = porS v := by
    rw [e4.out, e3.out, e2.out, e1.out]
    simp only [porS, hbit.out, eachS, List.append_assoc, List.nil_append, List.append_nil, List.cons_append]
  rw [hfin] at o4
  go_wp2_with fail
  go_ret
  exact ⟨_, rfl, o4.out, hb⟩

theorem portSet_any (v : Vw) (hc : 0 ≤ v.c.cl) (w : World) : Calls Try.prog 36 #[.agg (vwK2.enc v).toArray] w (NewBytes w (porS v)) := by
  cases h : v.c.pe
  · exact portSet_false v hc h w
  · exact portSet_true v hc h w
end Go.Proofs.Ytgjffmhlehcoiaa
