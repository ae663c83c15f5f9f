/- The document's own answers of chapter 14 (and Own of chapter 11) (gen_parlaws.py). -/
import Derived.Test.YtdknecekebmkmaaPar
import Derived.Test.YtdknecekebmkmaaBuild
namespace Go.Proofs.Ytdknecekebmkmaa
open Go.RowKit Go.Proofs
set_option maxRecDepth 50000
set_option linter.unusedVariables false
set_option linter.unusedSimpArgs false

set_option maxRecDepth 100000 in
set_option maxHeartbeats 8000000 in
theorem refOwnP_any (c : Cf) (w : World) : Calls Try.prog 7 #[.agg (cfK.enc c).toArray] w fun e w' => e = .returned (.agg (paK.enc (ownP c)).toArray) ∧ Below w.heap.size w w' := by
  have z0 := bnew w (Obj.cells (cfL c).toArray 28)
  have hC := Box.new w (cfL c) 28
  have z1 := bnew (w.alloc (Obj.cells (cfL c).toArray 28)) (Obj.cells (paL zeroPa).toArray 34)
  have hN := Box.new (w.alloc (Obj.cells (cfL c).toArray 28)) (paL zeroPa) 34
  replace hC := hC.below z1
  have hb := z0
  replace hb := bnext hb z1
  clear z0
  clear z1
  have s1 : (w.alloc (Obj.cells (cfL c).toArray 28)).heap.size = w.heap.size + 1 := by simp
  rw [s1] at hN
  go_enter Try.func7, Try.ntmps7
  go_upto_region 1 with fail
  change Code.wp Try.prog _ _ _ ((w.alloc (Obj.cells (cfL c).toArray 28)).alloc (Obj.cells (paL zeroPa).toArray 34))
  generalize ((w.alloc (Obj.cells (cfL c).toArray 28)).alloc (Obj.cells (paL zeroPa).toArray 34)) = W at *
  clear s1
  have c0 := hC.cell 0 _ rfl
  have c3 := hC.cell 3 _ rfl
  have c4 := hC.cell 4 _ rfl
  have c5 := hC.cell 5 _ rfl
  have c6 := hC.cell 6 _ rfl
  have c7 := hC.cell 7 _ rfl
  have c19 := hC.cell 19 _ rfl
  have c20 := hC.cell 20 _ rfl
  have c21 := hC.cell 21 _ rfl
  clear hC
  generalize hG : w.heap.size = G at *
  rw [← hG] at hb
  go_wp2_with (guard_target =~ wpList _ _ _ (⟨none, _, _, _, _, _⟩ :: _) _ _; refine paT.store (op := ⟨none, .store _ _ _, _, _, _, _⟩) (by rfl) _ _ (by rfl) (G + 1) (ownP c) (zeroPa) _ (by rfl) (by rfl) hN ?_)
  exact bodyPost_ret (v := .agg (paK.enc (ownP c)).toArray) (paT.result rfl _ _ (G + 1) _ _ rfl (hN.rowK _)) rfl ⟨rfl, below_setRow hb (by omega) _⟩

set_option maxRecDepth 100000 in
set_option maxHeartbeats 8000000 in
theorem refFollow_any (v : Vc) (t : Tm) (w : World) : Calls Try.prog 9 #[.agg (vecK.enc v).toArray, .agg (tmK.enc t).toArray] w fun e w' => e = .returned (.agg (paK.enc (folP v t)).toArray) ∧ Below w.heap.size w w' := by
  have z0 := bnew w (Obj.cells (vcL v).toArray 32)
  have hV := Box.new w (vcL v) 32
  have z1 := bnew (w.alloc (Obj.cells (vcL v).toArray 32)) (Obj.cells (tmL t).toArray 26)
  have hT := Box.new (w.alloc (Obj.cells (vcL v).toArray 32)) (tmL t) 26
  replace hV := hV.below z1
  have z2 := bnew ((w.alloc (Obj.cells (vcL v).toArray 32)).alloc (Obj.cells (tmL t).toArray 26)) (Obj.cells (paL zeroPa).toArray 34)
  have hN := Box.new ((w.alloc (Obj.cells (vcL v).toArray 32)).alloc (Obj.cells (tmL t).toArray 26)) (paL zeroPa) 34
  replace hV := hV.below z2
  replace hT := hT.below z2
  have hb := z0
  replace hb := bnext hb z1
  replace hb := bnext hb z2
  clear z0
  clear z1
  clear z2
  have s1 : (w.alloc (Obj.cells (vcL v).toArray 32)).heap.size = w.heap.size + 1 := by simp
  rw [s1] at hT
  have s2 : ((w.alloc (Obj.cells (vcL v).toArray 32)).alloc (Obj.cells (tmL t).toArray 26)).heap.size = w.heap.size + 1 + 1 := by simp
  rw [s2] at hN
  go_enter Try.func9, Try.ntmps9
  go_upto_region 1 with fail
  change Code.wp Try.prog _ _ _ (((w.alloc (Obj.cells (vcL v).toArray 32)).alloc (Obj.cells (tmL t).toArray 26)).alloc (Obj.cells (paL zeroPa).toArray 34))
  generalize (((w.alloc (Obj.cells (vcL v).toArray 32)).alloc (Obj.cells (tmL t).toArray 26)).alloc (Obj.cells (paL zeroPa).toArray 34)) = W at *
  clear s1 s2
  have c0 := hV.cell 0 _ rfl
  have c1 := hV.cell 1 _ rfl
  have c2 := hV.cell 2 _ rfl
  have c3 := hV.cell 3 _ rfl
  have c4 := hV.cell 4 _ rfl
  have c5 := hV.cell 5 _ rfl
  have c6 := hV.cell 6 _ rfl
  have c7 := hV.cell 7 _ rfl
  have c8 := hV.cell 8 _ rfl
  have d0 := hT.cell 0 _ rfl
  have d1 := hT.cell 1 _ rfl
  have d2 := hT.cell 2 _ rfl
  clear hV hT
  generalize hG : w.heap.size = G at *
  rw [← hG] at hb
  go_wp2_with (guard_target =~ wpList _ _ _ (⟨none, _, _, _, _, _⟩ :: _) _ _; refine paT.store (op := ⟨none, .store _ _ _, _, _, _, _⟩) (by rfl) _ _ (by rfl) (G + 1 + 1) (folP v t) (zeroPa) _ (by rfl) (by rfl) hN ?_)
  exact bodyPost_ret (v := .agg (paK.enc (folP v t)).toArray) (paT.result rfl _ _ (G + 1 + 1) _ _ rfl (hN.rowK _)) rfl ⟨rfl, below_setRow hb (by omega) _⟩

set_option maxRecDepth 100000 in
set_option maxHeartbeats 8000000 in
theorem refSay_any (c : Cf) (p : Pa) (port seq : Int) (w : World) : Calls Try.prog 11 #[.agg (cfK.enc c).toArray, .agg (paK.enc p).toArray, .int .i64 port, .int .i64 seq] w fun e w' => e = .returned (.agg (msK.enc (sayM c p port seq)).toArray) ∧ Below w.heap.size w w' := by
  have z0 := bnew w (Obj.cells (cfL c).toArray 28)
  have hC := Box.new w (cfL c) 28
  have z1 := bnew (w.alloc (Obj.cells (cfL c).toArray 28)) (Obj.cells (paL p).toArray 34)
  have hP := Box.new (w.alloc (Obj.cells (cfL c).toArray 28)) (paL p) 34
  replace hC := hC.below z1
  have z2 := bnew ((w.alloc (Obj.cells (cfL c).toArray 28)).alloc (Obj.cells (paL p).toArray 34)) (Obj.cells (msgF hd0 bd0).toArray 38)
  have hN := Box.new ((w.alloc (Obj.cells (cfL c).toArray 28)).alloc (Obj.cells (paL p).toArray 34)) (msgF hd0 bd0) 38
  replace hC := hC.below z2
  replace hP := hP.below z2
  have hb := z0
  replace hb := bnext hb z1
  replace hb := bnext hb z2
  clear z0
  clear z1
  clear z2
  have s1 : (w.alloc (Obj.cells (cfL c).toArray 28)).heap.size = w.heap.size + 1 := by simp
  rw [s1] at hP
  have s2 : ((w.alloc (Obj.cells (cfL c).toArray 28)).alloc (Obj.cells (paL p).toArray 34)).heap.size = w.heap.size + 1 + 1 := by simp
  rw [s2] at hN
  go_enter Try.func11, Try.ntmps11
  go_upto_region 1 with fail
  change Code.wp Try.prog _ _ _ (((w.alloc (Obj.cells (cfL c).toArray 28)).alloc (Obj.cells (paL p).toArray 34)).alloc (Obj.cells (msgF hd0 bd0).toArray 38))
  generalize (((w.alloc (Obj.cells (cfL c).toArray 28)).alloc (Obj.cells (paL p).toArray 34)).alloc (Obj.cells (msgF hd0 bd0).toArray 38)) = W at *
  clear s1 s2
  have c0 := hC.cell 0 _ rfl
  have c2 := hC.cell 2 _ rfl
  have c9 := hC.cell 9 _ rfl
  have d10 := hP.cell 10 _ rfl
  generalize hG : w.heap.size = G at *
  rw [← hG] at hb
  obtain ⟨m1, hm1⟩ : ∃ m1 : Hd × Bd, m1 = (⟨11, c.dm, p.fl, 0, c.cl, port, seq, c.la⟩, bd0) := ⟨_, rfl⟩
  replace hm1 := hid hm1
  have hn1 := bnew W (Obj.cells (msK.enc zeroM).toArray 38)
  have hN0 : G + 2 < W.heap.size := hN.lt
  have hM0 := Box.new W (msK.enc zeroM) 38
  go_upto_region 2 with (first | (guard_target =~ wpList _ _ _ (⟨some 22, _, _, _, _, _⟩ :: _) _ _; refine wpList_build_any (op := ⟨some 22, .build _ _, _, _, _, _⟩) (by rfl) _ _ (by rfl) _ (by rfl) (msK.enc m1).toArray (by rw [hm1.out]; kernel_rfl) ?_) | (guard_target =~ wpList _ _ _ (⟨none, _, _, _, _, _⟩ :: _) _ _; refine msT.store (op := ⟨none, .store _ _ _, _, _, _, _⟩) (by rfl) _ _ (by rfl) (W.heap.size) (m1) (zeroM) _ (by rfl) (by rfl) hM0 ?_))
  have hM := hM0.rowK (msK.enc m1)
  replace hP := (hP.below hn1).rowK_other (k := W.heap.size) (by have := hP.lt; omega) (msK.enc m1).toArray
  replace hN := (hN.below hn1).rowK_other (k := W.heap.size) (by have := hN.lt; omega) (msK.enc m1).toArray
  have hg9 : w.heap.size ≤ W.heap.size := hb.size
  have hn9 : G + 1 + 1 ≠ W.heap.size := by have := hN0; omega
  have hne : G + 1 ≠ W.heap.size := by have := hN0; omega
  replace hb := below_setRow (bnext hb hn1) hg9 (msK.enc m1).toArray
  change Code.wp Try.prog _ _ _ ((W.alloc (Obj.cells (msK.enc zeroM).toArray 38)).setRow W.heap.size (msK.enc m1).toArray)
  generalize (W.alloc (Obj.cells (msK.enc zeroM).toArray 38)).setRow W.heap.size (msK.enc m1).toArray = W1 at *
  generalize W.heap.size = g9 at *
  generalize hgp : G + 1 = gp at *
  clear hn1 hM0 c0 c2 c9 d10 hC hN0
  rw [hm1.out] at hM
  refine wp_region_held_drew (S := fun w' => Box w' gp (paL p) 34) (by kernel_rfl) (hP.below (Below.drew (Below.refl _ _))) ?_
  intro hS
  have hbd := Below.drew (Below.refl W1.heap.size W1)
  replace hM := hM.below hbd
  replace hN := hN.below hbd
  replace hb := bnext hb hbd
  clear hbd hP
  generalize W1.drew = WD at *
  refine rtake 0 rfl (by rfl) (by kernel_rfl) (by kernel_rfl) (by kernel_rfl) (fun _ _ _ h => h) hS (fun wx hwx => by go_simp; try with_reducible rfl) ?_
  try simp only [Act.put, List.setIfInBounds_toArray, List.set_cons_zero, List.set_cons_succ]
  refine rtake 1 rfl (by rfl) (by kernel_rfl) (by kernel_rfl) (by kernel_rfl) (fun _ _ _ h => h) hS (fun wx hwx => by go_simp; try with_reducible rfl) ?_
  try simp only [Act.put, List.setIfInBounds_toArray, List.set_cons_zero, List.set_cons_succ]
  refine rtake 2 rfl (by rfl) (by kernel_rfl) (by kernel_rfl) (by kernel_rfl) (fun _ _ _ h => h) hS (fun wx hwx => by have q9 := hwx.cell 9 _ rfl; go_simp; try with_reducible rfl) ?_
  try simp only [Act.put, List.setIfInBounds_toArray, List.set_cons_zero, List.set_cons_succ]
  refine rtake 3 rfl (by rfl) (by kernel_rfl) (by kernel_rfl) (by kernel_rfl) (fun _ _ _ h => h) hS (fun wx hwx => by go_simp; try with_reducible rfl) ?_
  try simp only [Act.put, List.setIfInBounds_toArray, List.set_cons_zero, List.set_cons_succ]
  refine rtake 4 rfl (by rfl) (by kernel_rfl) (by kernel_rfl) (by kernel_rfl) (fun _ _ _ h => h) hS (fun wx hwx => by go_simp; try with_reducible rfl) ?_
  try simp only [Act.put, List.setIfInBounds_toArray, List.set_cons_zero, List.set_cons_succ]
  refine rtake 5 rfl (by rfl) (by kernel_rfl) (by kernel_rfl) (by kernel_rfl) (fun _ _ _ h => h) hS (fun wx hwx => by have q11 := hwx.cell 11 _ rfl; go_simp; try with_reducible rfl) ?_
  try simp only [Act.put, List.setIfInBounds_toArray, List.set_cons_zero, List.set_cons_succ]
  refine rtake 6 rfl (by rfl) (by kernel_rfl) (by kernel_rfl) (by kernel_rfl) (fun _ _ _ h => h) hS (fun wx hwx => by go_simp; try with_reducible rfl) ?_
  try simp only [Act.put, List.setIfInBounds_toArray, List.set_cons_zero, List.set_cons_succ]
  have hc := hM.cell 11 _ rfl
  have hf := hM.free 11
  refine rcall 7 rfl (by kernel_rfl) (by rfl) (fun K' hK => ?_)
  go_simp
  have hM2 := hM.set 11 (.int .i64 p.ut)
  have hS2 := hS.other hne 11 (.int .i64 p.ut)
  replace hb := hb.setCell (p := ⟨g9, 11, none⟩) hg9 (.int .i64 p.ut)
  replace hN := hN.other hn9 11 (.int .i64 p.ut)
  refine hK.out _ _ hS2 ?_
  clear hK K' hc hf hS hM
  have hS := hS2
  have hM := hM2
  clear hS2 hM2
  generalize World.setCell _ _ _ = WS at *
  try simp only [Act.put, List.setIfInBounds_toArray, List.set_cons_zero, List.set_cons_succ]
  refine rtake 8 rfl (by rfl) (by kernel_rfl) (by kernel_rfl) (by kernel_rfl) (fun _ _ _ h => h) hS (fun wx hwx => by go_simp; try with_reducible rfl) ?_
  try simp only [Act.put, List.setIfInBounds_toArray, List.set_cons_zero, List.set_cons_succ]
  have hc := hM.cell 19 _ rfl
  have hf := hM.free 19
  refine rcall 9 rfl (by kernel_rfl) (by rfl) (fun K' hK => ?_)
  go_simp
  have hM2 := hM.set 19 (.int .i64 p.og)
  have hS2 := hS.other hne 19 (.int .i64 p.og)
  replace hb := hb.setCell (p := ⟨g9, 19, none⟩) hg9 (.int .i64 p.og)
  replace hN := hN.other hn9 19 (.int .i64 p.og)
  refine hK.out _ _ hS2 ?_
  clear hK K' hc hf hS hM
  have hS := hS2
  have hM := hM2
  clear hS2 hM2
  generalize World.setCell _ _ _ = WS at *
  try simp only [Act.put, List.setIfInBounds_toArray, List.set_cons_zero, List.set_cons_succ]
  refine wpAnyH_done (by kernel_rfl) ?_ _
  have hP := hS
  clear hS
  go_upto_region 3 with fail
  refine wp_region_held_drew (S := fun w' => Box w' gp (paL p) 34) (by kernel_rfl) (hP.below (Below.drew (Below.refl _ _))) ?_
  intro hS
  have hbd := Below.drew (Below.refl WS.heap.size WS)
  replace hM := hM.below hbd
  replace hN := hN.below hbd
  replace hb := bnext hb hbd
  clear hbd hP
  generalize WS.drew = WD at *
  refine rtake 0 rfl (by rfl) (by kernel_rfl) (by kernel_rfl) (by kernel_rfl) (fun _ _ _ h => h) hS (fun wx hwx => by go_simp; try with_reducible rfl) ?_
  try simp only [Act.put, List.setIfInBounds_toArray, List.set_cons_zero, List.set_cons_succ]
  refine rtake 1 rfl (by rfl) (by kernel_rfl) (by kernel_rfl) (by kernel_rfl) (fun _ _ _ h => h) hS (fun wx hwx => by have q6 := hwx.cell 6 _ rfl; go_simp; try with_reducible rfl) ?_
  try simp only [Act.put, List.setIfInBounds_toArray, List.set_cons_zero, List.set_cons_succ]
  refine rtake 2 rfl (by rfl) (by kernel_rfl) (by kernel_rfl) (by kernel_rfl) (fun _ _ _ h => h) hS (fun wx hwx => by go_simp; try with_reducible rfl) ?_
  try simp only [Act.put, List.setIfInBounds_toArray, List.set_cons_zero, List.set_cons_succ]
  refine rtake 3 rfl (by rfl) (by kernel_rfl) (by kernel_rfl) (by kernel_rfl) (fun _ _ _ h => h) hS (fun wx hwx => by have q7 := hwx.cell 7 _ rfl; go_simp; try with_reducible rfl) ?_
  try simp only [Act.put, List.setIfInBounds_toArray, List.set_cons_zero, List.set_cons_succ]
  refine rtake 4 rfl (by rfl) (by kernel_rfl) (by kernel_rfl) (by kernel_rfl) (fun _ _ _ h => h) hS (fun wx hwx => by go_simp; try with_reducible rfl) ?_
  try simp only [Act.put, List.setIfInBounds_toArray, List.set_cons_zero, List.set_cons_succ]
  refine rtake 5 rfl (by rfl) (by kernel_rfl) (by kernel_rfl) (by kernel_rfl) (fun _ _ _ h => h) hS (fun wx hwx => by have q3 := hwx.cell 3 _ rfl; have q4 := hwx.cell 4 _ rfl; have q5 := hwx.cell 5 _ rfl; go_simp; try with_reducible rfl) ?_
  try simp only [Act.put, List.setIfInBounds_toArray, List.set_cons_zero, List.set_cons_succ]
  refine rtake 6 rfl (by rfl) (by kernel_rfl) (by kernel_rfl) (by kernel_rfl) (fun _ _ _ h => h) hS (fun wx hwx => by go_simp; try with_reducible rfl) ?_
  try simp only [Act.put, List.setIfInBounds_toArray, List.set_cons_zero, List.set_cons_succ]
  refine rtake 7 rfl (by rfl) (by kernel_rfl) (by kernel_rfl) (by kernel_rfl) (fun _ _ _ h => h) hS (fun wx hwx => by have q2 := hwx.cell 2 _ rfl; go_simp; try with_reducible rfl) ?_
  try simp only [Act.put, List.setIfInBounds_toArray, List.set_cons_zero, List.set_cons_succ]
  refine rtake 8 rfl (by rfl) (by kernel_rfl) (by kernel_rfl) (by kernel_rfl) (fun _ _ _ h => h) hS (fun wx hwx => by go_simp; try with_reducible rfl) ?_
  try simp only [Act.put, List.setIfInBounds_toArray, List.set_cons_zero, List.set_cons_succ]
  refine rtake 9 rfl (by rfl) (by kernel_rfl) (by kernel_rfl) (by kernel_rfl) (fun _ _ _ h => h) hS (fun wx hwx => by have q8 := hwx.cell 8 _ rfl; go_simp; try with_reducible rfl) ?_
  try simp only [Act.put, List.setIfInBounds_toArray, List.set_cons_zero, List.set_cons_succ]
  refine rtake 10 rfl (by rfl) (by kernel_rfl) (by kernel_rfl) (by kernel_rfl) (fun _ _ _ h => h) hS (fun wx hwx => by go_simp; try with_reducible rfl) ?_
  try simp only [Act.put, List.setIfInBounds_toArray, List.set_cons_zero, List.set_cons_succ]
  have hc := hM.cell 12 _ rfl
  have hf := hM.free 12
  refine rcall 11 rfl (by kernel_rfl) (by rfl) (fun K' hK => ?_)
  go_simp
  have hM2 := hM.set 12 (.int .i64 p.p1)
  have hS2 := hS.other hne 12 (.int .i64 p.p1)
  replace hb := hb.setCell (p := ⟨g9, 12, none⟩) hg9 (.int .i64 p.p1)
  replace hN := hN.other hn9 12 (.int .i64 p.p1)
  refine hK.out _ _ hS2 ?_
  clear hK K' hc hf hS hM
  have hS := hS2
  have hM := hM2
  clear hS2 hM2
  generalize World.setCell _ _ _ = WS at *
  try simp only [Act.put, List.setIfInBounds_toArray, List.set_cons_zero, List.set_cons_succ]
  refine rtake 12 rfl (by rfl) (by kernel_rfl) (by kernel_rfl) (by kernel_rfl) (fun _ _ _ h => h) hS (fun wx hwx => by go_simp; try with_reducible rfl) ?_
  try simp only [Act.put, List.setIfInBounds_toArray, List.set_cons_zero, List.set_cons_succ]
  have hc := hM.cell 16 _ rfl
  have hf := hM.free 16
  refine rcall 13 rfl (by kernel_rfl) (by rfl) (fun K' hK => ?_)
  go_simp
  have hM2 := hM.set 16 (.int .i64 p.p2)
  have hS2 := hS.other hne 16 (.int .i64 p.p2)
  replace hb := hb.setCell (p := ⟨g9, 16, none⟩) hg9 (.int .i64 p.p2)
  replace hN := hN.other hn9 16 (.int .i64 p.p2)
  refine hK.out _ _ hS2 ?_
  clear hK K' hc hf hS hM
  have hS := hS2
  have hM := hM2
  clear hS2 hM2
  generalize World.setCell _ _ _ = WS at *
  try simp only [Act.put, List.setIfInBounds_toArray, List.set_cons_zero, List.set_cons_succ]
  refine rtake 14 rfl (by rfl) (by kernel_rfl) (by kernel_rfl) (by kernel_rfl) (fun _ _ _ h => h) hS (fun wx hwx => by go_simp; try with_reducible rfl) ?_
  try simp only [Act.put, List.setIfInBounds_toArray, List.set_cons_zero, List.set_cons_succ]
  have hc13 := hM.cell 13 _ rfl
  have hf13 := hM.free 13
  have hc14 := hM.cell 14 _ rfl
  have hf14 := hM.free 14
  have hc15 := hM.cell 15 _ rfl
  have hf15 := hM.free 15
  refine rcall 15 rfl (by kernel_rfl) (by rfl) (fun K' hK => ?_)
  go_simp
  have hM2 := ((hM.set 13 (.int .i64 p.qc)).set 14 (.int .i64 p.qa)).set 15 (.int .i64 p.qv)
  have hS2 := ((hS.other hne 13 (.int .i64 p.qc)).other hne 14 (.int .i64 p.qa)).other hne 15 (.int .i64 p.qv)
  replace hb := ((hb.setCell (p := ⟨g9, 13, none⟩) hg9 (.int .i64 p.qc)).setCell (p := ⟨g9, 14, none⟩) hg9 (.int .i64 p.qa)).setCell (p := ⟨g9, 15, none⟩) hg9 (.int .i64 p.qv)
  replace hN := ((hN.other hn9 13 (.int .i64 p.qc)).other hn9 14 (.int .i64 p.qa)).other hn9 15 (.int .i64 p.qv)
  refine hK.out _ _ hS2 ?_
  clear hK K' hc13 hc14 hc15 hf13 hf14 hf15 hS hM
  have hS := hS2
  have hM := hM2
  clear hS2 hM2
  generalize World.setCell _ _ _ = WS at *
  try simp only [Act.put, List.setIfInBounds_toArray, List.set_cons_zero, List.set_cons_succ]
  refine rtake 16 rfl (by rfl) (by kernel_rfl) (by kernel_rfl) (by kernel_rfl) (fun _ _ _ h => h) hS (fun wx hwx => by go_simp; try with_reducible rfl) ?_
  try simp only [Act.put, List.setIfInBounds_toArray, List.set_cons_zero, List.set_cons_succ]
  have hc := hM.cell 17 _ rfl
  have hf := hM.free 17
  refine rcall 17 rfl (by kernel_rfl) (by rfl) (fun K' hK => ?_)
  go_simp
  have hM2 := hM.set 17 (.int .u64 p.gr)
  have hS2 := hS.other hne 17 (.int .u64 p.gr)
  replace hb := hb.setCell (p := ⟨g9, 17, none⟩) hg9 (.int .u64 p.gr)
  replace hN := hN.other hn9 17 (.int .u64 p.gr)
  refine hK.out _ _ hS2 ?_
  clear hK K' hc hf hS hM
  have hS := hS2
  have hM := hM2
  clear hS2 hM2
  generalize World.setCell _ _ _ = WS at *
  try simp only [Act.put, List.setIfInBounds_toArray, List.set_cons_zero, List.set_cons_succ]
  refine rtake 18 rfl (by rfl) (by kernel_rfl) (by kernel_rfl) (by kernel_rfl) (fun _ _ _ h => h) hS (fun wx hwx => by go_simp; try with_reducible rfl) ?_
  try simp only [Act.put, List.setIfInBounds_toArray, List.set_cons_zero, List.set_cons_succ]
  have hc := hM.cell 18 _ rfl
  have hf := hM.free 18
  refine rcall 19 rfl (by kernel_rfl) (by rfl) (fun K' hK => ?_)
  go_simp
  have hM2 := hM.set 18 (.int .i64 p.st)
  have hS2 := hS.other hne 18 (.int .i64 p.st)
  replace hb := hb.setCell (p := ⟨g9, 18, none⟩) hg9 (.int .i64 p.st)
  replace hN := hN.other hn9 18 (.int .i64 p.st)
  refine hK.out _ _ hS2 ?_
  clear hK K' hc hf hS hM
  have hS := hS2
  have hM := hM2
  clear hS2 hM2
  generalize World.setCell _ _ _ = WS at *
  try simp only [Act.put, List.setIfInBounds_toArray, List.set_cons_zero, List.set_cons_succ]
  refine wpAnyH_done (by kernel_rfl) ?_ _
  clear hS
  replace hM : Box _ g9 (msK.enc (sayM c p port seq)) 38 := hM
  go_wp2_with (first | (guard_target =~ wpList _ _ _ (⟨some 46, _, _, _, _, _⟩ :: _) _ _; refine msT.load (op := ⟨some 46, .load _ _, _, _, _, _⟩) (by rfl) _ (by rfl) g9 0 (by rfl) (sayM c p port seq) hM.rangeK ?_) | (guard_target =~ wpList _ _ _ (⟨none, _, _, _, _, _⟩ :: _) _ _; refine msT.store (op := ⟨none, .store _ _ _, _, _, _, _⟩) (by rfl) _ _ (by rfl) (gp + 1) (sayM c p port seq) (zeroM) _ (by rfl) (by rfl) hN ?_))
  exact bodyPost_ret (v := .agg (msK.enc (sayM c p port seq)).toArray) (msT.result rfl _ _ (gp + 1) _ _ rfl (hN.rowK _)) rfl ⟨rfl, below_setRow hb (by omega) _⟩

set_option maxRecDepth 100000 in
set_option maxHeartbeats 8000000 in
theorem refOwn11_any (c : Cf) (w : World) : Calls Try.prog 14 #[.agg (cfK.enc c).toArray] w fun e w' => e = .returned (.agg (vecK.enc (ownV c)).toArray) ∧ Below w.heap.size w w' := by
  have z0 := bnew w (Obj.cells (cfL c).toArray 28)
  have hB := Box.new w (cfL c) 28
  have z1 := bnew (w.alloc (Obj.cells (cfL c).toArray 28)) (Obj.cells (vcL zeroV).toArray 32)
  have hV := Box.new (w.alloc (Obj.cells (cfL c).toArray 28)) (vcL zeroV) 32
  replace hB := hB.below z1
  have hb := z0
  replace hb := bnext hb z1
  clear z0
  clear z1
  have s1 : (w.alloc (Obj.cells (cfL c).toArray 28)).heap.size = w.heap.size + 1 := by simp
  rw [s1] at hV
  go_enter Try.func14, Try.ntmps14
  go_upto_region 1 with fail
  change Code.wp Try.prog _ _ _ ((w.alloc (Obj.cells (cfL c).toArray 28)).alloc (Obj.cells (vcL zeroV).toArray 32))
  generalize ((w.alloc (Obj.cells (cfL c).toArray 28)).alloc (Obj.cells (vcL zeroV).toArray 32)) = W at *
  clear s1
  have c0 := hB.cell 0 _ rfl
  go_upto_region 2 with fail
  have hn1 := bnew W (Obj.cells ([.int .u64 c.cl, .int .i64 0] : List Value).toArray 30)
  have hN := Box.new W [.int .u64 c.cl, .int .i64 0] 30
  replace hB := hB.below hn1
  replace hV := hV.below hn1
  replace hb := bnext hb hn1
  change Code.wp Try.prog _ _ _ (W.alloc (Obj.cells ([.int .u64 c.cl, .int .i64 0] : List Value).toArray 30))
  generalize W.alloc (Obj.cells ([.int .u64 c.cl, .int .i64 0] : List Value).toArray 30) = W2 at *
  generalize W.heap.size = g9 at *
  clear c0 hn1
  have c0 := hB.cell 0 _ rfl
  have c3 := hB.cell 3 _ rfl
  have c4 := hB.cell 4 _ rfl
  have c5 := hB.cell 5 _ rfl
  have c6 := hB.cell 6 _ rfl
  have c7 := hB.cell 7 _ rfl
  have d0 := hN.cell 0 _ rfl
  have d1 := hN.cell 1 _ rfl
  clear hB hN
  generalize hG : w.heap.size = G at *
  rw [← hG] at hb
  go_wp2_with (guard_target =~ wpList _ _ _ (⟨none, _, _, _, _, _⟩ :: _) _ _; refine vecT.store (op := ⟨none, .store _ _ _, _, _, _, _⟩) (by rfl) _ _ (by rfl) (G + 1) (ownV c) (zeroV) _ (by rfl) (by rfl) hV ?_)
  exact bodyPost_ret (v := .agg (vecK.enc (ownV c)).toArray) (vecT.result rfl _ _ (G + 1) _ _ rfl (hV.rowK _)) rfl ⟨rfl, below_setRow hb (by omega) _⟩

end Go.Proofs.Ytdknecekebmkmaa
