/- The program's own of chapter 14 (gen_parown.py). -/
import Derived.Test.YtdknecekebmkmaaParRef
namespace Go.Proofs.Ytdknecekebmkmaa
open Go.RowKit Go.Proofs
set_option maxRecDepth 50000
set_option linter.unusedVariables false
set_option linter.unusedSimpArgs false

set_option maxRecDepth 100000 in
set_option maxHeartbeats 8000000 in
theorem ownOwnP : COwnP := by
  intro c w
  have z0 := bnew w (Obj.cells (cfL c).toArray 28)
  have hC := Box.new w (cfL c) 28
  have z1 := bnew (w.alloc (Obj.cells (cfL c).toArray 28)) (Obj.cells (paL zeroPa).toArray 34)
  have hN := Box.new (w.alloc (Obj.cells (cfL c).toArray 28)) (paL zeroPa) 34
  replace hC := hC.below z1
  have hb := z0
  replace hb := bnext hb z1
  clear z0
  clear z1
  have s1 : (w.alloc (Obj.cells (cfL c).toArray 28)).heap.size = w.heap.size + 1 := by simp
  rw [s1] at hN
  go_enter Try.func6, Try.ntmps6
  go_upto_region 1 with fail
  change Code.wp Try.prog _ _ _ ((w.alloc (Obj.cells (cfL c).toArray 28)).alloc (Obj.cells (paL zeroPa).toArray 34))
  generalize ((w.alloc (Obj.cells (cfL c).toArray 28)).alloc (Obj.cells (paL zeroPa).toArray 34)) = W at *
  clear s1
  have c0 := hC.cell 0 _ rfl
  have c3 := hC.cell 3 _ rfl
  have c4 := hC.cell 4 _ rfl
  have c5 := hC.cell 5 _ rfl
  have c6 := hC.cell 6 _ rfl
  have c7 := hC.cell 7 _ rfl
  have c19 := hC.cell 19 _ rfl
  have c20 := hC.cell 20 _ rfl
  have c21 := hC.cell 21 _ rfl
  clear hC
  generalize hG : w.heap.size = G at *
  rw [← hG] at hb
  go_wp2_with (guard_target =~ wpList _ _ _ (⟨none, _, _, _, _, _⟩ :: _) _ _; refine paT.store (op := ⟨none, .store _ _ _, _, _, _, _⟩) (by rfl) _ _ (by rfl) (G + 1) (ownP c) (zeroPa) _ (by rfl) (by rfl) hN ?_)
  exact bodyPost_ret (v := .agg (paK.enc (ownP c)).toArray) (paT.result rfl _ _ (G + 1) _ _ rfl (hN.rowK _)) rfl ⟨rfl, below_setRow hb (by omega) _⟩

set_option maxRecDepth 100000 in
set_option maxHeartbeats 8000000 in
theorem ownFol : CFol := by
  intro v t w
  have z0 := bnew w (Obj.cells (vcL v).toArray 32)
  have hV := Box.new w (vcL v) 32
  have z1 := bnew (w.alloc (Obj.cells (vcL v).toArray 32)) (Obj.cells (tmL t).toArray 26)
  have hT := Box.new (w.alloc (Obj.cells (vcL v).toArray 32)) (tmL t) 26
  replace hV := hV.below z1
  have z2 := bnew ((w.alloc (Obj.cells (vcL v).toArray 32)).alloc (Obj.cells (tmL t).toArray 26)) (Obj.cells (paL zeroPa).toArray 34)
  have hN := Box.new ((w.alloc (Obj.cells (vcL v).toArray 32)).alloc (Obj.cells (tmL t).toArray 26)) (paL zeroPa) 34
  replace hV := hV.below z2
  replace hT := hT.below z2
  have hb := z0
  replace hb := bnext hb z1
  replace hb := bnext hb z2
  clear z0
  clear z1
  clear z2
  have s1 : (w.alloc (Obj.cells (vcL v).toArray 32)).heap.size = w.heap.size + 1 := by simp
  rw [s1] at hT
  have s2 : ((w.alloc (Obj.cells (vcL v).toArray 32)).alloc (Obj.cells (tmL t).toArray 26)).heap.size = w.heap.size + 1 + 1 := by simp
  rw [s2] at hN
  go_enter Try.func8, Try.ntmps8
  go_upto_region 1 with fail
  change Code.wp Try.prog _ _ _ (((w.alloc (Obj.cells (vcL v).toArray 32)).alloc (Obj.cells (tmL t).toArray 26)).alloc (Obj.cells (paL zeroPa).toArray 34))
  generalize (((w.alloc (Obj.cells (vcL v).toArray 32)).alloc (Obj.cells (tmL t).toArray 26)).alloc (Obj.cells (paL zeroPa).toArray 34)) = W at *
  clear s1 s2
  have c0 := hV.cell 0 _ rfl
  have c1 := hV.cell 1 _ rfl
  have c2 := hV.cell 2 _ rfl
  have c3 := hV.cell 3 _ rfl
  have c4 := hV.cell 4 _ rfl
  have c5 := hV.cell 5 _ rfl
  have c6 := hV.cell 6 _ rfl
  have c7 := hV.cell 7 _ rfl
  have c8 := hV.cell 8 _ rfl
  have d0 := hT.cell 0 _ rfl
  have d1 := hT.cell 1 _ rfl
  have d2 := hT.cell 2 _ rfl
  clear hV hT
  generalize hG : w.heap.size = G at *
  rw [← hG] at hb
  go_wp2_with (guard_target =~ wpList _ _ _ (⟨none, _, _, _, _, _⟩ :: _) _ _; refine paT.store (op := ⟨none, .store _ _ _, _, _, _, _⟩) (by rfl) _ _ (by rfl) (G + 1 + 1) (folP v t) (zeroPa) _ (by rfl) (by rfl) hN ?_)
  exact bodyPost_ret (v := .agg (paK.enc (folP v t)).toArray) (paT.result rfl _ _ (G + 1 + 1) _ _ rfl (hN.rowK _)) rfl ⟨rfl, below_setRow hb (by omega) _⟩

set_option maxRecDepth 100000 in
set_option maxHeartbeats 8000000 in
theorem ownSay : CSay := by
  intro c p port seq w
  have z0 := bnew w (Obj.cells (cfL c).toArray 28)
  have hC := Box.new w (cfL c) 28
  have z1 := bnew (w.alloc (Obj.cells (cfL c).toArray 28)) (Obj.cells (paL p).toArray 34)
  have hP := Box.new (w.alloc (Obj.cells (cfL c).toArray 28)) (paL p) 34
  replace hC := hC.below z1
  have z2 := bnew ((w.alloc (Obj.cells (cfL c).toArray 28)).alloc (Obj.cells (paL p).toArray 34)) (Obj.cells (msgF hd0 bd0).toArray 38)
  have hN := Box.new ((w.alloc (Obj.cells (cfL c).toArray 28)).alloc (Obj.cells (paL p).toArray 34)) (msgF hd0 bd0) 38
  replace hC := hC.below z2
  replace hP := hP.below z2
  have hb := z0
  replace hb := bnext hb z1
  replace hb := bnext hb z2
  clear z0
  clear z1
  clear z2
  have s1 : (w.alloc (Obj.cells (cfL c).toArray 28)).heap.size = w.heap.size + 1 := by simp
  rw [s1] at hP
  have s2 : ((w.alloc (Obj.cells (cfL c).toArray 28)).alloc (Obj.cells (paL p).toArray 34)).heap.size = w.heap.size + 1 + 1 := by simp
  rw [s2] at hN
  go_enter Try.func10, Try.ntmps10
  go_upto_region 1 with fail
  change Code.wp Try.prog _ _ _ (((w.alloc (Obj.cells (cfL c).toArray 28)).alloc (Obj.cells (paL p).toArray 34)).alloc (Obj.cells (msgF hd0 bd0).toArray 38))
  generalize (((w.alloc (Obj.cells (cfL c).toArray 28)).alloc (Obj.cells (paL p).toArray 34)).alloc (Obj.cells (msgF hd0 bd0).toArray 38)) = W at *
  clear s1 s2
  have c0 := hC.cell 0 _ rfl
  have c2 := hC.cell 2 _ rfl
  have c9 := hC.cell 9 _ rfl
  have d0 := hP.cell 0 _ rfl
  have d1 := hP.cell 1 _ rfl
  have d2 := hP.cell 2 _ rfl
  have d3 := hP.cell 3 _ rfl
  have d4 := hP.cell 4 _ rfl
  have d5 := hP.cell 5 _ rfl
  have d6 := hP.cell 6 _ rfl
  have d7 := hP.cell 7 _ rfl
  have d8 := hP.cell 8 _ rfl
  have d9 := hP.cell 9 _ rfl
  have d10 := hP.cell 10 _ rfl
  have d11 := hP.cell 11 _ rfl
  clear hC hP
  generalize hG : w.heap.size = G at *
  rw [← hG] at hb
  go_wp2_with (first | (guard_target =~ wpList _ _ _ (⟨some 37, _, _, _, _, _⟩ :: _) _ _; refine wpList_build_any (op := ⟨some 37, .build _ _, _, _, _, _⟩) (by rfl) _ _ (by rfl) _ (by rfl) (msK.enc (sayM c p port seq)).toArray (by kernel_rfl) ?_) | (guard_target =~ wpList _ _ _ (⟨none, _, _, _, _, _⟩ :: _) _ _; refine msT.store (op := ⟨none, .store _ _ _, _, _, _, _⟩) (by rfl) _ _ (by rfl) (G + 1 + 1) (sayM c p port seq) (zeroM) _ (by rfl) (by rfl) hN ?_))
  exact bodyPost_ret (v := .agg (msK.enc (sayM c p port seq)).toArray) (msT.result rfl _ _ (G + 1 + 1) _ _ rfl (hN.rowK _)) rfl ⟨rfl, below_setRow hb (by omega) _⟩

set_option maxRecDepth 100000 in
set_option maxHeartbeats 8000000 in
theorem ownSam : CSam := by
  intro a b w
  have z0 := bnew w (Obj.cells (paL a).toArray 34)
  have hA := Box.new w (paL a) 34
  have z1 := bnew (w.alloc (Obj.cells (paL a).toArray 34)) (Obj.cells (paL b).toArray 34)
  have hB := Box.new (w.alloc (Obj.cells (paL a).toArray 34)) (paL b) 34
  replace hA := hA.below z1
  have hb := z0
  replace hb := bnext hb z1
  clear z0
  clear z1
  have s1 : (w.alloc (Obj.cells (paL a).toArray 34)).heap.size = w.heap.size + 1 := by simp
  rw [s1] at hB
  have heq := equal_pa a b
  go_enter Try.func12, Try.ntmps12
  go_upto_region 1 with fail
  change Code.wp Try.prog _ _ _ ((w.alloc (Obj.cells (paL a).toArray 34)).alloc (Obj.cells (paL b).toArray 34))
  generalize ((w.alloc (Obj.cells (paL a).toArray 34)).alloc (Obj.cells (paL b).toArray 34)) = W at *
  clear s1
  generalize hG : w.heap.size = G at *
  rw [← hG] at hb
  go_wp2_with (first | (guard_target =~ wpList _ _ _ (⟨some 5, _, _, _, _, _⟩ :: _) _ _; refine paT.load (op := ⟨some 5, .load _ _, _, _, _, _⟩) (by rfl) _ (by rfl) G 0 (by rfl) (a) hA.rangeK ?_) | (guard_target =~ wpList _ _ _ (⟨some 6, _, _, _, _, _⟩ :: _) _ _; refine paT.load (op := ⟨some 6, .load _ _, _, _, _, _⟩) (by rfl) _ (by rfl) (G + 1) 0 (by rfl) (b) hB.rangeK ?_))

  go_ret
  exact ⟨rfl, hb⟩
end Go.Proofs.Ytdknecekebmkmaa
