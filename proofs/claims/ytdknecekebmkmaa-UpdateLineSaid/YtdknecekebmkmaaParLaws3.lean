/- carillonlaw14's UpdateLine from contracts (gen_parlaws.py). -/
import Derived.Test.YtdknecekebmkmaaParLaws2
import Derived.Test.YtdknecekebmkmaaIds
namespace Go.Proofs.Ytdknecekebmkmaa
open Go.RowKit Go.Proofs
set_option maxRecDepth 50000
set_option linter.unusedVariables false
set_option linter.unusedSimpArgs false

set_option maxRecDepth 100000 in
set_option maxHeartbeats 8000000 in
theorem updateLine_from (HO : COwnP) (HF : CFol) (HY : CSay) (HS : CSam) (c : Cf) (lv : Value) (ids : List Int) (w : World) (hI : Ids w lv ids) :
    Calls Try.prog 5 #[.agg (cfK.enc c).toArray, lv] w fun e w' => e = .returned (.bool true) ∧ Below w.heap.size w w' := by
  obtain ⟨p, cap, rfl, hcap, hmax, hat⟩ := hI
  have HAT := hid fun h => hat.pos h
  unfold maxLen at hmax
  clear hat
  have z0 := bnew w (Obj.cells (cfL c).toArray 28)
  have hC := Box.new w (cfL c) 28
  have hb := z0
  clear z0
  go_enter Try.func5, Try.ntmps5
  go_upto_region 1 with fail
  change Code.wp Try.prog _ _ _ (w.alloc (Obj.cells (cfL c).toArray 28))
  generalize (w.alloc (Obj.cells (cfL c).toArray 28)) = W at *
  generalize hG : w.heap.size = G at *
  rw [← hG] at hb
  go_wp2_with (guard_target =~ wpList _ _ _ (⟨some 10, _, _, _, _, _⟩ :: _) _ _; refine cfT.load (op := ⟨some 10, .load _ _, _, _, _, _⟩) (by rfl) _ (by rfl) G 0 (by rfl) (c) hC.rangeK ?_)
  refine (HO c _).mono ?_
  rintro e w1 ⟨rfl, b1⟩
  have hGW := hC.lt
  replace hb := bnext hb b1
  replace hC := hC.below b1
  have hn1 := bnew w1 (Obj.cells (paK.enc zeroPa).toArray 34)
  have hM0 := Box.new w1 (paK.enc zeroPa) 34
  go_upto_region 2 with (guard_target =~ wpList _ _ _ (⟨none, _, _, _, _, _⟩ :: _) _ _; refine paT.store (op := ⟨none, .store _ _ _, _, _, _, _⟩) (by rfl) _ _ (by rfl) (w1.heap.size) (ownP c) (zeroPa) _ (by rfl) (by rfl) hM0 ?_)
  have hM := hM0.rowK (paK.enc (ownP c))
  replace hC := (hC.below hn1).rowK_other (k := w1.heap.size) (by have := hC.lt; omega) (paK.enc (ownP c)).toArray
  have hW := below_setRow hn1 (Nat.le_refl _) (paK.enc (ownP c)).toArray
  replace hb := bnext hb hW
  change Code.wp Try.prog _ _ _ ((w1.alloc (Obj.cells (paK.enc zeroPa).toArray 34)).setRow w1.heap.size (paK.enc (ownP c)).toArray)
  generalize (w1.alloc (Obj.cells (paK.enc zeroPa).toArray 34)).setRow w1.heap.size (paK.enc (ownP c)).toArray = W2 at *
  clear hn1 hM0 hW
  have hGg : G < w1.heap.size := Nat.lt_of_lt_of_le hGW b1.size
  generalize w1.heap.size = g5 at *
  have hP := hM
  have hq0 : (ownP c).st = ((0 : Nat) : Int) := rfl
  generalize ownP c = q0 at *
  clear hM b1
  go_wp2_with fail
  go_loopw [6] (fun iv wr => ∃ (k : Nat) (c' : Cf) (q : Pa), k ≤ 20 ∧ k ≤ ids.length ∧ iv = .int .i64 (k : Int) ∧ Box wr G (cfK.enc c') 28 ∧ Box wr g5 (paK.enc q) 34 ∧ Hid (q.st = (k : Int)) ∧ Below w.heap.size w wr) (fun iv _ => 20 - (intOf iv).toNat)
  case atStart => exact ⟨0, c, q0, Nat.zero_le _, Nat.zero_le _, rfl, hC, hP, hid hq0, hb⟩
  case round =>
    clear hC hP hq0 hb
    obtain ⟨k, c', q, hk20, hkl, rfl, hC, hP, hqs, hb⟩ := hrel
    by_cases hlt : k < ids.length
    · by_cases h20 : k < 20
      · have hltI : (k : Int) < (ids.length : Int) := by omega
        have h20I : (k : Int) < 20 := by omega
        have hk0 : (0 : Int) ≤ (k : Int) := by omega
        obtain ⟨bi, offi, rfl, hbi, hci⟩ := HAT.out (by omega)
        have HI := hid fun (wx : World) (h : Below w.heap.size w wx) => (h.cell (p := ⟨bi, offi + k, none⟩) (by show bi < w.heap.size; rw [hG]; exact hbi)).trans (hci k _ (iCellsOf_get ids k hlt))
        clear hci
        generalize ids[k] = z at *
        have hne : G ≠ g5 := by omega
        go_upto_region 5 with fail
        go_wp2_with (first | (guard_target =~ wpList _ _ _ (⟨some 22, _, _, _, _, _⟩ :: _) _ _; refine cfT.load (op := ⟨some 22, .load _ _, _, _, _, _⟩) (by rfl) _ (by rfl) G 0 (by rfl) (c') hC.rangeK ?_) | (guard_target =~ wpList _ _ _ (⟨some 23, _, _, _, _, _⟩ :: _) _ _; refine paT.load (op := ⟨some 23, .load _ _, _, _, _, _⟩) (by rfl) _ (by rfl) g5 0 (by rfl) (q) hP.rangeK ?_))
        refine (HY c' q 1 (k : Int) _).mono ?_
        rintro e w3 ⟨rfl, b3⟩
        replace hb := bnext hb b3
        replace hC := hC.below b3
        replace hP := hP.below b3
        obtain ⟨M1, hM1⟩ : ∃ M1, sayM c' q 1 (k : Int) = M1 := ⟨_, rfl⟩
        rw [hM1]
        replace hM1 := hid hM1
        clear b3
        have hn1 := bnew w3 (Obj.cells (msK.enc zeroM).toArray 38)
        have hM0 := Box.new w3 (msK.enc zeroM) 38
        go_upto_region 6 with (guard_target =~ wpList _ _ _ (⟨none, _, _, _, _, _⟩ :: _) _ _; refine msT.store (op := ⟨none, .store _ _ _, _, _, _, _⟩) (by rfl) _ _ (by rfl) (w3.heap.size) (M1) (zeroM) _ (by rfl) (by rfl) hM0 ?_)
        have hM := hM0.rowK (msK.enc M1)
        replace hC := (hC.below hn1).rowK_other (k := w3.heap.size) (by have := hC.lt; omega) (msK.enc M1).toArray
        replace hP := (hP.below hn1).rowK_other (k := w3.heap.size) (by have := hP.lt; omega) (msK.enc M1).toArray
        have hW := below_setRow hn1 (Nat.le_refl _) (msK.enc M1).toArray
        replace hb := bnext hb hW
        change Code.wp Try.prog _ _ _ ((w3.alloc (Obj.cells (msK.enc zeroM).toArray 38)).setRow w3.heap.size (msK.enc M1).toArray)
        generalize (w3.alloc (Obj.cells (msK.enc zeroM).toArray 38)).setRow w3.heap.size (msK.enc M1).toArray = W4 at *
        clear hn1 hM0 hW
        generalize w3.heap.size = g7 at *
        rw [← hM1.out] at hM
        have hM7 := hM
        clear hM
        have HM7 := hid fun (wx : World) (h : Below W4.heap.size W4 wx) => hM7.below h
        obtain ⟨v1, hv1⟩ : ∃ v1 : Vc, v1 = ⟨q.p1, q.qc, q.qa, q.qv, q.p2, q.gr, q.st, c'.cl, 1, z, 1⟩ := ⟨_, rfl⟩
        replace hv1 := hid hv1
        refine wp_region_held_drew (S := fun w' => Below W4.drew.heap.size W4.drew w') (by kernel_rfl) (Below.refl _ _) ?_
        intro hHeld
        have hbd := Below.drew (Below.refl W4.heap.size W4)
        replace hb := bnext hb hbd
        replace hC := hC.below hbd
        replace hP := hP.below hbd
        replace hM7 := hM7.below hbd
        clear hbd
        generalize W4.drew = WD at *
        have a4 : ∀ wx, Below WD.heap.size WD wx → wx.cell? ⟨g7, 4, none⟩ = some (.int .u64 (c'.cl)) := fun wx h => (hM7.below h).cell 4 _ rfl
        have a5 : ∀ wx, Below WD.heap.size WD wx → wx.cell? ⟨g7, 5, none⟩ = some (.int .i64 (1)) := fun wx h => (hM7.below h).cell 5 _ rfl
        have a12 : ∀ wx, Below WD.heap.size WD wx → wx.cell? ⟨g7, 12, none⟩ = some (.int .i64 (q.p1)) := fun wx h => (hM7.below h).cell 12 _ rfl
        have a13 : ∀ wx, Below WD.heap.size WD wx → wx.cell? ⟨g7, 13, none⟩ = some (.int .i64 (q.qc)) := fun wx h => (hM7.below h).cell 13 _ rfl
        have a14 : ∀ wx, Below WD.heap.size WD wx → wx.cell? ⟨g7, 14, none⟩ = some (.int .i64 (q.qa)) := fun wx h => (hM7.below h).cell 14 _ rfl
        have a15 : ∀ wx, Below WD.heap.size WD wx → wx.cell? ⟨g7, 15, none⟩ = some (.int .i64 (q.qv)) := fun wx h => (hM7.below h).cell 15 _ rfl
        have a16 : ∀ wx, Below WD.heap.size WD wx → wx.cell? ⟨g7, 16, none⟩ = some (.int .i64 (q.p2)) := fun wx h => (hM7.below h).cell 16 _ rfl
        have a17 : ∀ wx, Below WD.heap.size WD wx → wx.cell? ⟨g7, 17, none⟩ = some (.int .u64 (q.gr)) := fun wx h => (hM7.below h).cell 17 _ rfl
        have a18 : ∀ wx, Below WD.heap.size WD wx → wx.cell? ⟨g7, 18, none⟩ = some (.int .i64 (q.st)) := fun wx h => (hM7.below h).cell 18 _ rfl
        have ci := fun wx (h : Below WD.heap.size WD wx) => HI.out wx (bnext hb h)
        refine rtake 0 rfl (by rfl) (by kernel_rfl) (by kernel_rfl) (by kernel_rfl) (fun _ _ _ h => h) hHeld (fun wx hwx => by go_simp; try with_reducible rfl) ?_
        try simp only [Act.put, List.setIfInBounds_toArray, List.set_cons_zero, List.set_cons_succ]
        refine rtake 1 rfl (by rfl) (by kernel_rfl) (by kernel_rfl) (by kernel_rfl) (fun _ _ _ h => h) hHeld (fun wx hwx => by go_simp; try with_reducible rfl) ?_
        try simp only [Act.put, List.setIfInBounds_toArray, List.set_cons_zero, List.set_cons_succ]
        refine rtake 2 rfl (by rfl) (by kernel_rfl) (by kernel_rfl) (by kernel_rfl) (fun _ _ _ h => h) hHeld (fun wx hwx => by go_simp; try with_reducible rfl) ?_
        try simp only [Act.put, List.setIfInBounds_toArray, List.set_cons_zero, List.set_cons_succ]
        refine rtake 3 rfl (by rfl) (by kernel_rfl) (by kernel_rfl) (by kernel_rfl) (fun _ _ _ h => h) hHeld (fun wx hwx => by go_simp; try with_reducible rfl) ?_
        try simp only [Act.put, List.setIfInBounds_toArray, List.set_cons_zero, List.set_cons_succ]
        refine rtake 4 rfl (by rfl) (by kernel_rfl) (by kernel_rfl) (by kernel_rfl) (fun _ _ _ h => h) hHeld (fun wx hwx => by go_simp; try with_reducible rfl) ?_
        try simp only [Act.put, List.setIfInBounds_toArray, List.set_cons_zero, List.set_cons_succ]
        refine rtake 5 rfl (by rfl) (by kernel_rfl) (by kernel_rfl) (by kernel_rfl) (fun _ _ _ h => h) hHeld (fun wx hwx => by go_simp; try with_reducible rfl) ?_
        try simp only [Act.put, List.setIfInBounds_toArray, List.set_cons_zero, List.set_cons_succ]
        refine rtake 6 rfl (by rfl) (by kernel_rfl) (by kernel_rfl) (by kernel_rfl) (fun _ _ _ h => h) hHeld (fun wx hwx => by go_simp; try with_reducible rfl) ?_
        try simp only [Act.put, List.setIfInBounds_toArray, List.set_cons_zero, List.set_cons_succ]
        refine rtake 7 rfl (by rfl) (by kernel_rfl) (by kernel_rfl) (by kernel_rfl) (fun _ _ _ h => h) hHeld (fun wx hwx => by go_simp; try with_reducible rfl) ?_
        try simp only [Act.put, List.setIfInBounds_toArray, List.set_cons_zero, List.set_cons_succ]
        refine rtake 8 rfl (by rfl) (by kernel_rfl) (by kernel_rfl) (by kernel_rfl) (fun _ _ _ h => h) hHeld (fun wx hwx => by go_simp; try with_reducible rfl) ?_
        try simp only [Act.put, List.setIfInBounds_toArray, List.set_cons_zero, List.set_cons_succ]
        refine rtake 9 rfl (by rfl) (by kernel_rfl) (by kernel_rfl) (by kernel_rfl) (fun _ _ _ h => h) hHeld (fun wx hwx => by go_simp; try with_reducible rfl) ?_
        try simp only [Act.put, List.setIfInBounds_toArray, List.set_cons_zero, List.set_cons_succ]
        refine rtake 10 rfl (by rfl) (by kernel_rfl) (by kernel_rfl) (by kernel_rfl) (fun _ _ _ h => h) hHeld (fun wx hwx => by go_simp; try with_reducible rfl) ?_
        try simp only [Act.put, List.setIfInBounds_toArray, List.set_cons_zero, List.set_cons_succ]
        refine rtake 11 rfl (by rfl) (by kernel_rfl) (by kernel_rfl) (by kernel_rfl) (fun _ _ _ h => h) hHeld (fun wx hwx => by go_simp; try with_reducible rfl) ?_
        try simp only [Act.put, List.setIfInBounds_toArray, List.set_cons_zero, List.set_cons_succ]
        refine rtake 12 rfl (by rfl) (by kernel_rfl) (by kernel_rfl) (by kernel_rfl) (fun _ _ _ h => h) hHeld (fun wx hwx => by go_simp; try with_reducible rfl) ?_
        try simp only [Act.put, List.setIfInBounds_toArray, List.set_cons_zero, List.set_cons_succ]
        refine rtake 13 rfl (by rfl) (by kernel_rfl) (by kernel_rfl) (by kernel_rfl) (fun _ _ _ h => h) hHeld (fun wx hwx => by go_simp; try with_reducible rfl) ?_
        try simp only [Act.put, List.setIfInBounds_toArray, List.set_cons_zero, List.set_cons_succ]
        refine rtake 14 rfl (by rfl) (by kernel_rfl) (by kernel_rfl) (by kernel_rfl) (fun _ _ _ h => h) hHeld (fun wx hwx => by go_simp; try with_reducible rfl) ?_
        try simp only [Act.put, List.setIfInBounds_toArray, List.set_cons_zero, List.set_cons_succ]
        refine rtake 15 rfl (by rfl) (by kernel_rfl) (by kernel_rfl) (by kernel_rfl) (fun _ _ _ h => h) hHeld (fun wx hwx => by go_simp; try with_reducible rfl) ?_
        try simp only [Act.put, List.setIfInBounds_toArray, List.set_cons_zero, List.set_cons_succ]
        refine rtake 16 rfl (by rfl) (by kernel_rfl) (by kernel_rfl) (by kernel_rfl) (fun _ _ _ h => h) hHeld (fun wx hwx => by go_simp; try with_reducible rfl) ?_
        try simp only [Act.put, List.setIfInBounds_toArray, List.set_cons_zero, List.set_cons_succ]
        refine rtake 17 rfl (by rfl) (by kernel_rfl) (by kernel_rfl) (by kernel_rfl) (fun _ _ _ h => h) hHeld (fun wx hwx => by go_simp; try with_reducible rfl) ?_
        try simp only [Act.put, List.setIfInBounds_toArray, List.set_cons_zero, List.set_cons_succ]
        clear a4 a5 a12 a13 a14 a15 a16 a17 a18 ci
        refine rcall 18 rfl (by kernel_rfl) (by rfl) (fun K' hK => ?_)
        go_simp
        have hA := Box.new WD (vecK.enc zeroV) 32
        have hna := bnew WD (Obj.cells (vecK.enc zeroV).toArray 32)
        have hg8 : WD.heap.size ≤ WD.heap.size := Nat.le_refl _
        change K' _ (WD.alloc (Obj.cells (vecK.enc zeroV).toArray 32))
        replace hHeld := bnext hHeld hna
        refine hK.out _ _ hHeld ?_
        clear hK K'
        generalize WD.alloc _ = WA at *
        try simp only [Act.put, List.setIfInBounds_toArray, List.set_cons_zero, List.set_cons_succ]
        refine rcall 19 rfl (by kernel_rfl) (by rfl) (fun K' hK => ?_)
        refine vecT.op_store (op := ⟨none, .store _ _ _, _, _, _, _⟩) _ _ rfl WD.heap.size v1 zeroV _ rfl (by rw [hv1.out]; rfl) hA ?_
        replace hA := hA.rowK (vecK.enc v1)
        replace hHeld := below_setRow hHeld hg8 (vecK.enc v1).toArray
        refine hK.out _ _ hHeld ?_
        clear hK K' hna hg8
        generalize World.setRow _ _ _ = WS at *
        refine wpAnyH_done (by kernel_rfl) ?_ _
        replace hb := bnext hb hHeld
        replace hC := hC.below hHeld
        replace hP := hP.below hHeld
        replace hM7 := hM7.below hHeld
        clear hHeld HM7
        generalize WD.heap.size = g8 at *
        have a2 : WS.cell? ⟨g7, 2, none⟩ = some (.int .i64 (q.fl)) := hM7.cell 2 _ rfl
        have a11 : WS.cell? ⟨g7, 11, none⟩ = some (.int .i64 (q.ut)) := hM7.cell 11 _ rfl
        have a19 : WS.cell? ⟨g7, 19, none⟩ = some (.int .i64 (q.og)) := hM7.cell 19 _ rfl
        go_upto_region 7 with fail
        go_wp2_with (guard_target =~ wpList _ _ _ (⟨some 44, _, _, _, _, _⟩ :: _) _ _; refine vecT.load (op := ⟨some 44, .load _ _, _, _, _, _⟩) (by rfl) _ (by rfl) g8 0 (by rfl) (v1) hA.rangeK ?_)
        refine (HF v1 ⟨q.ut, q.fl, q.og⟩ _).mono ?_
        rintro e w5 ⟨rfl, b5⟩
        replace hb := bnext hb b5
        replace hC := hC.below b5
        replace hP := hP.below b5
        replace hM7 := hM7.below b5
        obtain ⟨q2, hq2⟩ : ∃ q2, folP v1 ⟨q.ut, q.fl, q.og⟩ = q2 := ⟨_, rfl⟩
        rw [hq2]
        have hq2' : Hid (q2 = ⟨c'.cl, 1, q.gr, q.qc, q.qa, q.qv, q.p1, q.p2, wrap64 (q.st + 1), q.ut, q.fl, q.og⟩) := by
          rw [← hq2, hv1.out]
          exact hid rfl
        clear hq2 hv1 b5 hA a2 a11 a19
        have hn1 := bnew w5 (Obj.cells (paK.enc zeroPa).toArray 34)
        have hM0 := Box.new w5 (paK.enc zeroPa) 34
        go_upto_region 8 with (guard_target =~ wpList _ _ _ (⟨none, _, _, _, _, _⟩ :: _) _ _; refine paT.store (op := ⟨none, .store _ _ _, _, _, _, _⟩) (by rfl) _ _ (by rfl) (w5.heap.size) (q2) (zeroPa) _ (by rfl) (by rfl) hM0 ?_)
        have hM := hM0.rowK (paK.enc q2)
        replace hC := (hC.below hn1).rowK_other (k := w5.heap.size) (by have := hC.lt; omega) (paK.enc q2).toArray
        replace hP := (hP.below hn1).rowK_other (k := w5.heap.size) (by have := hP.lt; omega) (paK.enc q2).toArray
        replace hM7 := (hM7.below hn1).rowK_other (k := w5.heap.size) (by have := hM7.lt; omega) (paK.enc q2).toArray
        have hW := below_setRow hn1 (Nat.le_refl _) (paK.enc q2).toArray
        replace hb := bnext hb hW
        change Code.wp Try.prog _ _ _ ((w5.alloc (Obj.cells (paK.enc zeroPa).toArray 34)).setRow w5.heap.size (paK.enc q2).toArray)
        generalize (w5.alloc (Obj.cells (paK.enc zeroPa).toArray 34)).setRow w5.heap.size (paK.enc q2).toArray = W6 at *
        clear hn1 hM0 hW
        generalize w5.heap.size = g9 at *
        have hM9 := hM
        clear hM
        rw [hq2'.out] at hM9
        have q0 : W6.cell? ⟨g9, 0, none⟩ = some (.int .u64 (c'.cl)) := hM9.cell 0 _ rfl
        have q1 : W6.cell? ⟨g9, 1, none⟩ = some (.int .i64 (1)) := hM9.cell 1 _ rfl
        have q2 : W6.cell? ⟨g9, 2, none⟩ = some (.int .u64 (q.gr)) := hM9.cell 2 _ rfl
        have q3 : W6.cell? ⟨g9, 3, none⟩ = some (.int .i64 (q.qc)) := hM9.cell 3 _ rfl
        have q4 : W6.cell? ⟨g9, 4, none⟩ = some (.int .i64 (q.qa)) := hM9.cell 4 _ rfl
        have q5 : W6.cell? ⟨g9, 5, none⟩ = some (.int .i64 (q.qv)) := hM9.cell 5 _ rfl
        have q6 : W6.cell? ⟨g9, 6, none⟩ = some (.int .i64 (q.p1)) := hM9.cell 6 _ rfl
        have q7 : W6.cell? ⟨g9, 7, none⟩ = some (.int .i64 (q.p2)) := hM9.cell 7 _ rfl
        have q8 : W6.cell? ⟨g9, 8, none⟩ = some (.int .i64 (wrap64 (q.st + 1))) := hM9.cell 8 _ rfl
        have q9 : W6.cell? ⟨g9, 9, none⟩ = some (.int .i64 (q.ut)) := hM9.cell 9 _ rfl
        have q10 : W6.cell? ⟨g9, 10, none⟩ = some (.int .i64 (q.fl)) := hM9.cell 10 _ rfl
        have q11 : W6.cell? ⟨g9, 11, none⟩ = some (.int .i64 (q.og)) := hM9.cell 11 _ rfl
        have p2 : W6.cell? ⟨g5, 2, none⟩ = some (.int .u64 (q.gr)) := hP.cell 2 _ rfl
        have p3 : W6.cell? ⟨g5, 3, none⟩ = some (.int .i64 (q.qc)) := hP.cell 3 _ rfl
        have p4 : W6.cell? ⟨g5, 4, none⟩ = some (.int .i64 (q.qa)) := hP.cell 4 _ rfl
        have p5 : W6.cell? ⟨g5, 5, none⟩ = some (.int .i64 (q.qv)) := hP.cell 5 _ rfl
        have p6 : W6.cell? ⟨g5, 6, none⟩ = some (.int .i64 (q.p1)) := hP.cell 6 _ rfl
        have p7 : W6.cell? ⟨g5, 7, none⟩ = some (.int .i64 (q.p2)) := hP.cell 7 _ rfl
        have p8 : W6.cell? ⟨g5, 8, none⟩ = some (.int .i64 (q.st)) := hP.cell 8 _ rfl
        have p9 : W6.cell? ⟨g5, 9, none⟩ = some (.int .i64 (q.ut)) := hP.cell 9 _ rfl
        have p10 : W6.cell? ⟨g5, 10, none⟩ = some (.int .i64 (q.fl)) := hP.cell 10 _ rfl
        have p11 : W6.cell? ⟨g5, 11, none⟩ = some (.int .i64 (q.og)) := hP.cell 11 _ rfl
        have a4 : W6.cell? ⟨g7, 4, none⟩ = some (.int .u64 (c'.cl)) := hM7.cell 4 _ rfl
        have a5 : W6.cell? ⟨g7, 5, none⟩ = some (.int .i64 (1)) := hM7.cell 5 _ rfl
        go_upto_region 10 with fail
        clear q0 q1 q2 q3 q4 q5 q6 q7 q8 q9 q10 q11 p2 p3 p4 p5 p6 p7 p8 p9 p10 p11 a4 a5
        rw [← hq2'.out] at hM9
        go_upto_region 11 with (first | (guard_target =~ wpList _ _ _ (⟨some 101, _, _, _, _, _⟩ :: _) _ _; refine paT.load (op := ⟨some 101, .load _ _, _, _, _, _⟩) (by rfl) _ (by rfl) g9 0 (by rfl) (q2) hM9.rangeK ?_) | (guard_target =~ wpList _ _ _ (⟨none, _, _, _, _, _⟩ :: _) _ _; refine paT.store (op := ⟨none, .store _ _ _, _, _, _, _⟩) (by rfl) _ _ (by rfl) (g5) (q2) (q) _ (by rfl) (by rfl) hP ?_))
        have hgw : w.heap.size ≤ g5 := by omega
        replace hP := hP.rowK (paK.enc q2)
        replace hC := hC.rowK_other hne (paK.enc q2).toArray
        replace hb := below_setRow hb hgw (paK.enc q2).toArray
        clear hM9 hM7
        generalize World.setRow _ _ _ = W7 at *
        have ci := HI.out _ hb
        have c0 := hC.cell 0 _ rfl
        have f0 := hC.free 0
        have hC2 : Box (W7.setCell ⟨G, 0, none⟩ (.int .u64 z)) G (cfK.enc { c' with cl := z }) 28 := hC.set 0 (.int .u64 z)
        have hP2 := hP.other (Ne.symm hne) 0 (.int .u64 z)
        have hb2 := hb.setCell (p := ⟨G, 0, none⟩) (Nat.le_of_eq hG) (.int .u64 z)
        have hq3 : Hid (q2.st = ((k + 1 : Nat) : Int)) := by
          rw [hq2'.out]
          show wrap64 (q.st + 1) = _
          rw [hqs.out]
          unfold wrap64
          omega
        clear hC hP hb hq2' hqs
        go_wp2_with fail
        go_roundw
        case rel => exact ⟨k + 1, { c' with cl := z }, q2, by omega, by omega, by go_num, hC2, hP2, hq3, hb2⟩
        case measure => (simp [intOf] <;> omega)
      · obtain rfl : k = 20 := by omega
        have h20I : (20 : Int) < (ids.length : Int) := by omega
        have p8 := hP.cell 8 _ rfl
        have p8' : wr.cell? ⟨g5, 8, none⟩ = some (.int .i64 20) := by rw [p8]; show some (Value.int .i64 q.st) = _; rw [hqs.out]; rfl
        clear p8
        have hmin : min (ids.length : Int) 20 = 20 := by omega
        go_wp2_with fail
        refine (awake14_from HF HS _).mono ?_
        rintro e w9 ⟨rfl, b9⟩
        go_wp2_with fail
        go_ret
        exact ⟨rfl, bnext hb b9⟩
    · obtain rfl : k = ids.length := by omega
      have p8 := hP.cell 8 _ rfl
      have p8' : wr.cell? ⟨g5, 8, none⟩ = some (.int .i64 (ids.length : Int)) := by rw [p8]; show some (Value.int .i64 q.st) = _; rw [hqs.out]
      clear p8
      have hk20I : (ids.length : Int) ≤ 20 := by omega
      go_wp2_with fail
      all_goals
        (refine (awake14_from HF HS _).mono ?_
         rintro e w9 ⟨rfl, b9⟩
         go_wp2_with fail
         go_ret
         exact ⟨rfl, bnext hb b9⟩)
end Go.Proofs.Ytdknecekebmkmaa
