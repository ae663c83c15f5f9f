/- carillonlaw16's SeqApart, SeqSteps, SeqLatest, from contracts (gen_seqlaws.py). -/
import Derived.Test.YtmcjbidfogoonaaSeqLaws1
import Derived.Test.YtmcjbidfogoonaaBoK
namespace Go.Proofs.Ytmcjbidfogoonaa
open Go.RowKit Go.Proofs
set_option maxRecDepth 50000
set_option linter.unusedVariables false
set_option linter.unusedSimpArgs false

theorem prT : StrT prK 30 := ⟨⟨_, Try.underlying30, rfl⟩, by kernel_rfl⟩

set_option maxRecDepth 100000 in
set_option maxHeartbeats 8000000 in
theorem seqApart_from {R : List Value → Ms → Prop} (HNew : CNewS R) (HS : CSync R) (HF : CFoll R) (HN : CNext) (HW : CNewer) (n m : Int) (a a' : Int) (ha : 0 ≤ a ∧ a < 18446744073709551616) (b b' : Int) (hb0 : 0 ≤ b ∧ b < 18446744073709551616) (w : World) :
    Calls Try.prog 5 #[.int .i64 n, .int .i64 m, .agg (prK.enc (a, a')).toArray, .agg (prK.enc (b, b')).toArray] w fun e w' => e = .returned (.bool true) ∧ Below w.heap.size w w' := by
  have z0 := bnew w (Obj.cells (prK.enc (a, a')).toArray 30)
  have hP := Box.new w (prK.enc (a, a')) 30
  have z1 := bnew (w.alloc (Obj.cells (prK.enc (a, a')).toArray 30)) (Obj.cells (prK.enc (b, b')).toArray 30)
  have hQ := Box.new (w.alloc (Obj.cells (prK.enc (a, a')).toArray 30)) (prK.enc (b, b')) 30
  replace hP := hP.below z1
  have hb := z0
  replace hb := bnext hb z1
  clear z0
  clear z1
  have s1 : (w.alloc (Obj.cells (prK.enc (a, a')).toArray 30)).heap.size = w.heap.size + 1 := by simp
  rw [s1] at hQ
  go_enter Try.func5, Try.ntmps5
  go_upto_region 1 with fail
  change Code.wp Try.prog _ _ _ ((w.alloc (Obj.cells (prK.enc (a, a')).toArray 30)).alloc (Obj.cells (prK.enc (b, b')).toArray 30))
  generalize ((w.alloc (Obj.cells (prK.enc (a, a')).toArray 30)).alloc (Obj.cells (prK.enc (b, b')).toArray 30)) = W at *
  clear s1
  generalize hG : w.heap.size = G at *
  rw [← hG] at hb
  have n_hP_hQ : G ≠ G + 1 := by omega
  have l_hP : w.heap.size ≤ G := Nat.le_of_eq hG
  have l_hQ : w.heap.size ≤ G + 1 := by omega
  go_wp2_with fail
  refine (place_in n 65536 _ (by decide) (by decide)).mono ?_
  rintro e w0 ⟨k, rfl, hk0, hk1, -, rfl⟩
  go_wp2_with fail
  refine (place_in m 65536 _ (by decide) (by decide)).mono ?_
  rintro e w0 ⟨l, rfl, hl0, hl1, -, rfl⟩
  go_wp2_with fail
  refine (HNew W).mono ?_
  rintro e w1 ⟨ga, rfl, hg, h9, bq⟩
  have n_hP_hA : G ≠ ga := by have h1 := hP.lt; have h2 := hg; omega
  have n_hQ_hA : G + 1 ≠ ga := by have h1 := hQ.lt; have h2 := hg; omega
  have l_hA : w.heap.size ≤ ga := Nat.le_trans hb.size (hg)
  replace hP := hP.below bq
  replace hQ := hQ.below bq
  replace hb := bnext hb bq
  clear bq
  have hA := h9
  clear h9 hg
  obtain ⟨x1, hx1⟩ : ∃ x1 : Hd × Bd, x1 = ((⟨0, 0, 512, 0, a, a', k, 0⟩, bd0) : Hd × Bd) := ⟨_, rfl⟩
  obtain ⟨x2, hx2⟩ : ∃ x2 : Hd × Bd, x2 = ((⟨8, 0, 0, 0, b, b', l, 0⟩, { bd0 with st := 20 }) : Hd × Bd) := ⟨_, rfl⟩
  have ok1 : HdOk x1.1 := by rw [hx1]; exact hd_ok ha.1 ha.2 (show -9223372036854775808 ≤ (0 : Int) by decide) (show (0 : Int) ≤ 9223372036854775807 by decide)
  have ok2 : HdOk x2.1 := by rw [hx2]; exact hd_ok hb0.1 hb0.2 (show -9223372036854775808 ≤ (0 : Int) by decide) (show (0 : Int) ≤ 9223372036854775807 by decide)
  have t1 : x1.1.ty = 0 ∧ twoB x1.1.fl = true ∧ x1.1.co = 0 := by rw [hx1]; exact ⟨rfl, two_yes, rfl⟩
  have t2 : x2.1.ty = 8 ∧ x2.1.co = 0 ∧ x2.2.st = 20 := by rw [hx2]; exact ⟨rfl, rfl, rfl⟩
  have a2 : syncS noneS x1 50 = ⟨some (x1, 50), none⟩ := (sync_none t1.1 t1.2.1 rfl).1
  have a3 : follD ⟨some (x1, 50), none⟩ x2 = if matchB x1 x2 then 30 else 0 := by
    cases hmm : matchB x1 x2
    · exact (foll_miss t2.1 rfl hmm).2.1
    · rw [(foll_hit t2.1 rfl hmm).2.1, t2.2.2, t1.2.2, t2.2.1]
      unfold diffS addI wrap64
      decide
  have a4 : follB ⟨some (x1, 50), none⟩ x2 = matchB x1 x2 := by
    cases hmm : matchB x1 x2
    · exact (foll_miss t2.1 rfl hmm).2.2
    · exact (foll_hit t2.1 rfl hmm).2.2
  clear t1 t2
  have hm : matchB x1 x2 = (k == l && (a == b && a' == b')) := by rw [hx1, hx2]; rfl
  rw [hm] at a3 a4
  replace hx1 := hid hx1
  replace hx2 := hid hx2
  clear hm
  go_wp2_with (first | (guard_target =~ wpList _ _ _ (⟨some 23, _, _, _, _, _⟩ :: _) _ _; refine prT.load (op := ⟨some 23, .load _ _, _, _, _, _⟩) (by rfl) _ (by rfl) G 0 (by rfl) ((a, a')) hP.rangeK ?_) | (guard_target =~ wpList _ _ _ (⟨some 25, _, _, _, _, _⟩ :: _) _ _; refine wpList_build_any (op := ⟨some 25, .build _ _, _, _, _, _⟩) (by rfl) _ _ (by rfl) _ (by rfl) (msK.enc x1).toArray (by rw [hx1.out]; kernel_rfl) ?_))
  refine (HS ga noneS x1 50 w1 hA ok1).mono ?_
  rintro e w2 ⟨rfl, h9, oq⟩
  replace hP := hP.only oq n_hP_hA
  replace hQ := hQ.only oq n_hQ_hA
  replace hb := Only.below hb oq l_hA hb.size
  replace hA := h9
  clear h9 oq
  rw [a2] at hA
  go_wp2_with (first | (guard_target =~ wpList _ _ _ (⟨some 29, _, _, _, _, _⟩ :: _) _ _; refine prT.load (op := ⟨some 29, .load _ _, _, _, _, _⟩) (by rfl) _ (by rfl) (G + 1) 0 (by rfl) ((b, b')) hQ.rangeK ?_) | (guard_target =~ wpList _ _ _ (⟨some 31, _, _, _, _, _⟩ :: _) _ _; refine wpList_build_any (op := ⟨some 31, .build _ _, _, _, _, _⟩) (by rfl) _ _ (by rfl) _ (by rfl) (msK.enc x2).toArray (by rw [hx2.out]; kernel_rfl) ?_))
  refine (HF ga ⟨some (x1, 50), none⟩ x2 w2 hA ok2).mono ?_
  rintro e w3 ⟨rfl, h9, oq⟩
  replace hP := hP.only oq n_hP_hA
  replace hQ := hQ.only oq n_hQ_hA
  replace hb := Only.below hb oq l_hA hb.size
  replace hA := h9
  clear h9 oq
  rw [a3, a4]
  have p0 := hP.cell 0 _ rfl
  have p1 := hP.cell 1 _ rfl
  have q0 := hQ.cell 0 _ rfl
  have q1 := hQ.cell 1 _ rfl
  clear a2 a3 a4 hA
  by_cases e1 : k = l
  · subst e1
    by_cases e2 : a = b
    · subst e2
      by_cases e3 : a' = b'
      · subst e3
        simp only [beq_self_eq_true, Bool.and_self, if_true]
        go_wp2_with fail
        refine (awake16_from HNew HS HF HN HW _).mono ?_
        rintro e wz ⟨rfl, bz⟩
        go_wp2_with fail
        go_ret
        exact ⟨rfl, bnext hb bz⟩
      · have f3 : (a' == b') = false := beq_false_of_ne e3
        simp only [beq_self_eq_true, f3, Bool.and_false, Bool.true_and, Bool.false_eq_true, if_false]
        go_wp2_with fail
        refine (awake16_from HNew HS HF HN HW _).mono ?_
        rintro e wz ⟨rfl, bz⟩
        go_wp2_with fail
        go_ret
        exact ⟨rfl, bnext hb bz⟩
    · have f2 : (a == b) = false := beq_false_of_ne e2
      simp only [beq_self_eq_true, f2, Bool.false_and, Bool.and_false, Bool.false_eq_true, if_false]
      go_wp2_with fail
      refine (awake16_from HNew HS HF HN HW _).mono ?_
      rintro e wz ⟨rfl, bz⟩
      go_wp2_with fail
      go_ret
      exact ⟨rfl, bnext hb bz⟩
  · have f1 : (k == l) = false := beq_false_of_ne e1
    simp only [f1, Bool.false_and, Bool.false_eq_true, if_false]
    go_wp2_with fail
    refine (awake16_from HNew HS HF HN HW _).mono ?_
    rintro e wz ⟨rfl, bz⟩
    go_wp2_with fail
    go_ret
    exact ⟨rfl, bnext hb bz⟩

set_option maxRecDepth 100000 in
set_option maxHeartbeats 8000000 in
theorem seqSteps_from {R : List Value → Ms → Prop} (HNew : CNewS R) (HS : CSync R) (HF : CFoll R) (HN : CNext) (HW : CNewer) (at' stamp c d : Int) (a a' : Int) (ha : 0 ≤ a ∧ a < 18446744073709551616) (n : Int) (w : World) :
    Calls Try.prog 4 #[.int .i64 at', .int .i64 stamp, .int .i64 c, .int .i64 d, .agg (prK.enc (a, a')).toArray, .int .i64 n] w fun e w' => e = .returned (.bool true) ∧ Below w.heap.size w w' := by
  have z0 := bnew w (Obj.cells (prK.enc (a, a')).toArray 30)
  have hP := Box.new w (prK.enc (a, a')) 30
  have hb := z0
  clear z0
  go_enter Try.func4, Try.ntmps4
  go_upto_region 1 with fail
  change Code.wp Try.prog _ _ _ (w.alloc (Obj.cells (prK.enc (a, a')).toArray 30))
  generalize (w.alloc (Obj.cells (prK.enc (a, a')).toArray 30)) = W at *
  generalize hG : w.heap.size = G at *
  rw [← hG] at hb
  have l_hP : w.heap.size ≤ G := Nat.le_of_eq hG
  go_wp2_with fail
  refine (place_in at' 4000000000000000 _ (by decide) (by decide)).mono ?_
  rintro e w0 ⟨t, rfl, ht0, ht1, -, rfl⟩
  go_wp2_with fail
  refine (place_in stamp 4000000000000000 _ (by decide) (by decide)).mono ?_
  rintro e w0 ⟨s, rfl, hs0, hs1, -, rfl⟩
  go_wp2_with fail
  refine (place_in c 1099511627776 _ (by decide) (by decide)).mono ?_
  rintro e w0 ⟨x0, rfl, hx0, hx1, -, rfl⟩
  have wx : wrap64 (x0 - 549755813888) = x0 - 549755813888 := by unfold wrap64; omega
  go_wp2_with fail
  refine (place_in d 1099511627776 _ (by decide) (by decide)).mono ?_
  rintro e w0 ⟨y0, rfl, hy0, hy1, -, rfl⟩
  have wy : wrap64 (y0 - 549755813888) = y0 - 549755813888 := by unfold wrap64; omega
  go_wp2_with fail
  refine (place_in n 65536 _ (by decide) (by decide)).mono ?_
  rintro e w0 ⟨k, rfl, hk0, hk1, -, rfl⟩
  obtain ⟨x, hx⟩ : ∃ x, x0 - 549755813888 = x := ⟨_, rfl⟩
  obtain ⟨y, hy⟩ : ∃ y, y0 - 549755813888 = y := ⟨_, rfl⟩
  simp only [hx, hy]
  have hxb : -549755813888 ≤ x ∧ x < 549755813888 := by omega
  have hyb : -549755813888 ≤ y ∧ y < 549755813888 := by omega
  clear hx hy hx0 hx1 hy0 hy1 wx wy
  have wxy : wrap64 (x + y) = x + y := by unfold wrap64; omega
  obtain ⟨m1, hm1⟩ : ∃ m1 : Hd × Bd, m1 = ((⟨0, 0, 0, wrap64 (x + y), a, a', k, 0⟩, { bd0 with st := s }) : Hd × Bd) := ⟨_, rfl⟩
  obtain ⟨m2, hm2⟩ : ∃ m2 : Hd × Bd, m2 = ((⟨0, 0, 512, x, a, a', k, 0⟩, bd0) : Hd × Bd) := ⟨_, rfl⟩
  obtain ⟨m3, hm3⟩ : ∃ m3 : Hd × Bd, m3 = ((⟨8, 0, 0, y, a, a', k, 0⟩, { bd0 with st := s }) : Hd × Bd) := ⟨_, rfl⟩
  have hadd : addI x y = x + y := add_in (by omega)
  obtain ⟨D, hD⟩ : ∃ D, D = diffS t s (x + y) := ⟨_, rfl⟩
  have ok1 : HdOk m1.1 := by rw [hm1]; exact hd_ok ha.1 ha.2 (show -9223372036854775808 ≤ wrap64 (x + y) by omega) (show wrap64 (x + y) ≤ 9223372036854775807 by omega)
  have ok2 : HdOk m2.1 := by rw [hm2]; exact hd_ok ha.1 ha.2 (show -9223372036854775808 ≤ x by omega) (show x ≤ 9223372036854775807 by omega)
  have ok3 : HdOk m3.1 := by rw [hm3]; exact hd_ok ha.1 ha.2 (show -9223372036854775808 ≤ y by omega) (show y ≤ 9223372036854775807 by omega)
  have t1 : m1.1.ty = 0 ∧ twoB m1.1.fl = false ∧ m1.1.co = x + y ∧ m1.2.st = s := by rw [hm1]; exact ⟨rfl, two_no, wxy, rfl⟩
  have t2 : m2.1.ty = 0 ∧ twoB m2.1.fl = true ∧ m2.1.co = x := by rw [hm2]; exact ⟨rfl, two_yes, rfl⟩
  have t3 : m3.1.ty = 8 ∧ m3.1.co = y ∧ m3.2.st = s := by rw [hm3]; exact ⟨rfl, rfl, rfl⟩
  have hm23 : matchB m2 m3 = true := by rw [hm2, hm3]; simp [matchB]
  have hm32 : matchB m3 m2 = true := by rw [hm2, hm3]; simp [matchB]
  have b1 : syncD noneS m1 t = D := by rw [(sync_one t1.1 t1.2.1).2.1, t1.2.2.1, t1.2.2.2, hD]
  have b2 : syncB noneS m1 = true := (sync_one (at' := 0) t1.1 t1.2.1).2.2
  have b3 : syncB noneS m2 = false := (sync_none (at' := 0) t2.1 t2.2.1 rfl).2.2
  have b4 : syncS noneS m2 t = ⟨some (m2, t), none⟩ := (sync_none t2.1 t2.2.1 rfl).1
  have b5 : follD ⟨some (m2, t), none⟩ m3 = D := by rw [(foll_hit t3.1 rfl hm23).2.1, t3.2.2, t2.2.2, t3.2.1, hadd, hD]
  have b6 : follB ⟨some (m2, t), none⟩ m3 = true := (foll_hit t3.1 rfl hm23).2.2
  have b7 : follB noneS m3 = false := (foll_none t3.1 rfl).2.2
  have b8 : follS noneS m3 = ⟨none, some m3⟩ := (foll_none t3.1 rfl).1
  have b9 : syncD ⟨none, some m3⟩ m2 t = D := by rw [(sync_hit t2.1 t2.2.1 rfl hm32).2.1, t3.2.2, t2.2.2, t3.2.1, hadd, hD]
  have b10 : syncB ⟨none, some m3⟩ m2 = true := (sync_hit (at' := 0) t2.1 t2.2.1 rfl hm32).2.2
  replace hm1 := hid hm1
  replace hm2 := hid hm2
  replace hm3 := hid hm3
  clear t1 t2 t3
  clear hD hadd hm23 hm32 hxb hyb wxy
  go_upto_region 4 with fail
  have hn1 := bnew W (Obj.cells (msK.enc (zeroM)).toArray 34)
  have hM0 := Box.new W (msK.enc (zeroM)) 34
  go_upto_region 5 with (first | (guard_target =~ wpList _ _ _ (⟨some 46, _, _, _, _, _⟩ :: _) _ _; refine prT.load (op := ⟨some 46, .load _ _, _, _, _, _⟩) (by rfl) _ (by rfl) G 0 (by rfl) ((a, a')) hP.rangeK ?_) | (guard_target =~ wpList _ _ _ (⟨some 52, _, _, _, _, _⟩ :: _) _ _; refine wpList_build_any (op := ⟨some 52, .build _ _, _, _, _, _⟩) (by rfl) _ _ (by rfl) _ (by rfl) (msK.enc m1).toArray (by rw [hm1.out]; kernel_rfl) ?_) | (guard_target =~ wpList _ _ _ (⟨none, _, _, _, _, _⟩ :: _) _ _; refine msT.store (op := ⟨none, .store _ _ _, _, _, _, _⟩) (by rfl) _ _ (by rfl) (W.heap.size) (m1) (zeroM) _ (by rfl) (by rfl) hM0 ?_))
  have n_hP_hX : G ≠ W.heap.size := by have h1 := hP.lt; have h2 := Nat.le_refl W.heap.size; omega
  have l_hX : w.heap.size ≤ W.heap.size := Nat.le_trans hb.size (Nat.le_refl W.heap.size)
  have hX := hM0.rowK (msK.enc (m1))
  replace hP := (hP.below hn1).rowK_other (k := W.heap.size) n_hP_hX (msK.enc (m1)).toArray
  have hW := below_setRow hn1 (Nat.le_refl _) (msK.enc (m1)).toArray
  replace hb := bnext hb hW
  change Code.wp Try.prog _ _ _ ((W.alloc (Obj.cells (msK.enc (zeroM)).toArray 34)).setRow W.heap.size (msK.enc (m1)).toArray)
  generalize (W.alloc (Obj.cells (msK.enc (zeroM)).toArray 34)).setRow W.heap.size (msK.enc (m1)).toArray = w1 at *
  clear hn1 hM0 hW
  generalize W.heap.size = gx at *
  have hn1 := bnew w1 (Obj.cells (msK.enc (zeroM)).toArray 34)
  have hM0 := Box.new w1 (msK.enc (zeroM)) 34
  go_upto_region 6 with (first | (guard_target =~ wpList _ _ _ (⟨some 53, _, _, _, _, _⟩ :: _) _ _; refine prT.load (op := ⟨some 53, .load _ _, _, _, _, _⟩) (by rfl) _ (by rfl) G 0 (by rfl) ((a, a')) hP.rangeK ?_) | (guard_target =~ wpList _ _ _ (⟨some 56, _, _, _, _, _⟩ :: _) _ _; refine wpList_build_any (op := ⟨some 56, .build _ _, _, _, _, _⟩) (by rfl) _ _ (by rfl) _ (by rfl) (msK.enc m2).toArray (by rw [hm2.out]; kernel_rfl) ?_) | (guard_target =~ wpList _ _ _ (⟨none, _, _, _, _, _⟩ :: _) _ _; refine msT.store (op := ⟨none, .store _ _ _, _, _, _, _⟩) (by rfl) _ _ (by rfl) (w1.heap.size) (m2) (zeroM) _ (by rfl) (by rfl) hM0 ?_))
  have n_hP_hY : G ≠ w1.heap.size := by have h1 := hP.lt; have h2 := Nat.le_refl w1.heap.size; omega
  have n_hX_hY : gx ≠ w1.heap.size := by have h1 := hX.lt; have h2 := Nat.le_refl w1.heap.size; omega
  have l_hY : w.heap.size ≤ w1.heap.size := Nat.le_trans hb.size (Nat.le_refl w1.heap.size)
  have hY := hM0.rowK (msK.enc (m2))
  replace hP := (hP.below hn1).rowK_other (k := w1.heap.size) n_hP_hY (msK.enc (m2)).toArray
  replace hX := (hX.below hn1).rowK_other (k := w1.heap.size) n_hX_hY (msK.enc (m2)).toArray
  have hW := below_setRow hn1 (Nat.le_refl _) (msK.enc (m2)).toArray
  replace hb := bnext hb hW
  change Code.wp Try.prog _ _ _ ((w1.alloc (Obj.cells (msK.enc (zeroM)).toArray 34)).setRow w1.heap.size (msK.enc (m2)).toArray)
  generalize (w1.alloc (Obj.cells (msK.enc (zeroM)).toArray 34)).setRow w1.heap.size (msK.enc (m2)).toArray = w2 at *
  clear hn1 hM0 hW
  generalize w1.heap.size = gy at *
  have hn1 := bnew w2 (Obj.cells (msK.enc (zeroM)).toArray 34)
  have hM0 := Box.new w2 (msK.enc (zeroM)) 34
  go_upto_region 7 with (first | (guard_target =~ wpList _ _ _ (⟨some 57, _, _, _, _, _⟩ :: _) _ _; refine prT.load (op := ⟨some 57, .load _ _, _, _, _, _⟩) (by rfl) _ (by rfl) G 0 (by rfl) ((a, a')) hP.rangeK ?_) | (guard_target =~ wpList _ _ _ (⟨some 61, _, _, _, _, _⟩ :: _) _ _; refine wpList_build_any (op := ⟨some 61, .build _ _, _, _, _, _⟩) (by rfl) _ _ (by rfl) _ (by rfl) (msK.enc m3).toArray (by rw [hm3.out]; kernel_rfl) ?_) | (guard_target =~ wpList _ _ _ (⟨none, _, _, _, _, _⟩ :: _) _ _; refine msT.store (op := ⟨none, .store _ _ _, _, _, _, _⟩) (by rfl) _ _ (by rfl) (w2.heap.size) (m3) (zeroM) _ (by rfl) (by rfl) hM0 ?_))
  have n_hP_hZ : G ≠ w2.heap.size := by have h1 := hP.lt; have h2 := Nat.le_refl w2.heap.size; omega
  have n_hX_hZ : gx ≠ w2.heap.size := by have h1 := hX.lt; have h2 := Nat.le_refl w2.heap.size; omega
  have n_hY_hZ : gy ≠ w2.heap.size := by have h1 := hY.lt; have h2 := Nat.le_refl w2.heap.size; omega
  have l_hZ : w.heap.size ≤ w2.heap.size := Nat.le_trans hb.size (Nat.le_refl w2.heap.size)
  have hZ := hM0.rowK (msK.enc (m3))
  replace hP := (hP.below hn1).rowK_other (k := w2.heap.size) n_hP_hZ (msK.enc (m3)).toArray
  replace hX := (hX.below hn1).rowK_other (k := w2.heap.size) n_hX_hZ (msK.enc (m3)).toArray
  replace hY := (hY.below hn1).rowK_other (k := w2.heap.size) n_hY_hZ (msK.enc (m3)).toArray
  have hW := below_setRow hn1 (Nat.le_refl _) (msK.enc (m3)).toArray
  replace hb := bnext hb hW
  change Code.wp Try.prog _ _ _ ((w2.alloc (Obj.cells (msK.enc (zeroM)).toArray 34)).setRow w2.heap.size (msK.enc (m3)).toArray)
  generalize (w2.alloc (Obj.cells (msK.enc (zeroM)).toArray 34)).setRow w2.heap.size (msK.enc (m3)).toArray = w3 at *
  clear hn1 hM0 hW
  generalize w2.heap.size = gz at *
  go_wp2_with fail
  refine (HNew w3).mono ?_
  rintro e w4 ⟨ga, rfl, hg, h9, bq⟩
  have n_hP_hA : G ≠ ga := by have h1 := hP.lt; have h2 := hg; omega
  have n_hX_hA : gx ≠ ga := by have h1 := hX.lt; have h2 := hg; omega
  have n_hY_hA : gy ≠ ga := by have h1 := hY.lt; have h2 := hg; omega
  have n_hZ_hA : gz ≠ ga := by have h1 := hZ.lt; have h2 := hg; omega
  have l_hA : w.heap.size ≤ ga := Nat.le_trans hb.size (hg)
  replace hP := hP.below bq
  replace hX := hX.below bq
  replace hY := hY.below bq
  replace hZ := hZ.below bq
  replace hb := bnext hb bq
  clear bq
  have hA := h9
  clear h9 hg
  go_wp2_with fail
  refine (HNew w4).mono ?_
  rintro e w5 ⟨gb, rfl, hg, h9, bq⟩
  have n_hP_hB : G ≠ gb := by have h1 := hP.lt; have h2 := hg; omega
  have n_hX_hB : gx ≠ gb := by have h1 := hX.lt; have h2 := hg; omega
  have n_hY_hB : gy ≠ gb := by have h1 := hY.lt; have h2 := hg; omega
  have n_hZ_hB : gz ≠ gb := by have h1 := hZ.lt; have h2 := hg; omega
  have n_hA_hB : ga ≠ gb := by have h1 := hA.lt; have h2 := hg; omega
  have l_hB : w.heap.size ≤ gb := Nat.le_trans hb.size (hg)
  replace hP := hP.below bq
  replace hX := hX.below bq
  replace hY := hY.below bq
  replace hZ := hZ.below bq
  replace hA := hA.below bq
  replace hb := bnext hb bq
  clear bq
  have hB := h9
  clear h9 hg
  go_wp2_with fail
  refine (HNew w5).mono ?_
  rintro e w6 ⟨ge, rfl, hg, h9, bq⟩
  have n_hP_hE : G ≠ ge := by have h1 := hP.lt; have h2 := hg; omega
  have n_hX_hE : gx ≠ ge := by have h1 := hX.lt; have h2 := hg; omega
  have n_hY_hE : gy ≠ ge := by have h1 := hY.lt; have h2 := hg; omega
  have n_hZ_hE : gz ≠ ge := by have h1 := hZ.lt; have h2 := hg; omega
  have n_hA_hE : ga ≠ ge := by have h1 := hA.lt; have h2 := hg; omega
  have n_hB_hE : gb ≠ ge := by have h1 := hB.lt; have h2 := hg; omega
  have l_hE : w.heap.size ≤ ge := Nat.le_trans hb.size (hg)
  replace hP := hP.below bq
  replace hX := hX.below bq
  replace hY := hY.below bq
  replace hZ := hZ.below bq
  replace hA := hA.below bq
  replace hB := hB.below bq
  replace hb := bnext hb bq
  clear bq
  have hE := h9
  clear h9 hg
  go_wp2_with (guard_target =~ wpList _ _ _ (⟨some 77, _, _, _, _, _⟩ :: _) _ _; refine msT.load (op := ⟨some 77, .load _ _, _, _, _, _⟩) (by rfl) _ (by rfl) gx 0 (by rfl) (m1) hX.rangeK ?_)
  refine (HS ga noneS m1 t w6 hA ok1).mono ?_
  rintro e w7 ⟨rfl, h9, oq⟩
  replace hP := hP.only oq n_hP_hA
  replace hX := hX.only oq n_hX_hA
  replace hY := hY.only oq n_hY_hA
  replace hZ := hZ.only oq n_hZ_hA
  replace hB := hB.only oq (Ne.symm n_hA_hB)
  replace hE := hE.only oq (Ne.symm n_hA_hE)
  replace hb := Only.below hb oq l_hA hb.size
  replace hA := h9
  clear h9 oq
  rw [b1, b2]
  go_wp2_with (guard_target =~ wpList _ _ _ (⟨some 84, _, _, _, _, _⟩ :: _) _ _; refine msT.load (op := ⟨some 84, .load _ _, _, _, _, _⟩) (by rfl) _ (by rfl) gy 0 (by rfl) (m2) hY.rangeK ?_)
  refine (HS gb noneS m2 t w7 hB ok2).mono ?_
  rintro e w8 ⟨rfl, h9, oq⟩
  replace hP := hP.only oq n_hP_hB
  replace hX := hX.only oq n_hX_hB
  replace hY := hY.only oq n_hY_hB
  replace hZ := hZ.only oq n_hZ_hB
  replace hA := hA.only oq n_hA_hB
  replace hE := hE.only oq (Ne.symm n_hB_hE)
  replace hb := Only.below hb oq l_hB hb.size
  replace hB := h9
  clear h9 oq
  rw [b3]
  rw [b4] at hB
  go_wp2_with (guard_target =~ wpList _ _ _ (⟨some 91, _, _, _, _, _⟩ :: _) _ _; refine msT.load (op := ⟨some 91, .load _ _, _, _, _, _⟩) (by rfl) _ (by rfl) gz 0 (by rfl) (m3) hZ.rangeK ?_)
  refine (HF gb ⟨some (m2, t), none⟩ m3 w8 hB ok3).mono ?_
  rintro e w9 ⟨rfl, h9, oq⟩
  replace hP := hP.only oq n_hP_hB
  replace hX := hX.only oq n_hX_hB
  replace hY := hY.only oq n_hY_hB
  replace hZ := hZ.only oq n_hZ_hB
  replace hA := hA.only oq n_hA_hB
  replace hE := hE.only oq (Ne.symm n_hB_hE)
  replace hb := Only.below hb oq l_hB hb.size
  replace hB := h9
  clear h9 oq
  rw [b5, b6]
  go_wp2_with (guard_target =~ wpList _ _ _ (⟨some 97, _, _, _, _, _⟩ :: _) _ _; refine msT.load (op := ⟨some 97, .load _ _, _, _, _, _⟩) (by rfl) _ (by rfl) gz 0 (by rfl) (m3) hZ.rangeK ?_)
  refine (HF ge noneS m3 w9 hE ok3).mono ?_
  rintro e w10 ⟨rfl, h9, oq⟩
  replace hP := hP.only oq n_hP_hE
  replace hX := hX.only oq n_hX_hE
  replace hY := hY.only oq n_hY_hE
  replace hZ := hZ.only oq n_hZ_hE
  replace hA := hA.only oq n_hA_hE
  replace hB := hB.only oq n_hB_hE
  replace hb := Only.below hb oq l_hE hb.size
  replace hE := h9
  clear h9 oq
  rw [b7]
  rw [b8] at hE
  go_wp2_with (guard_target =~ wpList _ _ _ (⟨some 103, _, _, _, _, _⟩ :: _) _ _; refine msT.load (op := ⟨some 103, .load _ _, _, _, _, _⟩) (by rfl) _ (by rfl) gy 0 (by rfl) (m2) hY.rangeK ?_)
  refine (HS ge ⟨none, some m3⟩ m2 t w10 hE ok2).mono ?_
  rintro e w11 ⟨rfl, h9, oq⟩
  replace hP := hP.only oq n_hP_hE
  replace hX := hX.only oq n_hX_hE
  replace hY := hY.only oq n_hY_hE
  replace hZ := hZ.only oq n_hZ_hE
  replace hA := hA.only oq n_hA_hE
  replace hB := hB.only oq n_hB_hE
  replace hb := Only.below hb oq l_hE hb.size
  replace hE := h9
  clear h9 oq
  rw [b9, b10]
  go_wp2_with fail
  refine (awake16_from HNew HS HF HN HW _).mono ?_
  rintro e wz ⟨rfl, bz⟩
  go_wp2_with fail
  go_ret
  exact ⟨rfl, bnext hb bz⟩

set_option maxRecDepth 100000 in
set_option maxHeartbeats 8000000 in
theorem seqLatest_from {R : List Value → Ms → Prop} (HNew : CNewS R) (HS : CSync R) (HF : CFoll R) (HN : CNext) (HW : CNewer) (HC : CClrS R) (n : Int) (cl : Bool) (w : World) :
    Calls Try.prog 8 #[.int .i64 n, .bool cl] w fun e w' => e = .returned (.bool true) ∧ Below w.heap.size w w' := by
  go_enter Try.func8, Try.ntmps8
  go_wp2_with fail
  refine (place_in n 65536 _ (by decide) (by decide)).mono ?_
  rintro e w0 ⟨k, rfl, hk0, hk1, -, rfl⟩
  go_wp2_with fail
  refine (HNew w).mono ?_
  rintro e w1 ⟨ga, rfl, hg, h9, bq⟩
  have l_hA : w.heap.size ≤ ga := hg
  have hb := bq
  clear bq
  have hA := h9
  clear h9 hg
  obtain ⟨k2, hk2⟩ : ∃ k2, nextI k = k2 := ⟨_, rfl⟩
  have hkk : ¬ k = k2 := by rw [← hk2]; unfold nextI; omega
  obtain ⟨m1, hm1⟩ : ∃ m1 : Hd × Bd, m1 = ((⟨0, 0, 512, 0, 0, 0, k, 0⟩, bd0) : Hd × Bd) := ⟨_, rfl⟩
  obtain ⟨m2, hm2⟩ : ∃ m2 : Hd × Bd, m2 = ((⟨0, 0, 512, 0, 0, 0, k2, 0⟩, bd0) : Hd × Bd) := ⟨_, rfl⟩
  obtain ⟨m3, hm3⟩ : ∃ m3 : Hd × Bd, m3 = ((⟨8, 0, 0, 0, 0, 0, k, 0⟩, { bd0 with st := 50 }) : Hd × Bd) := ⟨_, rfl⟩
  obtain ⟨m4, hm4⟩ : ∃ m4 : Hd × Bd, m4 = ((⟨8, 0, 0, 0, 0, 0, k2, 0⟩, { bd0 with st := 50 }) : Hd × Bd) := ⟨_, rfl⟩
  have ok1 : HdOk m1.1 := by rw [hm1]; exact hd_ok (show (0 : Int) ≤ 0 by decide) (show (0 : Int) < 18446744073709551616 by decide) (show -9223372036854775808 ≤ (0 : Int) by decide) (show (0 : Int) ≤ 9223372036854775807 by decide)
  have ok2 : HdOk m2.1 := by rw [hm2]; exact hd_ok (show (0 : Int) ≤ 0 by decide) (show (0 : Int) < 18446744073709551616 by decide) (show -9223372036854775808 ≤ (0 : Int) by decide) (show (0 : Int) ≤ 9223372036854775807 by decide)
  have ok3 : HdOk m3.1 := by rw [hm3]; exact hd_ok (show (0 : Int) ≤ 0 by decide) (show (0 : Int) < 18446744073709551616 by decide) (show -9223372036854775808 ≤ (0 : Int) by decide) (show (0 : Int) ≤ 9223372036854775807 by decide)
  have ok4 : HdOk m4.1 := by rw [hm4]; exact hd_ok (show (0 : Int) ≤ 0 by decide) (show (0 : Int) < 18446744073709551616 by decide) (show -9223372036854775808 ≤ (0 : Int) by decide) (show (0 : Int) ≤ 9223372036854775807 by decide)
  have m23 : matchB m2 m3 = false := by rw [hm2, hm3]; unfold matchB; rw [show ((k2 : Int) == k) = false from beq_false_of_ne (Ne.symm hkk)]; rfl
  have m24 : matchB m2 m4 = true := by rw [hm2, hm4]; simp [matchB]
  have m32 : matchB m3 m2 = false := by rw [hm2, hm3]; unfold matchB; rw [show (k == k2) = false from beq_false_of_ne hkk]; rfl
  have m42 : matchB m4 m2 = true := by rw [hm2, hm4]; simp [matchB]
  have t1 : m1.1.ty = 0 ∧ twoB m1.1.fl = true := by rw [hm1]; exact ⟨rfl, two_yes⟩
  have t2 : m2.1.ty = 0 ∧ twoB m2.1.fl = true := by rw [hm2]; exact ⟨rfl, two_yes⟩
  have t3 : m3.1.ty = 8 := by rw [hm3]
  have t4 : m4.1.ty = 8 ∧ m4.2.st = 50 := by rw [hm4]; exact ⟨rfl, rfl⟩
  have t5 : m2.1.co = 0 ∧ m4.1.co = 0 := by rw [hm2, hm4]; exact ⟨rfl, rfl⟩
  have b1 : syncS noneS m1 100 = ⟨some (m1, 100), none⟩ := (sync_none t1.1 t1.2 rfl).1
  have b2 : syncS ⟨some (m1, 100), none⟩ m2 200 = ⟨some (m2, 200), none⟩ := (sync_none t2.1 t2.2 rfl).1
  have b3 : follB ⟨some (m2, 200), none⟩ m3 = false := (foll_miss t3 rfl m23).2.2
  have b4 : follS ⟨some (m2, 200), none⟩ m3 = ⟨some (m2, 200), some m3⟩ := (foll_miss t3 rfl m23).1
  have b5 : follD ⟨some (m2, 200), some m3⟩ m4 = 150 := by
    rw [(foll_hit t4.1 rfl m24).2.1, t4.2, t5.1, t5.2]
    unfold diffS addI wrap64
    decide
  have b6 : follB ⟨some (m2, 200), some m3⟩ m4 = true := (foll_hit t4.1 rfl m24).2.2
  have b7 : follS ⟨some (m2, 200), some m3⟩ m4 = noneS := (foll_hit t4.1 rfl m24).1
  have b8 : syncB noneS m2 = false := (sync_none (at' := 0) t2.1 t2.2 rfl).2.2
  have b9 : follB noneS m4 = false := (foll_none t4.1 rfl).2.2
  have b10 : follS noneS m4 = ⟨none, some m4⟩ := (foll_none t4.1 rfl).1
  have b11 : syncB ⟨none, some m4⟩ m2 = true := (sync_hit (at' := 0) t2.1 t2.2 rfl m42).2.2
  clear t1
  clear m23 m24 m32 m42 t2 t3 t4 t5
  replace hm1 := hid hm1
  replace hm2 := hid hm2
  replace hm3 := hid hm3
  replace hm4 := hid hm4
  replace hk2 := hid hk2
  clear hkk
  go_upto_region 5 with fail
  have hn1 := bnew w1 (Obj.cells (msK.enc (zeroM)).toArray 34)
  have hM0 := Box.new w1 (msK.enc (zeroM)) 34
  go_upto_region 6 with (first | (guard_target =~ wpList _ _ _ (⟨some 21, _, _, _, _, _⟩ :: _) _ _; refine wpList_build_any (op := ⟨some 21, .build _ _, _, _, _, _⟩) (by rfl) _ _ (by rfl) _ (by rfl) (msK.enc m1).toArray (by rw [hm1.out]; kernel_rfl) ?_) | (guard_target =~ wpList _ _ _ (⟨none, _, _, _, _, _⟩ :: _) _ _; refine msT.store (op := ⟨none, .store _ _ _, _, _, _, _⟩) (by rfl) _ _ (by rfl) (w1.heap.size) (m1) (zeroM) _ (by rfl) (by rfl) hM0 ?_))
  have n_hA_hX : ga ≠ w1.heap.size := by have h1 := hA.lt; have h2 := Nat.le_refl w1.heap.size; omega
  have l_hX : w.heap.size ≤ w1.heap.size := Nat.le_trans hb.size (Nat.le_refl w1.heap.size)
  have hX := hM0.rowK (msK.enc (m1))
  replace hA := (hA.below hn1).row (k := w1.heap.size) n_hA_hX (msK.enc (m1)).toArray
  have hW := below_setRow hn1 (Nat.le_refl _) (msK.enc (m1)).toArray
  replace hb := bnext hb hW
  change Code.wp Try.prog _ _ _ ((w1.alloc (Obj.cells (msK.enc (zeroM)).toArray 34)).setRow w1.heap.size (msK.enc (m1)).toArray)
  generalize (w1.alloc (Obj.cells (msK.enc (zeroM)).toArray 34)).setRow w1.heap.size (msK.enc (m1)).toArray = w2 at *
  clear hn1 hM0 hW
  generalize w1.heap.size = gx at *
  have hn1 := bnew w2 (Obj.cells (msK.enc (zeroM)).toArray 34)
  have hM0 := Box.new w2 (msK.enc (zeroM)) 34
  go_upto_region 7 with (first | (guard_target =~ wpList _ _ _ (⟨some 22, _, _, _, _, _⟩ :: _) _ _; refine msT.load (op := ⟨some 22, .load _ _, _, _, _, _⟩) (by rfl) _ (by rfl) gx 0 (by rfl) (m1) hX.rangeK ?_) | (guard_target =~ wpList _ _ _ (⟨none, _, _, _, _, _⟩ :: _) _ _; refine msT.store (op := ⟨none, .store _ _ _, _, _, _, _⟩) (by rfl) _ _ (by rfl) (w2.heap.size) (m1) (zeroM) _ (by rfl) (by rfl) hM0 ?_))
  have n_hA_hY : ga ≠ w2.heap.size := by have h1 := hA.lt; have h2 := Nat.le_refl w2.heap.size; omega
  have n_hX_hY : gx ≠ w2.heap.size := by have h1 := hX.lt; have h2 := Nat.le_refl w2.heap.size; omega
  have l_hY : w.heap.size ≤ w2.heap.size := Nat.le_trans hb.size (Nat.le_refl w2.heap.size)
  have hY := hM0.rowK (msK.enc (m1))
  replace hA := (hA.below hn1).row (k := w2.heap.size) n_hA_hY (msK.enc (m1)).toArray
  replace hX := (hX.below hn1).rowK_other (k := w2.heap.size) n_hX_hY (msK.enc (m1)).toArray
  have hW := below_setRow hn1 (Nat.le_refl _) (msK.enc (m1)).toArray
  replace hb := bnext hb hW
  change Code.wp Try.prog _ _ _ ((w2.alloc (Obj.cells (msK.enc (zeroM)).toArray 34)).setRow w2.heap.size (msK.enc (m1)).toArray)
  generalize (w2.alloc (Obj.cells (msK.enc (zeroM)).toArray 34)).setRow w2.heap.size (msK.enc (m1)).toArray = w3 at *
  clear hn1 hM0 hW
  generalize w2.heap.size = gy at *
  go_wp2_with fail
  refine (HN k w3 (by omega)).mono ?_
  rintro e w4 ⟨rfl, bq⟩
  replace hA := hA.below bq
  replace hX := hX.below bq
  replace hY := hY.below bq
  replace hb := bnext hb bq
  clear bq
  rw [hk2.out]
  have hYc : Box w4 gy (msK.enc ((⟨0, 0, 512, 0, 0, 0, k, 0⟩, bd0) : Hd × Bd)) 34 := by have h := hY; rw [hm1.out] at h; exact h
  replace hY := hYc
  clear hYc
  have hc := hY.cell 6 _ rfl
  have hf := hY.free 6
  go_upto_region 8 with fail
  replace hY := hY.set 6 (.int .i64 k2)
  replace hA := hA.setCell n_hA_hY 6 (.int .i64 k2)
  replace hX := hX.other n_hX_hY 6 (.int .i64 k2)
  replace hb := hb.setCell (p := ⟨gy, 6, none⟩) l_hY (.int .i64 k2)
  generalize World.setCell _ _ _ = w5 at *
  clear hc hf
  replace hY : Box w5 gy (msK.enc ((⟨0, 0, 512, 0, 0, 0, k2, 0⟩, bd0) : Hd × Bd)) _ := hY
  rw [← hm2.out] at hY
  go_wp2_with (guard_target =~ wpList _ _ _ (⟨some 27, _, _, _, _, _⟩ :: _) _ _; refine msT.load (op := ⟨some 27, .load _ _, _, _, _, _⟩) (by rfl) _ (by rfl) gx 0 (by rfl) (m1) hX.rangeK ?_)
  refine (HS ga noneS m1 100 w5 hA ok1).mono ?_
  rintro e w6 ⟨rfl, h9, oq⟩
  replace hX := hX.only oq (Ne.symm n_hA_hX)
  replace hY := hY.only oq (Ne.symm n_hA_hY)
  replace hb := Only.below hb oq l_hA hb.size
  replace hA := h9
  clear h9 oq
  rw [b1] at hA
  go_wp2_with (guard_target =~ wpList _ _ _ (⟨some 30, _, _, _, _, _⟩ :: _) _ _; refine msT.load (op := ⟨some 30, .load _ _, _, _, _, _⟩) (by rfl) _ (by rfl) gy 0 (by rfl) (m2) hY.rangeK ?_)
  refine (HS ga ⟨some (m1, 100), none⟩ m2 200 w6 hA ok2).mono ?_
  rintro e w7 ⟨rfl, h9, oq⟩
  replace hX := hX.only oq (Ne.symm n_hA_hX)
  replace hY := hY.only oq (Ne.symm n_hA_hY)
  replace hb := Only.below hb oq l_hA hb.size
  replace hA := h9
  clear h9 oq
  rw [b2] at hA
  go_wp2_with (guard_target =~ wpList _ _ _ (⟨some 35, _, _, _, _, _⟩ :: _) _ _; refine wpList_build_any (op := ⟨some 35, .build _ _, _, _, _, _⟩) (by rfl) _ _ (by rfl) _ (by rfl) (msK.enc m3).toArray (by rw [hm3.out]; kernel_rfl) ?_)
  refine (HF ga ⟨some (m2, 200), none⟩ m3 w7 hA ok3).mono ?_
  rintro e w8 ⟨rfl, h9, oq⟩
  replace hX := hX.only oq (Ne.symm n_hA_hX)
  replace hY := hY.only oq (Ne.symm n_hA_hY)
  replace hb := Only.below hb oq l_hA hb.size
  replace hA := h9
  clear h9 oq
  rw [b3]
  rw [b4] at hA
  have c6 : ∀ (wx : World), Box wx gy (msK.enc m2) 34 → wx.cell? ⟨gy, 6, none⟩ = some (.int .i64 k2) := fun wx h => h.cell 6 _ (by rw [hm2.out]; rfl)
  replace c6 := hid c6
  cases cl
  · skip
    have c6' := c6.out _ hY
    go_wp2_with (guard_target =~ wpList _ _ _ (⟨some 46, _, _, _, _, _⟩ :: _) _ _; refine wpList_build_any (op := ⟨some 46, .build _ _, _, _, _, _⟩) (by rfl) _ _ (by rfl) _ (by rfl) (msK.enc m4).toArray (by rw [hm4.out]; kernel_rfl) ?_)
    clear c6'
    refine (HF ga ⟨some (m2, 200), some m3⟩ m4 w8 hA ok4).mono ?_
    rintro e w9 ⟨rfl, h9, oq⟩
    replace hX := hX.only oq (Ne.symm n_hA_hX)
    replace hY := hY.only oq (Ne.symm n_hA_hY)
    replace hb := Only.below hb oq l_hA hb.size
    replace hA := h9
    clear h9 oq
    rw [b5, b6]
    rw [b7] at hA
    go_wp2_with (guard_target =~ wpList _ _ _ (⟨some 52, _, _, _, _, _⟩ :: _) _ _; refine msT.load (op := ⟨some 52, .load _ _, _, _, _, _⟩) (by rfl) _ (by rfl) gy 0 (by rfl) (m2) hY.rangeK ?_)
    refine (HS ga noneS m2 300 w9 hA ok2).mono ?_
    rintro e w10 ⟨rfl, h9, oq⟩
    replace hX := hX.only oq (Ne.symm n_hA_hX)
    replace hY := hY.only oq (Ne.symm n_hA_hY)
    replace hb := Only.below hb oq l_hA hb.size
    replace hA := h9
    clear h9 oq
    rw [b8]
    go_wp2_with fail
    refine (awake16_from HNew HS HF HN HW _).mono ?_
    rintro e wz ⟨rfl, bz⟩
    go_wp2_with fail
    go_ret
    exact ⟨rfl, bnext hb bz⟩
  · skip
    go_wp2_with fail
    refine (HC ga ⟨some (m2, 200), some m3⟩ w8 hA).mono ?_
    rintro e w9 ⟨rfl, h9, oq⟩
    replace hX := hX.only oq (Ne.symm n_hA_hX)
    replace hY := hY.only oq (Ne.symm n_hA_hY)
    replace hb := Only.below hb oq l_hA hb.size
    replace hA := h9
    clear h9 oq
    have c6' := c6.out _ hY
    go_wp2_with (guard_target =~ wpList _ _ _ (⟨some 46, _, _, _, _, _⟩ :: _) _ _; refine wpList_build_any (op := ⟨some 46, .build _ _, _, _, _, _⟩) (by rfl) _ _ (by rfl) _ (by rfl) (msK.enc m4).toArray (by rw [hm4.out]; kernel_rfl) ?_)
    clear c6'
    refine (HF ga noneS m4 w9 hA ok4).mono ?_
    rintro e w10 ⟨rfl, h9, oq⟩
    replace hX := hX.only oq (Ne.symm n_hA_hX)
    replace hY := hY.only oq (Ne.symm n_hA_hY)
    replace hb := Only.below hb oq l_hA hb.size
    replace hA := h9
    clear h9 oq
    rw [b9]
    rw [b10] at hA
    go_wp2_with (guard_target =~ wpList _ _ _ (⟨some 52, _, _, _, _, _⟩ :: _) _ _; refine msT.load (op := ⟨some 52, .load _ _, _, _, _, _⟩) (by rfl) _ (by rfl) gy 0 (by rfl) (m2) hY.rangeK ?_)
    refine (HS ga ⟨none, some m4⟩ m2 300 w10 hA ok2).mono ?_
    rintro e w11 ⟨rfl, h9, oq⟩
    replace hX := hX.only oq (Ne.symm n_hA_hX)
    replace hY := hY.only oq (Ne.symm n_hA_hY)
    replace hb := Only.below hb oq l_hA hb.size
    replace hA := h9
    clear h9 oq
    rw [b11]
    go_wp2_with fail
    refine (awake16_from HNew HS HF HN HW _).mono ?_
    rintro e wz ⟨rfl, bz⟩
    go_wp2_with fail
    go_ret
    exact ⟨rfl, bnext hb bz⟩

end Go.Proofs.Ytmcjbidfogoonaa
