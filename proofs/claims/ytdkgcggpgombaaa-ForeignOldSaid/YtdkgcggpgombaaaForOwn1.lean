/- The program's own table: New, within, late, times, find. -/
import Derived.Test.YtdkgcggpgombaaaForTab
import Derived.Test.YtdkgcggpgombaaaNum
import Derived.BigQuiet
namespace Go.Proofs.Ytdkgcggpgombaaa
open Go.RowKit Go.Proofs
set_option maxRecDepth 50000
set_option linter.unusedVariables false
set_option linter.unusedSimpArgs false

set_option maxRecDepth 100000 in
set_option maxHeartbeats 8000000 in
theorem ownNewF : CNewF TabR := by
  intro own port win w hown
  have e : Hid (FAt TabR (w.alloc (Obj.cells (tabL own port (clampW win) [zeroR, zeroR, zeroR, zeroR, zeroR] 0).toArray 55)) w.heap.size ⟨own, port, clampW win, []⟩) :=
    hid (tab_shut (rs := [zeroR, zeroR, zeroR, zeroR, zeroR]) rfl (by simp) (Box.new w _ _) rfl (by unfold clampW; dsimp only; split <;> (try split) <;> omega) (by simp))
  have nb := hid (bnew w (Obj.cells (tabL own port (clampW win) [zeroR, zeroR, zeroR, zeroR, zeroR] 0).toArray 55))
  obtain ⟨W, hW⟩ : ∃ W : Int, clampW win = W := ⟨_, rfl⟩
  rw [hW] at e nb ⊢
  unfold clampW at hW
  have hc : (win < 1 ∧ W = 1) ∨ (1048576 < win ∧ W = 1048576) ∨ (1 ≤ win ∧ win ≤ 1048576 ∧ W = win) := by
    by_cases h1 : win < 1
    · rw [if_pos h1] at hW; omega
    · rw [if_neg h1] at hW
      by_cases h2 : 1048576 < win
      · rw [if_pos h2] at hW; omega
      · rw [if_neg h2] at hW; omega
  clear hW
  rcases hc with ⟨h1, rfl⟩ | ⟨h1, rfl⟩ | ⟨h1, h2, rfl⟩
  · go_enter Try.func8, Try.ntmps8
    go_wp2_with (guard_target =~ wpList _ _ _ (⟨some 13, _, _, _, _, _⟩ :: _) _ _; refine wpList_build_any (op := ⟨some 13, .build _ _, _, _, _, _⟩) (by rfl) _ _ (by rfl) _ (by rfl) (tabL own port 1 [zeroR, zeroR, zeroR, zeroR, zeroR] 0).toArray (by kernel_rfl) ?_)
    go_ret
    exact ⟨_, rfl, Nat.le_refl _, e.out, nb.out⟩
  · go_enter Try.func8, Try.ntmps8
    go_wp2_with (guard_target =~ wpList _ _ _ (⟨some 13, _, _, _, _, _⟩ :: _) _ _; refine wpList_build_any (op := ⟨some 13, .build _ _, _, _, _, _⟩) (by rfl) _ _ (by rfl) _ (by rfl) (tabL own port 1048576 [zeroR, zeroR, zeroR, zeroR, zeroR] 0).toArray (by kernel_rfl) ?_)
    go_ret
    exact ⟨_, rfl, Nat.le_refl _, e.out, nb.out⟩
  · go_enter Try.func8, Try.ntmps8
    go_wp2_with (guard_target =~ wpList _ _ _ (⟨some 13, _, _, _, _, _⟩ :: _) _ _; refine wpList_build_any (op := ⟨some 13, .build _ _, _, _, _, _⟩) (by rfl) _ _ (by rfl) _ (by rfl) (tabL own port W [zeroR, zeroR, zeroR, zeroR, zeroR] 0).toArray (by kernel_rfl) ?_)
    go_ret
    exact ⟨_, rfl, Nat.le_refl _, e.out, nb.out⟩

set_option maxRecDepth 100000 in
set_option maxHeartbeats 8000000 in
theorem within_any (g : Nat) (own port win : Int) (rs : List Rc) (n : Nat) (th now : Int) (w : World) (hB : Box w g (tabL own port win rs n) 55) (h1 : 1 ≤ win ∧ win ≤ 1048576) (h2 : -1 ≤ th ∧ th ≤ 1099511627776) :
    Calls Try.prog 21 #[.pointer (some ⟨g, 0, none⟩), .int .i64 th, .int .i64 now] w fun e w' => e = .returned (.bool (decide (now < th + win))) ∧ w' = w := by
  have c2 := hB.cell 2 _ rfl
  have hw : wrap64 (th + win) = th + win := by unfold wrap64; omega
  go_enter Try.func21, Try.ntmps21
  go_wp2_with fail
  go_ret
  exact ⟨rfl, rfl⟩

theorem and_256 (x : Nat) : x &&& 2 ^ 8 = x / 2 ^ 8 % 2 * 2 ^ 8 := by
  apply Nat.eq_of_testBit_eq
  intro i
  rw [Nat.testBit_and, Nat.testBit_two_pow, Nat.testBit_mul_two_pow, show x / 2 ^ 8 % 2 = x / 2 ^ 8 % 2 ^ 1 from rfl, Nat.testBit_mod_two_pow, Nat.testBit_div_two_pow]
  by_cases h : i = 8
  · subst h
    simp
  · by_cases h2 : 8 ≤ i
    · have h3 : ¬ (i - 8 < 1) := by omega
      have h4 : ¬ (8 = i) := by omega
      simp [h3, h4]
    · have h4 : ¬ (8 = i) := by omega
      simp [h2, h4]

theorem and_bit8 (n : Int) : bits .and .i64 n 256 = if (n / 256) % 2 = 1 then 256 else 0 := by
  have key : (BitVec.ofInt 64 n &&& BitVec.ofInt 64 256).toNat = ((n % 18446744073709551616).toNat / 2 ^ 8 % 2) * 2 ^ 8 := by
    rw [BitVec.toNat_and, BitVec.toNat_ofInt, show (BitVec.ofInt 64 256).toNat = 2 ^ 8 by decide, and_256]
    rfl
  show IntKind.i64.wrap ((BitVec.ofInt 64 n &&& BitVec.ofInt 64 256).toNat : Nat) = _
  rw [key, IntKind.wrap_i64]
  have h0 := Int.emod_nonneg n (show (18446744073709551616 : Int) ≠ 0 by decide)
  obtain ⟨m, hm⟩ : ∃ m : Nat, (n % 18446744073709551616).toNat = m := ⟨_, rfl⟩
  have hm2 : n % 18446744073709551616 = (m : Int) := by omega
  rw [hm]
  have h8 : (2 : Nat) ^ 8 = 256 := by decide
  rw [h8]
  have e : (n / 256) % 2 = ((m / 256 % 2 : Nat) : Int) := by omega
  rw [e]
  have hr : m / 256 % 2 = 0 ∨ m / 256 % 2 = 1 := by omega
  rcases hr with hr | hr <;> rw [hr] <;> decide

theorem u16_less (a b : Int) : IntKind.u16.wrap (IntKind.u16.wrap a - IntKind.u16.wrap b) = (a - b) % 65536 := by
  have h : ∀ x : Int, IntKind.u16.wrap x = x % 65536 := fun x => by rw [show IntKind.u16.wrap x = x % 65536 from rfl]
  rw [h, h, h]
  omega

set_option maxRecDepth 100000 in
set_option maxHeartbeats 8000000 in
theorem late_any (r : Rc) (sq now : Int) (w : World) :
    Calls Try.prog 18 #[.agg (rcL r).toArray, .int .i64 sq, .int .i64 now] w fun e w' => e = .returned (.bool (decide (oldR r sq now))) ∧ Below w.heap.size w w' := by
  have nb := bnew w (Obj.cells (rcL r).toArray 46)
  have hB := Box.new w (rcL r) 46
  have c14 := hB.cell 14 _ rfl
  have c16 := hB.cell 16 _ rfl
  have hs := u16_less r.sq sq
  obtain ⟨D, hD⟩ : ∃ D : Int, (r.sq - sq) % 65536 = D := ⟨_, rfl⟩
  have ho : oldR r sq now = (D ≤ 32767 ∨ now < r.la) := by unfold oldR; rw [hD]
  rw [hD] at hs
  simp only [ho]
  clear hD ho hB
  go_enter Try.func18, Try.ntmps18
  by_cases h1 : D < 32768
  · have hR := hid (show decide (D ≤ 32767 ∨ now < r.la) = true from decide_eq_true (.inl (by omega)))
    go_wp2_with fail
    go_ret
    exact ⟨ret_bool (by first | rfl | (simp; omega)), nb⟩
  · by_cases h2 : now < r.la
    · have hR := hid (show decide (D ≤ 32767 ∨ now < r.la) = true from decide_eq_true (.inr h2))
      go_wp2_with fail
      go_ret
      exact ⟨ret_bool (by first | rfl | (simp; omega)), nb⟩
    · have hR := hid (show decide (D ≤ 32767 ∨ now < r.la) = false from decide_eq_false (by omega))
      go_wp2_with fail
      go_ret
      exact ⟨ret_bool (by first | rfl | (simp; omega)), nb⟩

def tiK : RowK (Int × Int × Int) := ⟨fun x => [.int .i64 x.1, .int .i64 x.2.1, .int .i64 x.2.2], 3, by decide, fun _ => rfl, fun x u hu => by simp only [List.mem_cons, List.mem_nil_iff, or_false] at hu; rcases hu with rfl | rfl | rfl <;> rfl⟩
theorem tiT : StrT tiK 44 := ⟨⟨_, Try.underlying44, rfl⟩, by kernel_rfl⟩
theorem veT : StrT vecK 42 := ⟨⟨_, Try.underlying42, rfl⟩, by kernel_rfl⟩

-- gen_forown.py: what stands behind is written by it
set_option maxRecDepth 100000 in
set_option maxHeartbeats 8000000 in
theorem times_any (h : Hd) (d : Bd) (w : World) :
    Calls Try.prog 20 #[.agg (msgF h d).toArray] w fun e w' => e = .returned (.agg (tiK.enc (d.ut, h.fl % 64, d.og)).toArray) ∧ Below w.heap.size w w' := by
  have m6 : bits BinOp.and IntKind.i64 h.fl 63 = h.fl % 64 := and_mask h.fl 6 (by decide)
  have z0 := bnew w (Obj.cells (msgF h d).toArray 31)
  have hM := Box.new w (msgF h d) 31
  have z1 := bnew (w.alloc (Obj.cells (msgF h d).toArray 31)) (Obj.cells (tiK.enc (0, 0, 0)).toArray 44)
  have hN := Box.new (w.alloc (Obj.cells (msgF h d).toArray 31)) (tiK.enc (0, 0, 0)) 44
  replace hM := hM.below z1
  have hb := z0
  replace hb := bnext hb z1
  clear z0
  clear z1
  have s1 : (w.alloc (Obj.cells (msgF h d).toArray 31)).heap.size = w.heap.size + 1 := by simp
  rw [s1] at hN
  go_enter Try.func20, Try.ntmps20
  go_upto_region 1 with fail
  change Code.wp Try.prog _ _ _ ((w.alloc (Obj.cells (msgF h d).toArray 31)).alloc (Obj.cells (tiK.enc (0, 0, 0)).toArray 44))
  generalize ((w.alloc (Obj.cells (msgF h d).toArray 31)).alloc (Obj.cells (tiK.enc (0, 0, 0)).toArray 44)) = W at *
  clear s1
  generalize hG : w.heap.size = G at *
  rw [← hG] at hb
  have l_hM : w.heap.size ≤ G := by omega
  have l_hN : w.heap.size ≤ G + 1 := by omega
  have n_hM_hN : G ≠ G + 1 := by omega
  have c2 := hM.cell 2 _ rfl
  have c11 := hM.cell 11 _ rfl
  have c19 := hM.cell 19 _ rfl
  clear hM
  go_wp2_with (guard_target =~ wpList _ _ _ (⟨none, _, _, _, _, _⟩ :: _) _ _; refine tiT.store (op := ⟨none, .store _ _ _, _, _, _, _⟩) (by rfl) _ _ (by rfl) (G + 1) (d.ut, h.fl % 64, d.og) (0, 0, 0) _ (by rfl) (by rfl) hN ?_)
  exact bodyPost_ret (v := .agg (tiK.enc (d.ut, h.fl % 64, d.og)).toArray) (tiT.result rfl _ _ (G + 1) _ _ rfl (hN.rowK _)) rfl ⟨rfl, below_setRow hb (by omega) _⟩

set_option maxRecDepth 100000 in
set_option maxHeartbeats 8000000 in
theorem vector_any (g : Nat) (own port win : Int) (rs : List Rc) (n : Nat) (h : Hd) (d : Bd) (w : World) (hB : Box w g (tabL own port win rs n) 55) :
    Calls Try.prog 19 #[.pointer (some ⟨g, 0, none⟩), .agg (msgF h d).toArray] w fun e w' => e = .returned (.agg (vecK.enc ⟨d.p1, d.qc, d.qa, d.qv, d.p2, d.gr, d.sr, h.sc, h.sp, own, port⟩).toArray) ∧ Below w.heap.size w w' := by
  have z0 := bnew w (Obj.cells (msgF h d).toArray 31)
  have hM := Box.new w (msgF h d) 31
  have z1 := bnew (w.alloc (Obj.cells (msgF h d).toArray 31)) (Obj.cells (vecK.enc zeroV).toArray 42)
  have hN := Box.new (w.alloc (Obj.cells (msgF h d).toArray 31)) (vecK.enc zeroV) 42
  replace hM := hM.below z1
  have hb := z0
  replace hb := bnext hb z1
  clear z0
  clear z1
  have s1 : (w.alloc (Obj.cells (msgF h d).toArray 31)).heap.size = w.heap.size + 1 := by simp
  rw [s1] at hN
  have hT := hB.below hb
  have hgl := hB.lt
  go_enter Try.func19, Try.ntmps19
  go_upto_region 1 with fail
  change Code.wp Try.prog _ _ _ ((w.alloc (Obj.cells (msgF h d).toArray 31)).alloc (Obj.cells (vecK.enc zeroV).toArray 42))
  generalize ((w.alloc (Obj.cells (msgF h d).toArray 31)).alloc (Obj.cells (vecK.enc zeroV).toArray 42)) = W at *
  clear s1
  generalize hG : w.heap.size = G at *
  rw [← hG] at hb
  have l_hM : w.heap.size ≤ G := by omega
  have l_hN : w.heap.size ≤ G + 1 := by omega
  have n_hM_hN : G ≠ G + 1 := by omega
  refine wp_region_held_drew (S := fun w' => Box w' g (tabL own port win rs n) 55 ∧ Box w' G (msgF h d) 31) (by kernel_rfl) (⟨hT.below (Below.drew (Below.refl _ _)), hM.below (Below.drew (Below.refl _ _))⟩) ?_
  intro hS
  have hbd := Below.drew (Below.refl W.heap.size W)
  replace hN := hN.below hbd
  replace hb := bnext hb hbd
  clear hM hT hbd
  generalize W.drew = WD at *
  obtain ⟨v1, hv1⟩ : ∃ v1 : Vc, v1 = ⟨d.p1, d.qc, d.qa, d.qv, d.p2, d.gr, d.sr, h.sc, h.sp, own, port⟩ := ⟨_, rfl⟩
  replace hv1 := hid hv1
  refine rtake 0 rfl (by rfl) (by kernel_rfl) (by kernel_rfl) (by kernel_rfl) (fun _ _ _ h => h) hS (fun wx hwx => by go_simp; try with_reducible rfl) ?_
  try simp only [Act.put, List.setIfInBounds_toArray, List.set_cons_zero, List.set_cons_succ]
  refine rtake 1 rfl (by rfl) (by kernel_rfl) (by kernel_rfl) (by kernel_rfl) (fun _ _ _ h => h) hS (fun wx hwx => by have qm_12 := (hwx.2).cell 12 _ rfl; go_simp; try with_reducible rfl) ?_
  try simp only [Act.put, List.setIfInBounds_toArray, List.set_cons_zero, List.set_cons_succ]
  refine rtake 2 rfl (by rfl) (by kernel_rfl) (by kernel_rfl) (by kernel_rfl) (fun _ _ _ h => h) hS (fun wx hwx => by go_simp; try with_reducible rfl) ?_
  try simp only [Act.put, List.setIfInBounds_toArray, List.set_cons_zero, List.set_cons_succ]
  refine rtake 3 rfl (by rfl) (by kernel_rfl) (by kernel_rfl) (by kernel_rfl) (fun _ _ _ h => h) hS (fun wx hwx => by have qm_13 := (hwx.2).cell 13 _ rfl; have qm_14 := (hwx.2).cell 14 _ rfl; have qm_15 := (hwx.2).cell 15 _ rfl; go_simp; try with_reducible rfl) ?_
  try simp only [Act.put, List.setIfInBounds_toArray, List.set_cons_zero, List.set_cons_succ]
  refine rtake 4 rfl (by rfl) (by kernel_rfl) (by kernel_rfl) (by kernel_rfl) (fun _ _ _ h => h) hS (fun wx hwx => by go_simp; try with_reducible rfl) ?_
  try simp only [Act.put, List.setIfInBounds_toArray, List.set_cons_zero, List.set_cons_succ]
  refine rtake 5 rfl (by rfl) (by kernel_rfl) (by kernel_rfl) (by kernel_rfl) (fun _ _ _ h => h) hS (fun wx hwx => by have qm_16 := (hwx.2).cell 16 _ rfl; go_simp; try with_reducible rfl) ?_
  try simp only [Act.put, List.setIfInBounds_toArray, List.set_cons_zero, List.set_cons_succ]
  refine rtake 6 rfl (by rfl) (by kernel_rfl) (by kernel_rfl) (by kernel_rfl) (fun _ _ _ h => h) hS (fun wx hwx => by go_simp; try with_reducible rfl) ?_
  try simp only [Act.put, List.setIfInBounds_toArray, List.set_cons_zero, List.set_cons_succ]
  refine rtake 7 rfl (by rfl) (by kernel_rfl) (by kernel_rfl) (by kernel_rfl) (fun _ _ _ h => h) hS (fun wx hwx => by have qm_17 := (hwx.2).cell 17 _ rfl; go_simp; try with_reducible rfl) ?_
  try simp only [Act.put, List.setIfInBounds_toArray, List.set_cons_zero, List.set_cons_succ]
  refine rtake 8 rfl (by rfl) (by kernel_rfl) (by kernel_rfl) (by kernel_rfl) (fun _ _ _ h => h) hS (fun wx hwx => by go_simp; try with_reducible rfl) ?_
  try simp only [Act.put, List.setIfInBounds_toArray, List.set_cons_zero, List.set_cons_succ]
  refine rtake 9 rfl (by rfl) (by kernel_rfl) (by kernel_rfl) (by kernel_rfl) (fun _ _ _ h => h) hS (fun wx hwx => by have qm_18 := (hwx.2).cell 18 _ rfl; go_simp; try with_reducible rfl) ?_
  try simp only [Act.put, List.setIfInBounds_toArray, List.set_cons_zero, List.set_cons_succ]
  refine rtake 10 rfl (by rfl) (by kernel_rfl) (by kernel_rfl) (by kernel_rfl) (fun _ _ _ h => h) hS (fun wx hwx => by go_simp; try with_reducible rfl) ?_
  try simp only [Act.put, List.setIfInBounds_toArray, List.set_cons_zero, List.set_cons_succ]
  refine rtake 11 rfl (by rfl) (by kernel_rfl) (by kernel_rfl) (by kernel_rfl) (fun _ _ _ h => h) hS (fun wx hwx => by have qm_4 := (hwx.2).cell 4 _ rfl; have qm_5 := (hwx.2).cell 5 _ rfl; go_simp; try with_reducible rfl) ?_
  try simp only [Act.put, List.setIfInBounds_toArray, List.set_cons_zero, List.set_cons_succ]
  refine rtake 12 rfl (by rfl) (by kernel_rfl) (by kernel_rfl) (by kernel_rfl) (fun _ _ _ h => h) hS (fun wx hwx => by go_simp; try with_reducible rfl) ?_
  try simp only [Act.put, List.setIfInBounds_toArray, List.set_cons_zero, List.set_cons_succ]
  refine rtake 13 rfl (by rfl) (by kernel_rfl) (by kernel_rfl) (by kernel_rfl) (fun _ _ _ h => h) hS (fun wx hwx => by go_simp; try with_reducible rfl) ?_
  try simp only [Act.put, List.setIfInBounds_toArray, List.set_cons_zero, List.set_cons_succ]
  refine rtake 14 rfl (by rfl) (by kernel_rfl) (by kernel_rfl) (by kernel_rfl) (fun _ _ _ h => h) hS (fun wx hwx => by go_simp; try with_reducible rfl) ?_
  try simp only [Act.put, List.setIfInBounds_toArray, List.set_cons_zero, List.set_cons_succ]
  refine rtake 15 rfl (by rfl) (by kernel_rfl) (by kernel_rfl) (by kernel_rfl) (fun _ _ _ h => h) hS (fun wx hwx => by have qt_0 := (hwx.1).cell 0 _ rfl; have qt_1 := (hwx.1).cell 1 _ rfl; go_simp; try with_reducible rfl) ?_
  try simp only [Act.put, List.setIfInBounds_toArray, List.set_cons_zero, List.set_cons_succ]
  refine rtake 16 rfl (by rfl) (by kernel_rfl) (by kernel_rfl) (by kernel_rfl) (fun _ _ _ h => h) hS (fun wx hwx => by exact exec_build_any _ _ rfl _ rfl (vecK.enc v1).toArray (by rw [hv1.out]; kernel_rfl)) ?_
  try simp only [Act.put, List.setIfInBounds_toArray, List.set_cons_zero, List.set_cons_succ]
  refine rcall 17 rfl (by kernel_rfl) (by rfl) (fun K' hK => ?_)
  refine veT.op_store (op := ⟨none, .store _ _ _, _, _, _, _⟩) _ _ rfl (G + 1) v1 zeroV _ (by rfl) (by rfl) hN ?_
  refine hK.out _ _ ⟨hS.1.rowK_other (by omega) _, hS.2.rowK_other (by omega) _⟩ ?_
  clear hK K'
  try simp only [Act.put, List.setIfInBounds_toArray, List.set_cons_zero, List.set_cons_succ]
  refine wpAnyH_done (by kernel_rfl) ?_ _
  go_wp2_with fail
  rw [← hv1.out]
  exact bodyPost_ret (v := .agg (vecK.enc v1).toArray) (veT.result rfl _ _ (G + 1) _ _ rfl (hN.rowK _)) rfl ⟨rfl, below_setRow hb (by omega) _⟩

/-- What a message is refused for, whatever was heard ahead of it. -/
def refE (own : Int) (h : Hd) (d : Bd) (now : Int) : Int :=
  if h.ty ≠ 11 then 5 else if now < 0 ∨ 1099511627776 < now then 1 else if h.sc = own ∨ 255 ≤ d.sr ∨ (h.fl / 256) % 2 = 1 then 11 else 0
set_option maxRecDepth 100000 in
set_option maxHeartbeats 8000000 in
theorem refused_any (g : Nat) (own port win : Int) (rs : List Rc) (n : Nat) (h : Hd) (d : Bd) (now : Int) (w : World) (hB : Box w g (tabL own port win rs n) 55) :
    Calls Try.prog 16 #[.pointer (some ⟨g, 0, none⟩), .agg (msgF h d).toArray, .int .i64 now] w fun e w' => e = .returned (.int .i64 (refE own h d now)) ∧ Below w.heap.size w w' := by
  have z0 := bnew w (Obj.cells (msgF h d).toArray 31)
  have hM := Box.new w (msgF h d) 31
  have hb := z0
  clear z0
  have hT := hB.below hb
  have hgl := hB.lt
  go_enter Try.func16, Try.ntmps16
  go_upto_region 1 with fail
  change Code.wp Try.prog _ _ _ (w.alloc (Obj.cells (msgF h d).toArray 31))
  generalize (w.alloc (Obj.cells (msgF h d).toArray 31)) = W at *
  generalize hG : w.heap.size = G at *
  rw [← hG] at hb
  have l_hM : w.heap.size ≤ G := by omega
  have c0 := hM.cell 0 _ rfl
  have c2 := hM.cell 2 _ rfl
  have c4 := hM.cell 4 _ rfl
  have c18 := hM.cell 18 _ rfl
  have t0 := hT.cell 0 _ rfl
  clear hM hT
  have hbit := and_bit8 h.fl
  by_cases h1 : h.ty = 11
  · by_cases h2 : now < 0
    · have hE := hid (show refE own h d now = 1 by unfold refE; rw [if_neg (by omega), if_pos (.inl h2)])
      go_wp2_with fail
      go_ret
      exact ⟨ret_int hE.out.symm, by first | exact hb | exact hG ▸ hb⟩
    · by_cases h3 : 1099511627776 < now
      · have hE := hid (show refE own h d now = 1 by unfold refE; rw [if_neg (by omega), if_pos (.inr h3)])
        go_wp2_with fail
        go_ret
        exact ⟨ret_int hE.out.symm, by first | exact hb | exact hG ▸ hb⟩
      · go_upto_region 5 with fail
        by_cases h4 : h.sc = own
        · have hE := hid (show refE own h d now = 11 by unfold refE; rw [if_neg (by omega), if_neg (by omega), if_pos (.inl h4)])
          have h4b : (h.sc == own) = true := beq_iff_eq.2 h4
          clear hbit h4 h1 h2 h3
          go_quiet (fail)
          go_wp2_with fail
          go_ret
          exact ⟨ret_int hE.out.symm, drawnN_below hb _⟩
        · have h4b : (h.sc == own) = false := beq_false_of_ne h4
          by_cases h5 : 255 ≤ d.sr
          · have hE := hid (show refE own h d now = 11 by unfold refE; rw [if_neg (by omega), if_neg (by omega), if_pos (.inr (.inl h5))])
            clear hbit h4 h1 h2 h3
            go_quiet (fail)
            go_wp2_with fail
            go_ret
            exact ⟨ret_int hE.out.symm, drawnN_below hb _⟩
          · have h5b : decide (d.sr ≥ 255) = false := decide_eq_false h5
            by_cases h6 : (h.fl / 256) % 2 = 1
            · have hE := hid (show refE own h d now = 11 by unfold refE; rw [if_neg (by omega), if_neg (by omega), if_pos (.inr (.inr h6))])
              rw [if_pos h6] at hbit
              clear h4 h1 h2 h3 h5 h6
              go_quiet (fail)
              go_wp2_with fail
              go_ret
              exact ⟨ret_int hE.out.symm, drawnN_below hb _⟩
            · have hE := hid (show refE own h d now = 0 by unfold refE; rw [if_neg (by omega), if_neg (by omega), if_neg (by omega)])
              rw [if_neg h6] at hbit
              clear h4 h1 h2 h3 h5 h6
              go_quiet (fail)
              go_wp2_with fail
              go_ret
              exact ⟨ret_int hE.out.symm, drawnN_below hb _⟩
  · have hE := hid (show refE own h d now = 5 by unfold refE; rw [if_pos h1])
    go_wp2_with fail
    go_ret
    exact ⟨ret_int hE.out.symm, by first | exact hb | exact hG ▸ hb⟩

set_option maxRecDepth 100000 in
set_option maxHeartbeats 8000000 in
theorem find_any (g : Nat) (own port win : Int) (rs : List Rc) (n : Nat) (c p : Int) (w : World) (hB : Box w g (tabL own port win rs n) 55) (h5 : rs.length = 5) (hn : n ≤ 5) :
    Calls Try.prog 17 #[.pointer (some ⟨g, 0, none⟩), .agg #[.int .u64 c, .int .i64 p]] w fun e w' => e = .returned (.int .i64 (findN c p (rs.take n))) ∧ Below w.heap.size w w' := by
  have z0 := bnew w (Obj.cells ([.int .u64 c, .int .i64 p]).toArray 27)
  have hP := Box.new w ([.int .u64 c, .int .i64 p]) 27
  have hb := z0
  clear z0
  have hT := hB.below hb
  have hgl := hB.lt
  go_enter Try.func17, Try.ntmps17
  go_upto_region 1 with fail
  change Code.wp Try.prog _ _ _ (w.alloc (Obj.cells ([.int .u64 c, .int .i64 p]).toArray 27))
  generalize (w.alloc (Obj.cells ([.int .u64 c, .int .i64 p]).toArray 27)) = W at *
  generalize hG : w.heap.size = G at *
  rw [← hG] at hb
  have l_hP : w.heap.size ≤ G := by omega
  have HT := hid fun wx (h : Below W.heap.size W wx) => hT.below h
  have HP := hid fun wx (h : Below W.heap.size W wx) => hP.below h
  have HL := hid (show (rs.take n).length = n by rw [List.length_take]; omega)
  have HR := hid fun (k : Nat) (hk : k < 5) => (rfl : rs[k]'(by omega) = rs[k]'(by omega))
  have H5 := hid h5
  have t88 := hT.cell 88 _ (tab_count h5)
  have hnI : (n : Int) ≤ 5 := by omega
  have hn0 : (0 : Int) ≤ (n : Int) := by omega
  clear hP hT h5 HR
  go_quiet (fail)
  go_wp2_with fail
  have hbq := drewN_below W nq
  generalize W.drewN nq = W1 at *
  replace t88 := hid fun wx (h : Below W.heap.size W wx) => (by rw [h.cell (p := ⟨g, 88, none⟩) (by show g < _; have := hb.size; omega)]; exact t88 : wx.cell? ⟨g, 88, none⟩ = some (.int .i64 (n : Int)))
  have L := HL.out
  go_loopw [16] (fun i wr => ∃ k : Nat, k ≤ n ∧ i = .int .i64 k ∧ Hid (∀ j (hj : j < k) (hjn : j < (rs.take n).length), ¬ ((rs.take n)[j].v.sc = c ∧ (rs.take n)[j].v.sp = p)) ∧ Below W.heap.size W wr) (fun i _ => n - (intOf i).toNat)
  case atStart => exact ⟨0, Nat.zero_le _, rfl, hid (fun j hj => absurd hj (Nat.not_lt_zero j)), hbq⟩
  case round =>
    obtain ⟨k, hk, rfl, hno, bq⟩ := hrel
    by_cases hlt : k < n
    · have hkI : (k : Int) < (n : Int) := by omega
      have hRg := (HT.out _ bq).rec H5.out k (by omega)
      have hr : (rs.take n)[k]'(by rw [L]; exact hlt) = rs[k]'(by have := H5.out; omega) := List.getElem_take
      generalize rs[k]'(by have := H5.out; omega) = r at *
      have z1 := bnew wr (Obj.cells (rcL zeroR).toArray 46)
      have hX := Box.new wr (rcL zeroR) 46
      replace hr := hid hr
      go_upto_region 4 with (first | (guard_target =~ wpList _ _ _ (⟨some 20, _, _, _, _, _⟩ :: _) _ _; refine recT.load (op := ⟨some 20, .load _ _, _, _, _, _⟩) (by rfl) _ (by rfl) g (3 + k * 17) (by rfl) r hRg ?_) | (guard_target =~ wpList _ _ _ (⟨none, _, _, _, _, _⟩ :: _) _ _; refine recT.store (op := ⟨none, .store _ _ _, _, _, _, _⟩) (by rfl) _ _ (by rfl) wr.heap.size r zeroR _ (by rfl) (by rfl) hX ?_))
      have hZ := hX.rowK (rcL r)
      have hW := below_setRow z1 (Nat.le_refl _) (rcL r).toArray
      change Code.wp Try.prog _ _ _ ((wr.alloc (Obj.cells (rcL zeroR).toArray 46)).setRow wr.heap.size (rcL r).toArray)
      generalize (wr.alloc (Obj.cells (rcL zeroR).toArray 46)).setRow wr.heap.size (rcL r).toArray = W2 at *
      replace bq := bnext bq hW
      generalize wr.heap.size = g9 at *
      clear z1 hX hW hRg
      have c7 := hZ.cell 7 _ rfl
      have c8 := hZ.cell 8 _ rfl
      have p0 := (HP.out _ bq).cell 0 _ rfl
      have p1 := (HP.out _ bq).cell 1 _ rfl
      clear hZ
      by_cases hc : r.v.sc = c
      · by_cases hp : r.v.sp = p
        · have hF := hid (show (findN c p (rs.take n)) = k from findN_is c p _ k (by rw [L]; exact hlt) (fun j hj => hno.out j hj (by rw [L]; omega)) (by rw [hr.out]; exact ⟨hc, hp⟩))
          clear hno hr
          go_wp2_with fail
          go_ret
          exact ⟨ret_int (by rw [hF.out]), bnext hb bq⟩
        · have hN := hid (fun j (hj : j < k + 1) (hjn : j < (rs.take n).length) => (by rcases Nat.lt_or_ge j k with h | h; exact hno.out j h hjn; obtain rfl : j = k := (by omega); rw [hr.out]; exact fun hh => hp hh.2 : ¬ ((rs.take n)[j].v.sc = c ∧ (rs.take n)[j].v.sp = p)))
          clear hno hr
          go_wp2_with fail
          go_roundw
          case rel => exact ⟨k + 1, by omega, by go_num, hN, bq⟩
          case measure => (simp [intOf] <;> omega)
      · have hN := hid (fun j (hj : j < k + 1) (hjn : j < (rs.take n).length) => (by rcases Nat.lt_or_ge j k with h | h; exact hno.out j h hjn; obtain rfl : j = k := (by omega); rw [hr.out]; exact fun hh => hc hh.1 : ¬ ((rs.take n)[j].v.sc = c ∧ (rs.take n)[j].v.sp = p)))
        clear hno hr
        go_wp2_with fail
        go_roundw
        case rel => exact ⟨k + 1, by omega, by go_num, hN, bq⟩
        case measure => (simp [intOf] <;> omega)
    · obtain rfl : k = n := by omega
      have hF := hid (show (findN c p (rs.take k)) = k from (findN_none c p _ (fun j hj => hno.out j (by rw [L] at hj; exact hj) hj)).trans L)
      have t := t88.out _ bq
      clear hno
      go_wp2_with fail
      go_ret
      exact ⟨ret_int (by rw [hF.out]), bnext hb bq⟩
end Go.Proofs.Ytdkgcggpgombaaa
