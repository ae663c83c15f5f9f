/- The document's own oscillator of chapter 24 (gen_oscref.py). -/
import Derived.Test.YtelgdfcpccamnaaOsc
import Derived.Test.YtelgdfcpccamnaaBuild
namespace Go.Proofs.Ytelgdfcpccamnaa
open Go.RowKit Go.Proofs
set_option maxRecDepth 50000
set_option linter.unusedVariables false
set_option linter.unusedSimpArgs false

def oK : RowK Oz := ⟨fun s => [.int .i64 s.t, .int .i64 s.l, .int .i64 s.r, .int .i64 s.f], 4, by decide, fun _ => rfl, by
  intro q v hv
  simp only [List.mem_cons, List.not_mem_nil, or_false] at hv
  rcases hv with rfl | rfl | rfl | rfl <;> rfl⟩
/-- What its cells say. -/
def RO (xs : List Value) (s : Oz) : Prop := xs = oK.enc s

set_option maxRecDepth 100000 in
set_option maxHeartbeats 8000000 in
theorem refCut_any (v : Int) (w : World) : Calls Try.prog 23 #[.int .i64 v] w fun e w' => e = .returned (.int .i64 (cutS v)) ∧ w = w' := by
  go_enter Try.func23, Try.ntmps23
  go_wp2_with fail
  all_goals
    go_ret
    exact ⟨ret_int (by unfold cutS cutI; omega), rfl⟩

set_option maxRecDepth 100000 in
set_option maxHeartbeats 8000000 in
theorem refFreq_any (v : Int) (w : World) : Calls Try.prog 24 #[.int .i64 v] w fun e w' => e = .returned (.int .i64 (cutF v)) ∧ w = w' := by
  go_enter Try.func24, Try.ntmps24
  go_wp2_with fail
  all_goals
    go_ret
    exact ⟨ret_int (by unfold cutF cutI; omega), rfl⟩

set_option maxRecDepth 100000 in
set_option maxHeartbeats 8000000 in
theorem refNewO_any (l r : Int) (w : World) : Calls Try.prog 8 #[.int .i64 l, .int .i64 r] w fun e w' => ∃ g, e = .returned (.pointer (some ⟨g, 0, none⟩)) ∧ w.heap.size ≤ g ∧ ObAt 34 RO w' g (newO l r) ∧ Below w.heap.size w w' := by
  have hb := bnew w (Obj.cells (oK.enc (newO l r)).toArray 34)
  have hB := Box.new w (oK.enc (newO l r)) 34
  go_enter Try.func8, Try.ntmps8
  go_wp2_with fail
  refine (refCut_any _ _).mono ?_
  rintro e w1 ⟨rfl, rfl⟩
  go_wp2_with fail
  refine (refFreq_any _ _).mono ?_
  rintro e w1 ⟨rfl, rfl⟩
  go_wp2_with (guard_target =~ wpList _ _ _ (⟨some 9, _, _, _, _, _⟩ :: _) _ _; refine wpList_build_any (op := ⟨some 9, .build _ _, _, _, _, _⟩) (by rfl) _ _ (by rfl) _ (by rfl) (oK.enc (newO l r)).toArray (by kernel_rfl) ?_)
  go_ret
  exact ⟨_, rfl, Nat.le_refl _, ⟨_, hB, rfl⟩, hb⟩

set_option maxRecDepth 100000 in
set_option maxHeartbeats 8000000 in
theorem refAt_any (g : Nat) (s : Oz) (t : Int) (w : World) (hA : ObAt 34 RO w g s) : Calls Try.prog 29 #[.pointer (some ⟨g, 0, none⟩), .int .i64 t] w fun e w' => e = .returned (.int .i64 (atO s t)) ∧ w = w' := by
  obtain ⟨xs, hB, rfl⟩ := hA
  have c0 : w.cell? ⟨g, 0, none⟩ = some (.int .i64 s.t) := hB.cell 0 _ rfl
  go_enter Try.func29, Try.ntmps29
  go_wp2_with fail
  all_goals
    go_ret
    exact ⟨ret_int (by unfold atO; omega), rfl⟩

set_option maxRecDepth 100000 in
set_option maxHeartbeats 8000000 in
theorem refReadO_any (g : Nat) (s : Oz) (t : Int) (w : World) (hA : ObAt 34 RO w g s) (hin : InO s) : Calls Try.prog 17 #[.pointer (some ⟨g, 0, none⟩), .int .i64 t] w fun e w' => e = .returned (.int .i64 (readO s t)) ∧ Below w.heap.size w w' := by
  have HAT := hid fun (wx : World) (h : ObAt 34 RO wx g s) => refAt_any g s t wx h
  obtain ⟨xs, hB, hxs⟩ := hA
  have hxs' : xs = oK.enc s := hxs
  subst hxs'
  obtain ⟨hA0, hA1, hA2⟩ := atO_range hin t
  have hb := Below.refl w.heap.size w
  obtain ⟨D, hD⟩ : ∃ D, D = atO s t - s.t := ⟨_, rfl⟩
  obtain ⟨RR, hRR⟩ : ∃ RR, RR = s.r + s.f := ⟨_, rfl⟩
  obtain ⟨⟨i1, i2⟩, ⟨i3, i4⟩, ⟨i5, i6⟩, i7, i8⟩ := hin
  have hDr : 0 ≤ D ∧ D ≤ 4000000000000000 := by omega
  have hRb : -1024000 ≤ RR ∧ RR ≤ 1024000 := by omega
  obtain ⟨q, hq⟩ : ∃ q, q = D / 1000000000 := ⟨_, rfl⟩
  obtain ⟨m, hm⟩ : ∃ m, m = D % 1000000000 := ⟨_, rfl⟩
  have hqb : 0 ≤ q ∧ q ≤ 4000000 := by omega
  have hmb : 0 ≤ m ∧ m < 1000000000 := by omega
  have b1 := mul_bounds hqb.1 hqb.2 hRb.1 hRb.2 (by decide)
  have b2 := mul_bounds hmb.1 (Int.le_of_lt hmb.2) hRb.1 hRb.2 (by decide)
  obtain ⟨XX, hXX⟩ : ∃ XX, XX = q * RR := ⟨_, rfl⟩
  obtain ⟨YY, hYY⟩ : ∃ YY, YY = m * RR := ⟨_, rfl⟩
  rw [← hXX] at b1
  rw [← hYY] at b2
  have hval : readO s t = cutS (s.l + D + (XX + YY / 1000000000)) := by
    unfold readO
    rw [← hD, ← hRR]
    congr 1
    have e : D * RR = YY + XX * 1000000000 := by
      rw [hXX, hYY, Int.mul_right_comm, ← Int.add_mul]
      congr 1
      omega
    rw [e, Int.add_mul_ediv_right _ _ (by decide)]
    omega
  have hq2 : D.tdiv 1000000000 = q := by rw [hq]; exact Int.tdiv_eq_ediv_of_nonneg hDr.1
  have hm2 : D.tmod 1000000000 = m := by rw [hm]; exact Int.tmod_eq_emod_of_nonneg hDr.1
  have wD : IntKind.i64.wrap (atO s t - s.t) = D := by rw [IntKind.wrap_i64]; omega
  have wR : IntKind.i64.wrap (s.r + s.f) = RR := by rw [IntKind.wrap_i64]; omega
  have wq : IntKind.i64.wrap (D.tdiv 1000000000) = q := by rw [hq2, IntKind.wrap_i64]; omega
  have wX : IntKind.i64.wrap (q * RR) = XX := by rw [← hXX, IntKind.wrap_i64]; omega
  have wm : IntKind.i64.wrap (D.tmod 1000000000) = m := by rw [hm2, IntKind.wrap_i64]; omega
  have wY : IntKind.i64.wrap (m * RR) = YY := by rw [← hYY, IntKind.wrap_i64]; omega
  have hmd : D % 1000000000 = m := hm.symm
  obtain ⟨Z, hZ⟩ : ∃ Z, Z = YY.tdiv 1000000000 := ⟨_, rfl⟩
  obtain ⟨U, hU⟩ : ∃ U, U = YY.tmod 1000000000 := ⟨_, rfl⟩
  have hUb := tmod_bounds YY 1000000000 (by decide)
  rw [← hU] at hUb
  have hYU : YY = 1000000000 * Z + U := by rw [hZ, hU]; exact (Int.mul_tdiv_add_tmod YY 1000000000).symm
  have wZ : IntKind.i64.wrap (YY.tdiv 1000000000) = Z := by rw [← hZ, IntKind.wrap_i64]; omega
  have hU' : YY.tmod 1000000000 = U := hU.symm
  obtain ⟨F, hF⟩ : ∃ F, F = YY / 1000000000 := ⟨_, rfl⟩
  have hFU : F = if U < 0 then Z - 1 else Z := by
    split <;> omega
  obtain ⟨N1, hN1⟩ : ∃ N1, N1 = s.l + D + XX := ⟨_, rfl⟩
  obtain ⟨N2, hN2⟩ : ∃ N2, N2 = N1 + F := ⟨_, rfl⟩
  have w1 : IntKind.i64.wrap (s.l + D + XX) = N1 := by rw [← hN1, IntKind.wrap_i64]; omega
  have wF : IntKind.i64.wrap (N1 + F) = N2 := by rw [← hN2, IntKind.wrap_i64]; omega
  have wZ1 : IntKind.i64.wrap (Z - 1) = Z - 1 := by rw [IntKind.wrap_i64]; omega
  have HV := hid (show readO s t = cutS N2 from by rw [hval]; congr 1; omega)
  have HF := hid hFU
  clear hval hXX hYY hq hm hq2 hm2 hA0 hA1 hA2 i1 i2 i5 i6 i7 i8 hD hRR b1 b2 hZ hU hUb hYU hF hFU hN1 hN2
  go_enter Try.func17, Try.ntmps17
  go_upto_region 1 with fail
  refine wp_region_held_drew (S := fun w' => Box w' g (oK.enc s) 34) (by kernel_rfl) (hB.below (Below.drew (Below.refl _ _))) ?_
  intro hS
  have hbd := Below.drew (Below.refl w.heap.size w)
  replace hb := bnext hb hbd
  clear hbd hB
  generalize w.drew = wd at *
  refine rtake 0 rfl (by rfl) (by kernel_rfl) (by kernel_rfl) (by kernel_rfl) (fun _ _ _ h => h) hS (fun wx hwx => by go_simp; try with_reducible rfl) ?_
  try simp only [Act.put, List.setIfInBounds_toArray, List.set_cons_zero, List.set_cons_succ]
  refine rtake 1 rfl (by rfl) (by kernel_rfl) (by kernel_rfl) (by kernel_rfl) (fun _ _ _ h => h) hS (fun wx hwx => by go_simp; try with_reducible rfl) ?_
  try simp only [Act.put, List.setIfInBounds_toArray, List.set_cons_zero, List.set_cons_succ]
  refine rtake 3 rfl (by rfl) (by kernel_rfl) (by kernel_rfl) (by kernel_rfl) (fun _ _ _ h => h) hS (fun wx hwx => by go_simp; try with_reducible rfl) ?_
  try simp only [Act.put, List.setIfInBounds_toArray, List.set_cons_zero, List.set_cons_succ]
  refine rtake 4 rfl (by rfl) (by kernel_rfl) (by kernel_rfl) (by kernel_rfl) (fun _ _ _ h => h) hS (fun wx hwx => by go_simp; try with_reducible rfl) ?_
  try simp only [Act.put, List.setIfInBounds_toArray, List.set_cons_zero, List.set_cons_succ]
  refine rtake 5 rfl (by rfl) (by kernel_rfl) (by kernel_rfl) (by kernel_rfl) (fun _ _ _ h => h) hS (fun wx hwx => by go_simp; try with_reducible rfl) ?_
  try simp only [Act.put, List.setIfInBounds_toArray, List.set_cons_zero, List.set_cons_succ]
  refine rtake 6 rfl (by rfl) (by kernel_rfl) (by kernel_rfl) (by kernel_rfl) (fun _ _ _ h => h) hS (fun wx hwx => by have q0 : wx.cell? ⟨g, 0, none⟩ = some (.int .i64 s.t) := hwx.cell 0 _ rfl; go_simp; try with_reducible rfl) ?_
  try simp only [Act.put, List.setIfInBounds_toArray, List.set_cons_zero, List.set_cons_succ]
  refine rcall 2 rfl (by kernel_rfl) (by rfl) (fun K' hK => ?_)
  go_simp
  refine (HAT.out _ ⟨_, hS, rfl⟩).mono ?_
  rintro e wy ⟨rfl, rfl⟩
  refine hK.out _ _ hS ?_
  clear hK K'
  try simp only [Act.put, List.setIfInBounds_toArray, List.set_cons_zero, List.set_cons_succ]
  refine rtake 7 rfl (by rfl) (by kernel_rfl) (by kernel_rfl) (by kernel_rfl) (fun _ _ _ h => h) hS (fun wx hwx => by go_simp; try with_reducible rfl) ?_
  try simp only [Act.put, List.setIfInBounds_toArray, List.set_cons_zero, List.set_cons_succ]
  refine rtake 8 rfl (by rfl) (by kernel_rfl) (by kernel_rfl) (by kernel_rfl) (fun _ _ _ h => h) hS (fun wx hwx => by go_simp; try with_reducible rfl) ?_
  try simp only [Act.put, List.setIfInBounds_toArray, List.set_cons_zero, List.set_cons_succ]
  refine wpAnyH_done (by kernel_rfl) ?_ _
  go_upto_region 2 with fail
  refine wp_region_held_drew (S := fun w' => Box w' g (oK.enc s) 34) (by kernel_rfl) (hS.below (Below.drew (Below.refl _ _))) ?_
  replace hb := bnext hb (Below.drew (Below.refl wd.heap.size wd))
  clear hS
  intro hS
  generalize wd.drew = wc at *
  refine rtake 0 rfl (by rfl) (by kernel_rfl) (by kernel_rfl) (by kernel_rfl) (fun _ _ _ h => h) hS (fun wx hwx => by go_simp; try with_reducible rfl) ?_
  try simp only [Act.put, List.setIfInBounds_toArray, List.set_cons_zero, List.set_cons_succ]
  refine rtake 1 rfl (by rfl) (by kernel_rfl) (by kernel_rfl) (by kernel_rfl) (fun _ _ _ h => h) hS (fun wx hwx => by go_simp; try with_reducible rfl) ?_
  try simp only [Act.put, List.setIfInBounds_toArray, List.set_cons_zero, List.set_cons_succ]
  refine rtake 2 rfl (by rfl) (by kernel_rfl) (by kernel_rfl) (by kernel_rfl) (fun _ _ _ h => h) hS (fun wx hwx => by go_simp; try with_reducible rfl) ?_
  try simp only [Act.put, List.setIfInBounds_toArray, List.set_cons_zero, List.set_cons_succ]
  refine rtake 3 rfl (by rfl) (by kernel_rfl) (by kernel_rfl) (by kernel_rfl) (fun _ _ _ h => h) hS (fun wx hwx => by have q2 : wx.cell? ⟨g, 2, none⟩ = some (.int .i64 s.r) := hwx.cell 2 _ rfl; go_simp; try with_reducible rfl) ?_
  try simp only [Act.put, List.setIfInBounds_toArray, List.set_cons_zero, List.set_cons_succ]
  refine rtake 4 rfl (by rfl) (by kernel_rfl) (by kernel_rfl) (by kernel_rfl) (fun _ _ _ h => h) hS (fun wx hwx => by go_simp; try with_reducible rfl) ?_
  try simp only [Act.put, List.setIfInBounds_toArray, List.set_cons_zero, List.set_cons_succ]
  refine rtake 5 rfl (by rfl) (by kernel_rfl) (by kernel_rfl) (by kernel_rfl) (fun _ _ _ h => h) hS (fun wx hwx => by go_simp; try with_reducible rfl) ?_
  try simp only [Act.put, List.setIfInBounds_toArray, List.set_cons_zero, List.set_cons_succ]
  refine rtake 6 rfl (by rfl) (by kernel_rfl) (by kernel_rfl) (by kernel_rfl) (fun _ _ _ h => h) hS (fun wx hwx => by go_simp; try with_reducible rfl) ?_
  try simp only [Act.put, List.setIfInBounds_toArray, List.set_cons_zero, List.set_cons_succ]
  refine rtake 7 rfl (by rfl) (by kernel_rfl) (by kernel_rfl) (by kernel_rfl) (fun _ _ _ h => h) hS (fun wx hwx => by have q3 : wx.cell? ⟨g, 3, none⟩ = some (.int .i64 s.f) := hwx.cell 3 _ rfl; go_simp; try with_reducible rfl) ?_
  try simp only [Act.put, List.setIfInBounds_toArray, List.set_cons_zero, List.set_cons_succ]
  refine rtake 8 rfl (by rfl) (by kernel_rfl) (by kernel_rfl) (by kernel_rfl) (fun _ _ _ h => h) hS (fun wx hwx => by go_simp; try with_reducible rfl) ?_
  try simp only [Act.put, List.setIfInBounds_toArray, List.set_cons_zero, List.set_cons_succ]
  refine rtake 9 rfl (by rfl) (by kernel_rfl) (by kernel_rfl) (by kernel_rfl) (fun _ _ _ h => h) hS (fun wx hwx => by go_simp; try with_reducible rfl) ?_
  try simp only [Act.put, List.setIfInBounds_toArray, List.set_cons_zero, List.set_cons_succ]
  refine wpAnyH_done (by kernel_rfl) ?_ _
  have c1 : wc.cell? ⟨g, 1, none⟩ = some (.int .i64 s.l) := hS.cell 1 _ rfl
  by_cases hUn : U < 0
  · have hFZ : F = Z - 1 := HF.out.trans (if_pos hUn)
    subst hFZ
    go_wp2_with fail
    refine (refCut_any _ _).mono ?_
    rintro e w9 ⟨rfl, rfl⟩
    go_wp2_with fail
    go_ret
    exact ⟨ret_int HV.out.symm, hb⟩
  · have hFZ : F = Z := HF.out.trans (if_neg hUn)
    subst hFZ
    go_wp2_with fail
    refine (refCut_any _ _).mono ?_
    rintro e w9 ⟨rfl, rfl⟩
    go_wp2_with fail
    go_ret
    exact ⟨ret_int HV.out.symm, hb⟩

set_option maxRecDepth 100000 in
set_option maxHeartbeats 8000000 in
theorem refMoveO_any (g : Nat) (s : Oz) (t : Int) (w : World) (hA : ObAt 34 RO w g s) (hin : InO s) : Calls Try.prog 26 #[.pointer (some ⟨g, 0, none⟩), .int .i64 t] w fun e w' => e = .returned (.tuple #[]) ∧ ObAt 34 RO w' g (moveO s t) ∧ Only g w w' := by
  go_enter Try.func26, Try.ntmps26
  go_wp2_with fail
  refine (refReadO_any g s t _ hA hin).mono ?_
  rintro e w1 ⟨rfl, b1⟩
  replace hA := hA.below b1
  have ho := Only.of_below g b1
  go_wp2_with fail
  refine (refAt_any g s t _ hA).mono ?_
  rintro e w2 ⟨rfl, rfl⟩
  obtain ⟨xs, hB, hxs⟩ := hA
  have hxs' : xs = oK.enc s := hxs
  subst hxs'
  have c0 := hB.cell 0 _ rfl
  have f0 := hB.free 0
  have c1 := hB.cell 1 _ rfl
  have f1 := hB.free 1
  have hB2 : Box ((w1.setCell ⟨g, 0, none⟩ (.int .i64 (atO s t))).setCell ⟨g, 1, none⟩ (.int .i64 (readO s t))) g (oK.enc (moveO s t)) 34 := (hB.set 0 (.int .i64 (atO s t))).set 1 (.int .i64 (readO s t))
  have ho2 := (ho.cell 0 (.int .i64 (atO s t))).cell 1 (.int .i64 (readO s t))
  go_wp2_with fail
  go_end0
  exact ⟨rfl, ⟨_, hB2, rfl⟩, ho2⟩

set_option maxRecDepth 100000 in
set_option maxHeartbeats 8000000 in
theorem refSetRO_any (g : Nat) (s : Oz) (t n : Int) (w : World) (hA : ObAt 34 RO w g s) (hin : InO s) : Calls Try.prog 11 #[.pointer (some ⟨g, 0, none⟩), .int .i64 t, .int .i64 n] w fun e w' => e = .returned (.tuple #[]) ∧ ObAt 34 RO w' g (setRO s t n) ∧ Only g w w' := by
  go_enter Try.func11, Try.ntmps11
  go_wp2_with fail
  refine (refMoveO_any g s t _ hA hin).mono ?_
  rintro e w1 ⟨rfl, hA1, ho⟩
  go_wp2_with fail
  refine (refFreq_any _ _).mono ?_
  rintro e w2 ⟨rfl, rfl⟩
  obtain ⟨xs, hB, hxs⟩ := hA1
  have hxs' : xs = oK.enc (moveO s t) := hxs
  subst hxs'
  have c0 := hB.cell 2 _ rfl
  have f0 := hB.free 2
  have hB2 : Box (w1.setCell ⟨g, 2, none⟩ (.int .i64 (cutF n))) g (oK.enc (setRO s t n)) 34 := hB.set 2 (.int .i64 (cutF n))
  have ho2 := ho.cell 2 (.int .i64 (cutF n))
  go_wp2_with fail
  go_end0
  exact ⟨rfl, ⟨_, hB2, rfl⟩, ho2⟩

set_option maxRecDepth 100000 in
set_option maxHeartbeats 8000000 in
theorem refSetFO_any (g : Nat) (s : Oz) (t n : Int) (w : World) (hA : ObAt 34 RO w g s) (hin : InO s) : Calls Try.prog 13 #[.pointer (some ⟨g, 0, none⟩), .int .i64 t, .int .i64 n] w fun e w' => e = .returned (.tuple #[]) ∧ ObAt 34 RO w' g (setFO s t n) ∧ Only g w w' := by
  go_enter Try.func13, Try.ntmps13
  go_wp2_with fail
  refine (refMoveO_any g s t _ hA hin).mono ?_
  rintro e w1 ⟨rfl, hA1, ho⟩
  go_wp2_with fail
  refine (refFreq_any _ _).mono ?_
  rintro e w2 ⟨rfl, rfl⟩
  obtain ⟨xs, hB, hxs⟩ := hA1
  have hxs' : xs = oK.enc (moveO s t) := hxs
  subst hxs'
  have c0 := hB.cell 3 _ rfl
  have f0 := hB.free 3
  have hB2 : Box (w1.setCell ⟨g, 3, none⟩ (.int .i64 (cutF n))) g (oK.enc (setFO s t n)) 34 := hB.set 3 (.int .i64 (cutF n))
  have ho2 := ho.cell 3 (.int .i64 (cutF n))
  go_wp2_with fail
  go_end0
  exact ⟨rfl, ⟨_, hB2, rfl⟩, ho2⟩

set_option maxRecDepth 100000 in
set_option maxHeartbeats 8000000 in
theorem refStepO_any (g : Nat) (s : Oz) (t n : Int) (w : World) (hA : ObAt 34 RO w g s) (hin : InO s) : Calls Try.prog 15 #[.pointer (some ⟨g, 0, none⟩), .int .i64 t, .int .i64 n] w fun e w' => e = .returned (.tuple #[]) ∧ ObAt 34 RO w' g (stepO s t n) ∧ Only g w w' := by
  go_enter Try.func15, Try.ntmps15
  go_wp2_with fail
  refine (refMoveO_any g s t _ hA hin).mono ?_
  rintro e w1 ⟨rfl, hA1, ho⟩
  obtain ⟨xs, hB, hxs⟩ := hA1
  have hxs' : xs = oK.enc (moveO s t) := hxs
  subst hxs'
  have c1 : w1.cell? ⟨g, 1, none⟩ = some (.int .i64 (readO s t)) := hB.cell 1 _ rfl
  have f1 := hB.free 1
  have hrr := readO_range s t
  by_cases h1 : n < -4000000000000000
  · have hC : cutI n (-4000000000000000) 4000000000000000 = -4000000000000000 := by unfold cutI; omega
    have hC := hid hC
    have wS : IntKind.i64.wrap (readO s t + -4000000000000000) = readO s t + -4000000000000000 := by rw [IntKind.wrap_i64]; omega
    clear hrr
    go_wp2_with fail
    refine (refCut_any _ _).mono ?_
    rintro e w2 ⟨rfl, rfl⟩
    go_wp2_with fail
    go_end0
    exact ⟨rfl, ⟨_, hB.set 1 (.int .i64 (cutS (readO s t + -4000000000000000))), by show _ = oK.enc (stepO s t n); unfold stepO; rw [hC.out]; rfl⟩, ho.cell 1 (.int .i64 (cutS (readO s t + -4000000000000000)))⟩
  by_cases h2 : 4000000000000000 < n
  · have hC : cutI n (-4000000000000000) 4000000000000000 = 4000000000000000 := by unfold cutI; omega
    have hC := hid hC
    have wS : IntKind.i64.wrap (readO s t + 4000000000000000) = readO s t + 4000000000000000 := by rw [IntKind.wrap_i64]; omega
    clear hrr
    go_wp2_with fail
    refine (refCut_any _ _).mono ?_
    rintro e w2 ⟨rfl, rfl⟩
    go_wp2_with fail
    go_end0
    exact ⟨rfl, ⟨_, hB.set 1 (.int .i64 (cutS (readO s t + 4000000000000000))), by show _ = oK.enc (stepO s t n); unfold stepO; rw [hC.out]; rfl⟩, ho.cell 1 (.int .i64 (cutS (readO s t + 4000000000000000)))⟩
  have hC : cutI n (-4000000000000000) 4000000000000000 = n := by unfold cutI; omega
  have hC := hid hC
  have wS : IntKind.i64.wrap (readO s t + n) = readO s t + n := by rw [IntKind.wrap_i64]; omega
  clear hrr
  go_wp2_with fail
  refine (refCut_any _ _).mono ?_
  rintro e w2 ⟨rfl, rfl⟩
  go_wp2_with fail
  go_end0
  exact ⟨rfl, ⟨_, hB.set 1 (.int .i64 (cutS (readO s t + n))), by show _ = oK.enc (stepO s t n); unfold stepO; rw [hC.out]; rfl⟩, ho.cell 1 (.int .i64 (cutS (readO s t + n)))⟩

end Go.Proofs.Ytelgdfcpccamnaa
