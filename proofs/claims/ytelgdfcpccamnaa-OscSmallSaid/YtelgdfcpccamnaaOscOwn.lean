/- The program's own oscillator (gen_oscown.py). -/
import Derived.Test.YtelgdfcpccamnaaOscRef
import Derived.Test.YtelgdfcpccamnaaHop4
namespace Go.Proofs.Ytelgdfcpccamnaa
open Go.RowKit Go.Proofs
set_option maxRecDepth 50000
set_option linter.unusedVariables false
set_option linter.unusedSimpArgs false

theorem ret_i64o {a b : Int} (h : a = b) : Ending.returned (.int .i64 a) = .returned (.int .i64 b) := by rw [h]
set_option maxRecDepth 100000 in
set_option maxHeartbeats 8000000 in
theorem ocut_any (v a b : Int) (w : World) : Calls Try.prog 27 #[.int .i64 v, .int .i64 a, .int .i64 b] w fun e w' => e = .returned (.int .i64 (cutI v a b)) ∧ w = w' := by
  go_enter Try.func27, Try.ntmps27
  go_wp2_with fail
  all_goals
    go_ret
    refine ⟨?_, rfl⟩
    unfold cutI
    first
      | rfl
      | exact ret_i64o (by omega)

set_option maxRecDepth 100000 in
set_option maxHeartbeats 8000000 in
theorem ostamp_any (v : Int) (w : World) : Calls Try.prog 21 #[.int .i64 v] w fun e w' => e = .returned (.int .i64 (cutS v)) ∧ w = w' := by
  go_enter Try.func21, Try.ntmps21
  go_wp2_with fail
  refine (ocut_any _ _ _ _).mono ?_
  rintro e w1 ⟨rfl, rfl⟩
  go_wp2_with fail
  go_ret
  exact ⟨rfl, rfl⟩

set_option maxRecDepth 100000 in
set_option maxHeartbeats 8000000 in
theorem oparts_any (v : Int) (w : World) : Calls Try.prog 22 #[.int .i64 v] w fun e w' => e = .returned (.int .i64 (cutF v)) ∧ w = w' := by
  go_enter Try.func22, Try.ntmps22
  go_wp2_with fail
  refine (ocut_any _ _ _ _).mono ?_
  rintro e w1 ⟨rfl, rfl⟩
  go_wp2_with fail
  go_ret
  exact ⟨rfl, rfl⟩

set_option maxRecDepth 100000 in
set_option maxHeartbeats 8000000 in
theorem gained_any (D RR : Int) (w : World) (hD : 0 ≤ D ∧ D ≤ 4000000000000000) (hR : -1024000 ≤ RR ∧ RR ≤ 1024000) : Calls Try.prog 28 #[.int .i64 D, .int .i64 RR] w fun e w' => e = .returned (.int .i64 ((D * RR) / 1000000000)) ∧ w = w' := by
  have hDr := hD
  have hRb := hR
  obtain ⟨q, hq⟩ : ∃ q, q = D / 1000000000 := ⟨_, rfl⟩
  obtain ⟨m, hm⟩ : ∃ m, m = D % 1000000000 := ⟨_, rfl⟩
  have hqb : 0 ≤ q ∧ q ≤ 4000000 := by omega
  have hmb : 0 ≤ m ∧ m < 1000000000 := by omega
  have b1 := mul_bounds hqb.1 hqb.2 hRb.1 hRb.2 (by decide)
  have b2 := mul_bounds hmb.1 (Int.le_of_lt hmb.2) hRb.1 hRb.2 (by decide)
  obtain ⟨XX, hXX⟩ : ∃ XX, XX = q * RR := ⟨_, rfl⟩
  obtain ⟨YY, hYY⟩ : ∃ YY, YY = m * RR := ⟨_, rfl⟩
  rw [← hXX] at b1
  rw [← hYY] at b2
  have hval : (D * RR) / 1000000000 = XX + YY / 1000000000 := by
    have e : D * RR = YY + XX * 1000000000 := by
      rw [hXX, hYY, Int.mul_right_comm, ← Int.add_mul]
      congr 1
      omega
    rw [e, Int.add_mul_ediv_right _ _ (by decide)]
    omega
  have hq2 : D.tdiv 1000000000 = q := by rw [hq]; exact Int.tdiv_eq_ediv_of_nonneg hDr.1
  have hm2 : D.tmod 1000000000 = m := by rw [hm]; exact Int.tmod_eq_emod_of_nonneg hDr.1
  have wq : IntKind.i64.wrap q = q := by rw [IntKind.wrap_i64]; omega
  have wq2 : IntKind.i64.wrap (D.tdiv 1000000000) = q := by rw [hq2]; exact wq
  have wX : IntKind.i64.wrap (q * RR) = XX := by rw [← hXX, IntKind.wrap_i64]; omega
  have wm : IntKind.i64.wrap (D.tmod 1000000000) = m := by rw [hm2, IntKind.wrap_i64]; omega
  have wY : IntKind.i64.wrap (m * RR) = YY := by rw [← hYY, IntKind.wrap_i64]; omega
  have hmd : D % 1000000000 = m := hm.symm
  obtain ⟨Z, hZ⟩ : ∃ Z, Z = YY.tdiv 1000000000 := ⟨_, rfl⟩
  obtain ⟨U, hU⟩ : ∃ U, U = YY.tmod 1000000000 := ⟨_, rfl⟩
  have hUb := tmod_bounds YY 1000000000 (by decide)
  rw [← hU] at hUb
  have hYU : YY = 1000000000 * Z + U := by rw [hZ, hU]; exact (Int.mul_tdiv_add_tmod YY 1000000000).symm
  have wZ : IntKind.i64.wrap (YY.tdiv 1000000000) = Z := by rw [← hZ, IntKind.wrap_i64]; omega
  have hU' : YY.tmod 1000000000 = U := hU.symm
  obtain ⟨F, hF⟩ : ∃ F, F = YY / 1000000000 := ⟨_, rfl⟩
  have hFU : F = if U < 0 then Z - 1 else Z := by
    split <;> omega
  obtain ⟨N1, hN1⟩ : ∃ N1, N1 = XX + Z := ⟨_, rfl⟩
  have w1 : IntKind.i64.wrap (XX + Z) = N1 := by rw [← hN1, IntKind.wrap_i64]; omega
  have wZ1 : IntKind.i64.wrap (N1 - 1) = N1 - 1 := by rw [IntKind.wrap_i64]; omega
  have HV := hid (show (D * RR) / 1000000000 = if U < 0 then N1 - 1 else N1 from by rw [hval, ← hF, hFU, hN1]; split <;> omega)
  clear hval hXX hYY hq hm hq2 hD hR hDr hRb b1 b2 hZ hU hUb hYU hF hFU hN1 hqb hmb
  by_cases hUn : U < 0
  · go_enter Try.func28, Try.ntmps28
    go_wp2
    refine wp_scope_hop3 ?_
    intro Q' hret hgo hnor
    go_wp2_with fail
    refine wp_label ?_
    go_wp2_with fail
    refine hret _ _ ?_
    go_ret
    exact ⟨ret_i64o (HV.out.trans (if_pos hUn)).symm, rfl⟩
  · have hUg : 0 ≤ U := by omega
    go_enter Try.func28, Try.ntmps28
    go_wp2
    refine wp_scope_hop3 ?_
    intro Q' hret hgo hnor
    go_wp2_with fail
    go_step3
    refine hgo 0 _ _ _ rfl ?_
    go_wp2_with fail
    rw [Exit.noGoto_ret]
    go_ret
    exact ⟨ret_i64o (HV.out.trans (if_neg (by omega))).symm, rfl⟩

set_option maxRecDepth 100000 in
set_option maxHeartbeats 8000000 in
theorem ownNewO : CNewO RO := by
  intro l r w hl hr
  have hb := bnew w (Obj.cells (oK.enc (newO l r)).toArray 40)
  have hB := Box.new w (oK.enc (newO l r)) 40
  go_enter Try.func7, Try.ntmps7
  go_wp2_with fail
  refine (ostamp_any _ _).mono ?_
  rintro e w1 ⟨rfl, rfl⟩
  go_wp2_with fail
  refine (oparts_any _ _).mono ?_
  rintro e w1 ⟨rfl, rfl⟩
  go_wp2_with (guard_target =~ wpList _ _ _ (⟨some 9, _, _, _, _, _⟩ :: _) _ _; refine wpList_build_any (op := ⟨some 9, .build _ _, _, _, _, _⟩) (by rfl) _ _ (by rfl) _ (by rfl) (oK.enc (newO l r)).toArray (by kernel_rfl) ?_)
  go_ret
  exact ⟨_, rfl, Nat.le_refl _, ⟨_, hB, rfl⟩, hb⟩

set_option maxRecDepth 100000 in
set_option maxHeartbeats 8000000 in
theorem ownRateO : CRateO RO := by
  intro g s w hT
  obtain ⟨xs, hB, rfl⟩ := hT
  have c0 : w.cell? ⟨g, 2, none⟩ = some (.int .i64 s.r) := hB.cell 2 _ rfl
  go_enter Try.func18, Try.ntmps18
  go_wp2_with fail
  go_ret
  exact ⟨rfl, Below.refl _ _⟩

set_option maxRecDepth 100000 in
set_option maxHeartbeats 8000000 in
theorem ownFreqO : CFreqO RO := by
  intro g s w hT
  obtain ⟨xs, hB, rfl⟩ := hT
  have c0 : w.cell? ⟨g, 3, none⟩ = some (.int .i64 s.f) := hB.cell 3 _ rfl
  go_enter Try.func19, Try.ntmps19
  go_wp2_with fail
  go_ret
  exact ⟨rfl, Below.refl _ _⟩

set_option maxRecDepth 100000 in
set_option maxHeartbeats 8000000 in
theorem ownReadO : CReadO RO := by
  intro g s t w hA hin htr
  obtain ⟨xs, hB, hxs⟩ := hA
  have hxs' : xs = oK.enc s := hxs
  subst hxs'
  have hA0 := atO_range hin t
  have c0 : w.cell? ⟨g, 0, none⟩ = some (.int .i64 s.t) := hB.cell 0 _ rfl
  have c1 : w.cell? ⟨g, 1, none⟩ = some (.int .i64 s.l) := hB.cell 1 _ rfl
  obtain ⟨⟨i1, i2⟩, ⟨i3, i4⟩, ⟨i5, i6⟩, i7, i8⟩ := hin
  by_cases ht : t ≤ s.t
  · have hv : readO s t = s.l := by
      unfold readO
      rw [show atO s t = s.t from by unfold atO; omega, Int.sub_self, Int.zero_mul]
      exact (cutS_in (by omega) (by omega)).trans (by omega)
    have hv := hid hv
    clear hA0 i1 i2 i3 i4 i5 i6 i7 i8
    go_enter Try.func16, Try.ntmps16
    go_wp2
    refine wp_scope_hop3 ?_
    intro Q' hret hgo hnor
    go_wp2_with fail
    go_step3
    refine hgo 0 _ _ _ rfl ?_
    go_wp2_with fail
    rw [Exit.noGoto_ret]
    go_ret
    exact ⟨ret_i64o hv.out.symm, Below.refl _ _⟩
  have ht' : s.t < t := by omega
  obtain ⟨TT, hTT⟩ : ∃ TT, TT = min t 4000000000000000 := ⟨_, rfl⟩
  have hat : atO s t = TT := by unfold atO; omega
  obtain ⟨D, hD⟩ : ∃ D, D = TT - s.t := ⟨_, rfl⟩
  obtain ⟨RR, hRR⟩ : ∃ RR, RR = s.r + s.f := ⟨_, rfl⟩
  have hDr : 0 ≤ D ∧ D ≤ 4000000000000000 := by omega
  have hRb : -1024000 ≤ RR ∧ RR ≤ 1024000 := by omega
  have HG := hid fun (wx : World) => gained_any D RR wx hDr hRb
  obtain ⟨GG, hGG⟩ : ∃ GG, GG = (D * RR) / 1000000000 := ⟨_, rfl⟩
  rw [← hGG] at HG
  have hGb : -4096000000001 ≤ GG ∧ GG ≤ 4096000000001 := by
    have b := mul_bounds hDr.1 hDr.2 hRb.1 hRb.2 (by decide)
    rw [hGG]
    omega
  have wD : IntKind.i64.wrap (TT - s.t) = D := by rw [IntKind.wrap_i64]; omega
  have wR : IntKind.i64.wrap (s.r + s.f) = RR := by rw [IntKind.wrap_i64]; omega
  obtain ⟨N1, hN1⟩ : ∃ N1, N1 = s.l + D := ⟨_, rfl⟩
  obtain ⟨N2, hN2⟩ : ∃ N2, N2 = N1 + GG := ⟨_, rfl⟩
  have w1 : IntKind.i64.wrap (s.l + D) = N1 := by rw [← hN1, IntKind.wrap_i64]; omega
  have w2 : IntKind.i64.wrap (N1 + GG) = N2 := by rw [← hN2, IntKind.wrap_i64]; omega
  have HV := hid (show readO s t = cutS N2 from by unfold readO; rw [hat, ← hD, ← hRR, ← hGG]; congr 1; omega)
  have hTT2 : (t ≤ 4000000000000000 ∧ t = TT) ∨ (¬ t ≤ 4000000000000000 ∧ TT = 4000000000000000) := by omega
  clear hat hD hRR hDr hRb hGG hGb hN1 hN2 hTT hA0 i1 i2 i3 i4 i5 i6 i7 i8
  rcases hTT2 with ⟨htm, rfl⟩ | ⟨htm, rfl⟩
  all_goals
    go_enter Try.func16, Try.ntmps16
    go_wp2
    refine wp_scope_hop4 (fun _ _ d _ _ h => by cases d <;> exact h) ?_
    intro Q' hret hgo hnor hpan
    go_upto_region 4 with fail
    refine wp_region_held_drew (S := fun w' => Box w' g (oK.enc s) 40) (by kernel_rfl) (hB.below (Below.drew (Below.refl _ _))) ?_
    intro hS
    have hb := Below.drew (Below.refl w.heap.size w)
    clear hB htm ht ht' htr c0 c1
    generalize w.drew = wd at *
    refine rtake 0 rfl (by rfl) (by kernel_rfl) (by kernel_rfl) (by kernel_rfl) (fun c a w h => hpan c a _ _ w h) hS (fun wx hwx => by go_simp; try with_reducible rfl) ?_
    try simp only [Act.put, List.setIfInBounds_toArray, List.set_cons_zero, List.set_cons_succ]
    refine rtake 1 rfl (by rfl) (by kernel_rfl) (by kernel_rfl) (by kernel_rfl) (fun c a w h => hpan c a _ _ w h) hS (fun wx hwx => by go_simp; try with_reducible rfl) ?_
    try simp only [Act.put, List.setIfInBounds_toArray, List.set_cons_zero, List.set_cons_succ]
    refine rtake 2 rfl (by rfl) (by kernel_rfl) (by kernel_rfl) (by kernel_rfl) (fun c a w h => hpan c a _ _ w h) hS (fun wx hwx => by go_simp; try with_reducible rfl) ?_
    try simp only [Act.put, List.setIfInBounds_toArray, List.set_cons_zero, List.set_cons_succ]
    refine rtake 3 rfl (by rfl) (by kernel_rfl) (by kernel_rfl) (by kernel_rfl) (fun c a w h => hpan c a _ _ w h) hS (fun wx hwx => by go_simp; try with_reducible rfl) ?_
    try simp only [Act.put, List.setIfInBounds_toArray, List.set_cons_zero, List.set_cons_succ]
    refine rtake 4 rfl (by rfl) (by kernel_rfl) (by kernel_rfl) (by kernel_rfl) (fun c a w h => hpan c a _ _ w h) hS (fun wx hwx => by go_simp; try with_reducible rfl) ?_
    try simp only [Act.put, List.setIfInBounds_toArray, List.set_cons_zero, List.set_cons_succ]
    refine rtake 5 rfl (by rfl) (by kernel_rfl) (by kernel_rfl) (by kernel_rfl) (fun c a w h => hpan c a _ _ w h) hS (fun wx hwx => by go_simp; try with_reducible rfl) ?_
    try simp only [Act.put, List.setIfInBounds_toArray, List.set_cons_zero, List.set_cons_succ]
    refine rtake 6 rfl (by rfl) (by kernel_rfl) (by kernel_rfl) (by kernel_rfl) (fun c a w h => hpan c a _ _ w h) hS (fun wx hwx => by go_simp; try with_reducible rfl) ?_
    try simp only [Act.put, List.setIfInBounds_toArray, List.set_cons_zero, List.set_cons_succ]
    refine rtake 7 rfl (by rfl) (by kernel_rfl) (by kernel_rfl) (by kernel_rfl) (fun c a w h => hpan c a _ _ w h) hS (fun wx hwx => by have q2 : wx.cell? ⟨g, 2, none⟩ = some (.int .i64 s.r) := hwx.cell 2 _ rfl; go_simp; try with_reducible rfl) ?_
    try simp only [Act.put, List.setIfInBounds_toArray, List.set_cons_zero, List.set_cons_succ]
    refine rtake 8 rfl (by rfl) (by kernel_rfl) (by kernel_rfl) (by kernel_rfl) (fun c a w h => hpan c a _ _ w h) hS (fun wx hwx => by go_simp; try with_reducible rfl) ?_
    try simp only [Act.put, List.setIfInBounds_toArray, List.set_cons_zero, List.set_cons_succ]
    refine rtake 9 rfl (by rfl) (by kernel_rfl) (by kernel_rfl) (by kernel_rfl) (fun c a w h => hpan c a _ _ w h) hS (fun wx hwx => by go_simp; try with_reducible rfl) ?_
    try simp only [Act.put, List.setIfInBounds_toArray, List.set_cons_zero, List.set_cons_succ]
    refine rtake 10 rfl (by rfl) (by kernel_rfl) (by kernel_rfl) (by kernel_rfl) (fun c a w h => hpan c a _ _ w h) hS (fun wx hwx => by go_simp; try with_reducible rfl) ?_
    try simp only [Act.put, List.setIfInBounds_toArray, List.set_cons_zero, List.set_cons_succ]
    refine rtake 11 rfl (by rfl) (by kernel_rfl) (by kernel_rfl) (by kernel_rfl) (fun c a w h => hpan c a _ _ w h) hS (fun wx hwx => by have q3 : wx.cell? ⟨g, 3, none⟩ = some (.int .i64 s.f) := hwx.cell 3 _ rfl; go_simp; try with_reducible rfl) ?_
    try simp only [Act.put, List.setIfInBounds_toArray, List.set_cons_zero, List.set_cons_succ]
    refine rtake 12 rfl (by rfl) (by kernel_rfl) (by kernel_rfl) (by kernel_rfl) (fun c a w h => hpan c a _ _ w h) hS (fun wx hwx => by go_simp; try with_reducible rfl) ?_
    try simp only [Act.put, List.setIfInBounds_toArray, List.set_cons_zero, List.set_cons_succ]
    refine rcall 13 rfl (by kernel_rfl) (by rfl) (fun K' hK => ?_)
    go_simp
    refine (HG.out _).mono ?_
    rintro e wy ⟨rfl, rfl⟩
    refine hK.out _ _ hS ?_
    clear hK K'
    try simp only [Act.put, List.setIfInBounds_toArray, List.set_cons_zero, List.set_cons_succ]
    refine rtake 14 rfl (by rfl) (by kernel_rfl) (by kernel_rfl) (by kernel_rfl) (fun c a w h => hpan c a _ _ w h) hS (fun wx hwx => by go_simp; try with_reducible rfl) ?_
    try simp only [Act.put, List.setIfInBounds_toArray, List.set_cons_zero, List.set_cons_succ]
    refine rcall 15 rfl (by kernel_rfl) (by rfl) (fun K' hK => ?_)
    go_simp
    refine (ostamp_any _ _).mono ?_
    rintro e wy ⟨rfl, rfl⟩
    refine hK.out _ _ hS ?_
    clear hK K'
    try simp only [Act.put, List.setIfInBounds_toArray, List.set_cons_zero, List.set_cons_succ]
    refine rtake 16 rfl (by rfl) (by kernel_rfl) (by kernel_rfl) (by kernel_rfl) (fun c a w h => hpan c a _ _ w h) hS (fun wx hwx => by go_simp; try with_reducible rfl) ?_
    try simp only [Act.put, List.setIfInBounds_toArray, List.set_cons_zero, List.set_cons_succ]
    refine wpAnyH_done (by kernel_rfl) ?_ _
    go_wp2_with fail
    refine wp_label ?_
    go_wp2_with fail
    refine hret _ _ ?_
    go_ret
    exact ⟨ret_i64o HV.out.symm, hb⟩

set_option maxRecDepth 100000 in
set_option maxHeartbeats 8000000 in
theorem oanchor_any (g : Nat) (s : Oz) (t : Int) (w : World) (hA : OzAt RO w g s) (hin : InO s) (htr : -9223372036854775808 ≤ t ∧ t ≤ 9223372036854775807) : Calls Try.prog 25 #[.pointer (some ⟨g, 0, none⟩), .int .i64 t] w fun e w' => e = .returned (.tuple #[]) ∧ OzAt RO w' g (moveO s t) ∧ Only g w w' := by
  have HR := hid (ownReadO g s t w hA hin htr)
  have hA0 := atO_range hin t
  obtain ⟨xs, hB, hxs⟩ := hA
  have hxs' : xs = oK.enc s := hxs
  subst hxs'
  have c0 : w.cell? ⟨g, 0, none⟩ = some (.int .i64 s.t) := hB.cell 0 _ rfl
  obtain ⟨⟨i1, i2⟩, ⟨i3, i4⟩, -⟩ := hin
  by_cases ht : t ≤ s.t
  · have hv : moveO s t = s := by
      have e1 : atO s t = s.t := by unfold atO; omega
      have e2 : readO s t = s.l := by
        unfold readO
        rw [e1, Int.sub_self, Int.zero_mul]
        exact (cutS_in (by omega) (by omega)).trans (by omega)
      unfold moveO
      rw [e1, e2]
    rw [hv]
    clear HR hA0 i1 i2 i3 i4
    go_enter Try.func25, Try.ntmps25
    go_wp2
    refine wp_scope_hop3 ?_
    intro Q' hret hgo hnor
    go_wp2_with fail
    go_step3
    refine hgo 0 _ _ _ rfl ?_
    go_wp2_with fail
    rw [Exit.noGoto_normal]
    go_end0
    exact ⟨rfl, ⟨_, hB, rfl⟩, Only.refl _ _⟩
  have ht' : s.t < t := by omega
  obtain ⟨TT, hTT⟩ : ∃ TT, TT = min t 4000000000000000 := ⟨_, rfl⟩
  have hat : moveO s t = { s with t := TT, l := readO s t } := by unfold moveO; rw [show atO s t = TT from by unfold atO; omega]
  rw [hat]
  obtain ⟨LL, hLL⟩ : ∃ LL, LL = readO s t := ⟨_, rfl⟩
  rw [← hLL] at HR ⊢
  have hTT2 : (t ≤ 4000000000000000 ∧ t = TT) ∨ (¬ t ≤ 4000000000000000 ∧ TT = 4000000000000000) := by omega
  clear hat hLL hTT hA0 i1 i2 i3 i4
  rcases hTT2 with ⟨htm, rfl⟩ | ⟨htm, rfl⟩
  · go_enter Try.func25, Try.ntmps25
    go_wp2
    refine wp_scope_hop3 ?_
    intro Q' hret hgo hnor
    go_wp2_with fail
    all_goals try (exfalso; omega)
    refine HR.out.mono ?_
    rintro e w1 ⟨rfl, b1⟩
    replace hB := hB.below b1
    have ho := Only.of_below g b1
    have d0 := hB.cell 0 _ rfl
    have f0 := hB.free 0
    have d1 := hB.cell 1 _ rfl
    have f1 := hB.free 1
    clear c0
    have hB2 : Box ((w1.setCell ⟨g, 0, none⟩ (.int .i64 t)).setCell ⟨g, 1, none⟩ (.int .i64 LL)) g (oK.enc { s with t := t, l := LL }) 40 := (hB.set 0 (.int .i64 t)).set 1 (.int .i64 LL)
    have ho2 := (ho.cell 0 (.int .i64 t)).cell 1 (.int .i64 LL)
    go_wp2_with fail
    refine wp_label ?_
    go_wp2_with fail
    go_end0
    exact ⟨rfl, ⟨_, hB2, rfl⟩, ho2⟩
  · go_enter Try.func25, Try.ntmps25
    go_wp2
    refine wp_scope_hop3 ?_
    intro Q' hret hgo hnor
    go_wp2_with fail
    all_goals try (exfalso; omega)
    refine HR.out.mono ?_
    rintro e w1 ⟨rfl, b1⟩
    replace hB := hB.below b1
    have ho := Only.of_below g b1
    have d0 := hB.cell 0 _ rfl
    have f0 := hB.free 0
    have d1 := hB.cell 1 _ rfl
    have f1 := hB.free 1
    clear c0
    have hB2 : Box ((w1.setCell ⟨g, 0, none⟩ (.int .i64 4000000000000000)).setCell ⟨g, 1, none⟩ (.int .i64 LL)) g (oK.enc { s with t := 4000000000000000, l := LL }) 40 := (hB.set 0 (.int .i64 4000000000000000)).set 1 (.int .i64 LL)
    have ho2 := (ho.cell 0 (.int .i64 4000000000000000)).cell 1 (.int .i64 LL)
    go_wp2_with fail
    refine wp_label ?_
    go_wp2_with fail
    go_end0
    exact ⟨rfl, ⟨_, hB2, rfl⟩, ho2⟩

set_option maxRecDepth 100000 in
set_option maxHeartbeats 8000000 in
theorem ownSetRO : CSetRO RO := by
  intro g s t n w hA hin htr hnr
  go_enter Try.func10, Try.ntmps10
  go_wp2_with fail
  refine (oanchor_any g s t _ hA hin htr).mono ?_
  rintro e w1 ⟨rfl, hA1, ho⟩
  go_wp2_with fail
  refine (oparts_any _ _).mono ?_
  rintro e w2 ⟨rfl, rfl⟩
  obtain ⟨xs, hB, hxs⟩ := hA1
  have hxs' : xs = oK.enc (moveO s t) := hxs
  subst hxs'
  have c0 := hB.cell 2 _ rfl
  have f0 := hB.free 2
  have hB2 : Box (w1.setCell ⟨g, 2, none⟩ (.int .i64 (cutF n))) g (oK.enc (setRO s t n)) 40 := hB.set 2 (.int .i64 (cutF n))
  have ho2 := ho.cell 2 (.int .i64 (cutF n))
  go_wp2_with fail
  go_end0
  exact ⟨rfl, ⟨_, hB2, rfl⟩, ho2⟩

set_option maxRecDepth 100000 in
set_option maxHeartbeats 8000000 in
theorem ownSetFO : CSetFO RO := by
  intro g s t n w hA hin htr hnr
  go_enter Try.func12, Try.ntmps12
  go_wp2_with fail
  refine (oanchor_any g s t _ hA hin htr).mono ?_
  rintro e w1 ⟨rfl, hA1, ho⟩
  go_wp2_with fail
  refine (oparts_any _ _).mono ?_
  rintro e w2 ⟨rfl, rfl⟩
  obtain ⟨xs, hB, hxs⟩ := hA1
  have hxs' : xs = oK.enc (moveO s t) := hxs
  subst hxs'
  have c0 := hB.cell 3 _ rfl
  have f0 := hB.free 3
  have hB2 : Box (w1.setCell ⟨g, 3, none⟩ (.int .i64 (cutF n))) g (oK.enc (setFO s t n)) 40 := hB.set 3 (.int .i64 (cutF n))
  have ho2 := ho.cell 3 (.int .i64 (cutF n))
  go_wp2_with fail
  go_end0
  exact ⟨rfl, ⟨_, hB2, rfl⟩, ho2⟩

set_option maxRecDepth 100000 in
set_option maxHeartbeats 8000000 in
theorem ownStepO : CStepO RO := by
  intro g s t n w hA hin htr hnr
  obtain ⟨CC, hCC⟩ : ∃ CC, CC = cutI n (-4000000000000000) 4000000000000000 := ⟨_, rfl⟩
  have hCr : -4000000000000000 ≤ CC ∧ CC ≤ 4000000000000000 := by rw [hCC]; exact cutI_range (by decide)
  have hrr := readO_range s t
  obtain ⟨RL, hRL⟩ : ∃ RL, RL = readO s t := ⟨_, rfl⟩
  rw [← hRL] at hrr
  obtain ⟨NN, hNN⟩ : ∃ NN, NN = RL + CC := ⟨_, rfl⟩
  have wS : IntKind.i64.wrap (RL + CC) = NN := by rw [← hNN, IntKind.wrap_i64]; omega
  have HE := hid (show stepO s t n = { moveO s t with l := cutS NN } from by unfold stepO; rw [hNN, hRL, hCC])
  have HM := hid (show (moveO s t).l = RL from by rw [hRL]; rfl)
  have HC := hid fun (wx : World) => show Calls Try.prog 27 #[.int .i64 n, .int .i64 (-4000000000000000), .int .i64 4000000000000000] wx fun e w' => e = .returned (.int .i64 CC) ∧ wx = w' from hCC ▸ ocut_any n _ _ wx
  clear hNN hCC hCr hrr hRL
  go_enter Try.func14, Try.ntmps14
  go_wp2_with fail
  refine (oanchor_any g s t _ hA hin htr).mono ?_
  rintro e w1 ⟨rfl, hA1, ho⟩
  obtain ⟨xs, hB, hxs⟩ := hA1
  have hxs' : xs = oK.enc (moveO s t) := hxs
  subst hxs'
  go_upto_region 1 with fail
  refine wp_region_held_drew (S := fun _ => True) (by kernel_rfl) trivial ?_
  intro hT
  have hS := hB.below (Below.drew (Below.refl w1.heap.size w1))
  replace ho := ho.next (Below.drew (Below.refl w1.heap.size w1))
  clear hB
  generalize w1.drew = wd at *
  refine rtake 0 rfl (by rfl) (by kernel_rfl) (by kernel_rfl) (by kernel_rfl) (fun _ _ _ h => h) trivial (fun wx hwx => by go_simp; try with_reducible rfl) ?_
  try simp only [Act.put, List.setIfInBounds_toArray, List.set_cons_zero, List.set_cons_succ]
  refine rtake 1 rfl (by rfl) (by kernel_rfl) (by kernel_rfl) (by kernel_rfl) (fun _ _ _ h => h) trivial (fun wx hwx => by go_simp; try with_reducible rfl) ?_
  try simp only [Act.put, List.setIfInBounds_toArray, List.set_cons_zero, List.set_cons_succ]
  refine rtake 2 rfl (by rfl) (by kernel_rfl) (by kernel_rfl) (by kernel_rfl) (fun _ _ _ h => h) trivial (fun wx hwx => by go_simp; try with_reducible rfl) ?_
  try simp only [Act.put, List.setIfInBounds_toArray, List.set_cons_zero, List.set_cons_succ]
  refine rtake 3 rfl (by rfl) (by kernel_rfl) (by kernel_rfl) (by kernel_rfl) (fun _ _ _ h => h) trivial (fun wx hwx => by go_simp; try with_reducible rfl) ?_
  try simp only [Act.put, List.setIfInBounds_toArray, List.set_cons_zero, List.set_cons_succ]
  refine rtake 5 rfl (by rfl) (by kernel_rfl) (by kernel_rfl) (by kernel_rfl) (fun _ _ _ h => h) trivial (fun wx hwx => by go_simp; try with_reducible rfl) ?_
  try simp only [Act.put, List.setIfInBounds_toArray, List.set_cons_zero, List.set_cons_succ]
  refine rtwo 4 6 rfl rfl (by kernel_rfl) (by rfl) (by rfl) (fun K hK => ?_) (fun K hK => ?_)
  · have c1 : wd.cell? ⟨g, 1, none⟩ = some (.int .i64 RL) := HM.out ▸ hS.cell 1 _ rfl
    go_simp
    refine hK.out _ _ trivial ?_
    clear hK K
    try simp only [Act.put, List.setIfInBounds_toArray, List.set_cons_zero, List.set_cons_succ]
    refine rcall 6 rfl (by kernel_rfl) (by rfl) (fun K hK => ?_)
    go_simp
    refine (HC.out _).mono ?_
    rintro e wy ⟨rfl, rfl⟩
    refine hK.out _ _ trivial ?_
    clear hK K
    try simp only [Act.put, List.setIfInBounds_toArray, List.set_cons_zero, List.set_cons_succ]
    refine rtake 7 rfl (by rfl) (by kernel_rfl) (by kernel_rfl) (by kernel_rfl) (fun _ _ _ h => h) trivial (fun wx hwx => by go_simp; try with_reducible rfl) ?_
    try simp only [Act.put, List.setIfInBounds_toArray, List.set_cons_zero, List.set_cons_succ]
    refine rcall 8 rfl (by kernel_rfl) (by rfl) (fun K hK => ?_)
    go_simp
    refine (ostamp_any _ _).mono ?_
    rintro e wy ⟨rfl, rfl⟩
    refine hK.out _ _ trivial ?_
    clear hK K
    try simp only [Act.put, List.setIfInBounds_toArray, List.set_cons_zero, List.set_cons_succ]
    refine rtake 9 rfl (by rfl) (by kernel_rfl) (by kernel_rfl) (by kernel_rfl) (fun _ _ _ h => h) trivial (fun wx hwx => by go_simp; try with_reducible rfl) ?_
    try simp only [Act.put, List.setIfInBounds_toArray, List.set_cons_zero, List.set_cons_succ]
    refine rtake 10 rfl (by rfl) (by kernel_rfl) (by kernel_rfl) (by kernel_rfl) (fun _ _ _ h => h) trivial (fun wx hwx => by go_simp; try with_reducible rfl) ?_
    try simp only [Act.put, List.setIfInBounds_toArray, List.set_cons_zero, List.set_cons_succ]
    refine rcall 11 rfl (by kernel_rfl) (by rfl) (fun K hK => ?_)
    have c1 := hS.cell 1 _ rfl
    have f1 := hS.free 1
    have hB2 : Box (wd.setCell ⟨g, 1, none⟩ (.int .i64 (cutS NN))) g (oK.enc { moveO s t with l := cutS NN }) 40 := hS.set 1 (.int .i64 (cutS NN))
    have ho2 := ho.cell 1 (.int .i64 (cutS NN))
    go_simp
    refine hK.out _ _ trivial ?_
    clear hK K
    try simp only [Act.put, List.setIfInBounds_toArray, List.set_cons_zero, List.set_cons_succ]
    refine wpAnyH_done (by kernel_rfl) ?_ _
    go_wp2_with fail
    go_end0
    exact ⟨rfl, ⟨_, hB2, by rw [HE.out]; rfl⟩, ho2⟩
  · go_simp
    refine (HC.out _).mono ?_
    rintro e wy ⟨rfl, rfl⟩
    refine hK.out _ _ trivial ?_
    clear hK K
    try simp only [Act.put, List.setIfInBounds_toArray, List.set_cons_zero, List.set_cons_succ]
    refine rcall 4 rfl (by kernel_rfl) (by rfl) (fun K hK => ?_)
    have c1 : wd.cell? ⟨g, 1, none⟩ = some (.int .i64 RL) := HM.out ▸ hS.cell 1 _ rfl
    go_simp
    refine hK.out _ _ trivial ?_
    clear hK K
    try simp only [Act.put, List.setIfInBounds_toArray, List.set_cons_zero, List.set_cons_succ]
    refine rtake 7 rfl (by rfl) (by kernel_rfl) (by kernel_rfl) (by kernel_rfl) (fun _ _ _ h => h) trivial (fun wx hwx => by go_simp; try with_reducible rfl) ?_
    try simp only [Act.put, List.setIfInBounds_toArray, List.set_cons_zero, List.set_cons_succ]
    refine rcall 8 rfl (by kernel_rfl) (by rfl) (fun K hK => ?_)
    go_simp
    refine (ostamp_any _ _).mono ?_
    rintro e wy ⟨rfl, rfl⟩
    refine hK.out _ _ trivial ?_
    clear hK K
    try simp only [Act.put, List.setIfInBounds_toArray, List.set_cons_zero, List.set_cons_succ]
    refine rtake 9 rfl (by rfl) (by kernel_rfl) (by kernel_rfl) (by kernel_rfl) (fun _ _ _ h => h) trivial (fun wx hwx => by go_simp; try with_reducible rfl) ?_
    try simp only [Act.put, List.setIfInBounds_toArray, List.set_cons_zero, List.set_cons_succ]
    refine rtake 10 rfl (by rfl) (by kernel_rfl) (by kernel_rfl) (by kernel_rfl) (fun _ _ _ h => h) trivial (fun wx hwx => by go_simp; try with_reducible rfl) ?_
    try simp only [Act.put, List.setIfInBounds_toArray, List.set_cons_zero, List.set_cons_succ]
    refine rcall 11 rfl (by kernel_rfl) (by rfl) (fun K hK => ?_)
    have c1 := hS.cell 1 _ rfl
    have f1 := hS.free 1
    have hB2 : Box (wd.setCell ⟨g, 1, none⟩ (.int .i64 (cutS NN))) g (oK.enc { moveO s t with l := cutS NN }) 40 := hS.set 1 (.int .i64 (cutS NN))
    have ho2 := ho.cell 1 (.int .i64 (cutS NN))
    go_simp
    refine hK.out _ _ trivial ?_
    clear hK K
    try simp only [Act.put, List.setIfInBounds_toArray, List.set_cons_zero, List.set_cons_succ]
    refine wpAnyH_done (by kernel_rfl) ?_ _
    go_wp2_with fail
    go_end0
    exact ⟨rfl, ⟨_, hB2, by rw [HE.out]; rfl⟩, ho2⟩

end Go.Proofs.Ytelgdfcpccamnaa
