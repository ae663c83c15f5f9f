/- The program's own servo: cut, beyond, rate, steer, judge, the methods (gen_srvown.py). -/
import Derived.Test.YtpiohedfhhkkhaaSrv
import Derived.Test.YtpiohedfhhkkhaaHop
import Derived.Test.YtpiohedfhhkkhaaStr
import Derived.Test.YtpiohedfhhkkhaaBuild
import Derived.BigQuiet
namespace Go.Proofs.Ytpiohedfhhkkhaa
open Go.RowKit Go.Proofs
set_option maxRecDepth 50000
set_option linter.unusedVariables false
set_option linter.unusedSimpArgs false

def svL (s : Sv) : List Value := [.int .i64 s.kp, .int .i64 s.ki, .int .i64 s.sp, .int .i64 s.st, .int .i64 s.fq, .int .i64 s.dr, .int .i64 (min s.cm 3)]
def SrvR (xs : List Value) (s : Sv) : Prop := xs = svL s
theorem srv_open {w : World} {g : Nat} {s : Sv} (h : SvAt SrvR w g s) : Box w g (svL s) 37 := by
  obtain ⟨xs, hB, rfl⟩ := h
  exact hB
theorem srv_shut {w : World} {g : Nat} {s : Sv} (h : Box w g (svL s) 37) : SvAt SrvR w g s := ⟨_, h, rfl⟩
theorem svL_one (s : Sv) : ∀ u ∈ svL s, u.oneCell' = true := by
  intro u hu
  simp only [svL, List.mem_cons, List.not_mem_nil, or_false] at hu
  rcases hu with rfl | rfl | rfl | rfl | rfl | rfl | rfl <;> rfl
theorem svL_cm (s : Sv) (cm st k : Int) (h : min cm 3 = k) : svL { s with cm := cm, st := st } = [.int .i64 s.kp, .int .i64 s.ki, .int .i64 s.sp, .int .i64 st, .int .i64 s.fq, .int .i64 s.dr, .int .i64 k] := by rw [← h]; rfl
theorem drewV_below (w : World) (n : Nat) : Below w.heap.size w (w.drewN n) := ⟨rfl, rfl, rfl, Nat.le_refl _, fun _ _ => rfl⟩
def steerS (s : Sv) (r : Int) : Sv :=
  { s with fq := cutI (-((s.kp * r).tdiv 1000) - cutI (s.dr + (s.ki * r).tdiv 1000) (-512000) 512000) (-512000) 512000
           dr := if -((s.kp * r).tdiv 1000) - cutI (s.dr + (s.ki * r).tdiv 1000) (-512000) 512000 < -512000 ∨ 512000 < -((s.kp * r).tdiv 1000) - cutI (s.dr + (s.ki * r).tdiv 1000) (-512000) 512000 then s.dr else cutI (s.dr + (s.ki * r).tdiv 1000) (-512000) 512000 }
def judgeS (s : Sv) (o : Int) : Sv :=
  { s with cm := if -100 ≤ o ∧ o ≤ 100 then s.cm + 1 else 0
           st := if 1000 < o ∨ o < -1000 then 1 else if (-100 ≤ o ∧ o ≤ 100) ∧ 3 ≤ s.cm + 1 then 2 else s.st }
theorem nxV_parts {s : Sv} {o i : Int} (h : setV s o = false) : nxV s o i = judgeS (steerS s (rtV o i)) (ocV o) := by
  simp [nxV, h, judgeS, steerS, rfV, ndV, smB, grB]
  exact ⟨by congr, by congr⟩
theorem frV_parts {s : Sv} {o i : Int} (h : setV s o = false) : frV s o i = (judgeS (steerS s (rtV o i)) (ocV o)).fq := by
  simp [frV, h, judgeS, steerS, rfV, ndV]
theorem ret_i64 {a b : Int} (h : a = b) : Ending.returned (.int .i64 a) = .returned (.int .i64 b) := by rw [h]
theorem tdiv_th (x B : Int) (hB : 0 ≤ B) (h0 : -(1000 * B) ≤ x) (h1 : x ≤ 1000 * B) : -B ≤ x.tdiv 1000 ∧ x.tdiv 1000 ≤ B := by
  have h := Int.mul_tdiv_add_tmod x 1000
  have ha := Int.natAbs_tdiv_le_natAbs x 1000
  by_cases hx : 0 ≤ x
  · rw [Int.tdiv_eq_ediv_of_nonneg hx]; omega
  · have e : x.tdiv 1000 = -((-x) / 1000) := by
      rw [← Int.tdiv_eq_ediv_of_nonneg (show 0 ≤ -x by omega), Int.neg_tdiv, Int.neg_neg]
    rw [e]; omega
theorem mul_range {k r K R : Int} (h0 : 0 ≤ k) (h1 : k ≤ K) (h2 : -R ≤ r) (h3 : r ≤ R) (hK : 0 ≤ K) : -(K * R) ≤ k * r ∧ k * r ≤ K * R := by
  have hR : 0 ≤ R := by omega
  have a := Int.mul_le_mul_of_nonneg_left h3 h0
  have b := Int.mul_le_mul_of_nonneg_right h1 hR
  have c := Int.mul_le_mul_of_nonneg_left h2 h0
  rw [Int.mul_neg] at c
  omega

set_option maxRecDepth 100000 in
set_option maxHeartbeats 8000000 in
theorem cut_any (v a b : Int) (w : World) : Calls Try.prog 17 #[.int .i64 v, .int .i64 a, .int .i64 b] w fun e w' => e = .returned (.int .i64 (cutI v a b)) ∧ w' = w := by
  go_enter Try.func17, Try.ntmps17
  go_wp2_with fail
  all_goals
    go_ret
    refine ⟨?_, rfl⟩
    unfold cutI
    first
      | rfl
      | exact ret_i64 (by omega)

set_option maxRecDepth 100000 in
set_option maxHeartbeats 8000000 in
theorem beyond_any (v b : Int) (w : World) (h0 : 0 ≤ b) (h1 : b ≤ 9223372036854775807) : Calls Try.prog 18 #[.int .i64 v, .int .i64 b] w fun e w' => e = .returned (.bool (decide (v < -b) || decide (b < v))) ∧ w' = w := by
  have hn : IntKind.i64.wrap (-b) = -b := by rw [IntKind.wrap_i64]; omega
  by_cases c1 : v < -b
  · go_enter Try.func18, Try.ntmps18
    go_wp2_with fail
    go_ret
    exact ⟨ret_bool (by simp [c1]), rfl⟩
  · go_enter Try.func18, Try.ntmps18
    go_wp2_with fail
    go_ret
    exact ⟨ret_bool (by rw [Bool.eq_iff_iff]; simp; omega), rfl⟩

set_option maxRecDepth 100000 in
set_option maxHeartbeats 8000000 in
theorem rate_any (o i : Int) (w : World) (h0 : -1000000000 ≤ o) (h1 : o ≤ 1000000000) (h2 : 1 ≤ i) (h3 : i ≤ 16000000000) : Calls Try.prog 20 #[.int .i64 o, .int .i64 i] w fun e w' => e = .returned (.int .i64 (cutI ((o * 1000000000).tdiv i) (-512000000) 512000000)) ∧ w' = w := by
  have hm : IntKind.i64.wrap (o * 1000000000) = o * 1000000000 := by rw [IntKind.wrap_i64]; omega
  have ha := Int.natAbs_tdiv_le_natAbs (o * 1000000000) i
  have hq : IntKind.i64.wrap ((o * 1000000000).tdiv i) = (o * 1000000000).tdiv i := by rw [IntKind.wrap_i64]; omega
  have hi : ¬ i = 0 := by omega
  have hi2 : (i == 0) = false := beq_false_of_ne hi
  clear ha
  go_enter Try.func20, Try.ntmps20
  go_wp2_with fail
  refine (cut_any _ _ _ _).mono ?_
  rintro e w' ⟨rfl, rfl⟩
  go_wp2_with fail
  go_ret
  exact ⟨rfl, rfl⟩

set_option maxRecDepth 100000 in
set_option maxHeartbeats 8000000 in
theorem ownNewV : CNewV SrvR := by
  intro kp ki sp w
  obtain ⟨s0, hs⟩ : ∃ s0, newSv kp ki sp = s0 := ⟨_, rfl⟩
  have e := Box.new w (svL (newSv kp ki sp)) 37
  have nb := bnew w (Obj.cells (svL (newSv kp ki sp)).toArray 37)
  go_enter Try.func9, Try.ntmps9
  go_wp2_with fail
  refine (cut_any _ _ _ _).mono ?_
  rintro e w' ⟨rfl, rfl⟩
  go_wp2_with fail
  refine (cut_any _ _ _ _).mono ?_
  rintro e w' ⟨rfl, rfl⟩
  go_wp2_with fail
  refine (cut_any _ _ _ _).mono ?_
  rintro e w' ⟨rfl, rfl⟩
  go_wp2_with fail
  go_ret
  exact ⟨_, rfl, Nat.le_refl _, srv_shut e, nb⟩

set_option maxRecDepth 100000 in
set_option maxHeartbeats 8000000 in
theorem ownStaV : CStaV SrvR := by
  intro g s w hT
  have c0 := (srv_open hT).cell 3 _ rfl
  go_enter Try.func14, Try.ntmps14
  go_wp2_with fail
  go_ret
  exact ⟨rfl, Below.refl _ _⟩

set_option maxRecDepth 100000 in
set_option maxHeartbeats 8000000 in
theorem ownFreV : CFreV SrvR := by
  intro g s w hT
  have c0 := (srv_open hT).cell 4 _ rfl
  go_enter Try.func12, Try.ntmps12
  go_wp2_with fail
  go_ret
  exact ⟨rfl, Below.refl _ _⟩

set_option maxRecDepth 100000 in
set_option maxHeartbeats 8000000 in
theorem ownDriV : CDriV SrvR := by
  intro g s w hT
  have c0 := (srv_open hT).cell 5 _ rfl
  go_enter Try.func13, Try.ntmps13
  go_wp2_with fail
  go_ret
  exact ⟨rfl, Below.refl _ _⟩

def svK : RowK Sv := ⟨svL, 7, by decide, fun _ => rfl, svL_one⟩
theorem svT : StrT svK 37 := ⟨⟨_, Try.underlying37, rfl⟩, by kernel_rfl⟩
set_option maxRecDepth 100000 in
set_option maxHeartbeats 8000000 in
theorem ownRstV : CRstV SrvR := by
  intro g s w hT
  have B := srv_open hT
  go_enter Try.func16, Try.ntmps16
  go_upto_region 0 with fail
  refine wp_region_held_drew (S := fun w' => w'.cell? ⟨g, 0, none⟩ = some (.int .i64 s.kp) ∧ w'.cell? ⟨g, 1, none⟩ = some (.int .i64 s.ki) ∧ w'.cell? ⟨g, 2, none⟩ = some (.int .i64 s.sp)) (by kernel_rfl) (have h := B.below (Below.drew (Below.refl _ _)); ⟨h.cell 0 _ rfl, h.cell 1 _ rfl, h.cell 2 _ rfl⟩) ?_
  intro hS
  have hb := Below.drew (Below.refl w.heap.size w)
  replace B := B.below hb
  generalize w.drew = WD at *
  refine rtake 0 rfl (by rfl) (by kernel_rfl) (by kernel_rfl) (by kernel_rfl) (fun _ _ _ h => h) hS (fun wx hwx => by go_simp; try with_reducible rfl) ?_
  try simp only [Act.put, List.setIfInBounds_toArray, List.set_cons_zero, List.set_cons_succ]
  refine rtake 1 rfl (by rfl) (by kernel_rfl) (by kernel_rfl) (by kernel_rfl) (fun _ _ _ h => h) hS (fun wx hwx => by go_simp; try with_reducible rfl) ?_
  try simp only [Act.put, List.setIfInBounds_toArray, List.set_cons_zero, List.set_cons_succ]
  refine rtake 2 rfl (by rfl) (by kernel_rfl) (by kernel_rfl) (by kernel_rfl) (fun _ _ _ h => h) hS (fun wx hwx => by go_simp; try with_reducible rfl) ?_
  try simp only [Act.put, List.setIfInBounds_toArray, List.set_cons_zero, List.set_cons_succ]
  refine rtake 3 rfl (by rfl) (by kernel_rfl) (by kernel_rfl) (by kernel_rfl) (fun _ _ _ h => h) hS (fun wx hwx => by go_simp; try with_reducible rfl) ?_
  try simp only [Act.put, List.setIfInBounds_toArray, List.set_cons_zero, List.set_cons_succ]
  refine rtake 4 rfl (by rfl) (by kernel_rfl) (by kernel_rfl) (by kernel_rfl) (fun _ _ _ h => h) hS (fun wx hwx => by have q0 := hwx.1; go_simp; try with_reducible rfl) ?_
  try simp only [Act.put, List.setIfInBounds_toArray, List.set_cons_zero, List.set_cons_succ]
  refine rtake 5 rfl (by rfl) (by kernel_rfl) (by kernel_rfl) (by kernel_rfl) (fun _ _ _ h => h) hS (fun wx hwx => by go_simp; try with_reducible rfl) ?_
  try simp only [Act.put, List.setIfInBounds_toArray, List.set_cons_zero, List.set_cons_succ]
  refine rtake 6 rfl (by rfl) (by kernel_rfl) (by kernel_rfl) (by kernel_rfl) (fun _ _ _ h => h) hS (fun wx hwx => by go_simp; try with_reducible rfl) ?_
  try simp only [Act.put, List.setIfInBounds_toArray, List.set_cons_zero, List.set_cons_succ]
  refine rtake 7 rfl (by rfl) (by kernel_rfl) (by kernel_rfl) (by kernel_rfl) (fun _ _ _ h => h) hS (fun wx hwx => by go_simp; try with_reducible rfl) ?_
  try simp only [Act.put, List.setIfInBounds_toArray, List.set_cons_zero, List.set_cons_succ]
  refine rtake 8 rfl (by rfl) (by kernel_rfl) (by kernel_rfl) (by kernel_rfl) (fun _ _ _ h => h) hS (fun wx hwx => by have q1 := hwx.2.1; go_simp; try with_reducible rfl) ?_
  try simp only [Act.put, List.setIfInBounds_toArray, List.set_cons_zero, List.set_cons_succ]
  refine rtake 9 rfl (by rfl) (by kernel_rfl) (by kernel_rfl) (by kernel_rfl) (fun _ _ _ h => h) hS (fun wx hwx => by go_simp; try with_reducible rfl) ?_
  try simp only [Act.put, List.setIfInBounds_toArray, List.set_cons_zero, List.set_cons_succ]
  refine rtake 10 rfl (by rfl) (by kernel_rfl) (by kernel_rfl) (by kernel_rfl) (fun _ _ _ h => h) hS (fun wx hwx => by go_simp; try with_reducible rfl) ?_
  try simp only [Act.put, List.setIfInBounds_toArray, List.set_cons_zero, List.set_cons_succ]
  refine rtake 11 rfl (by rfl) (by kernel_rfl) (by kernel_rfl) (by kernel_rfl) (fun _ _ _ h => h) hS (fun wx hwx => by go_simp; try with_reducible rfl) ?_
  try simp only [Act.put, List.setIfInBounds_toArray, List.set_cons_zero, List.set_cons_succ]
  refine rtake 12 rfl (by rfl) (by kernel_rfl) (by kernel_rfl) (by kernel_rfl) (fun _ _ _ h => h) hS (fun wx hwx => by have q2 := hwx.2.2; go_simp; try with_reducible rfl) ?_
  try simp only [Act.put, List.setIfInBounds_toArray, List.set_cons_zero, List.set_cons_succ]
  refine rtake 13 rfl (by rfl) (by kernel_rfl) (by kernel_rfl) (by kernel_rfl) (fun _ _ _ h => h) hS (fun wx hwx => exec_build_any _ _ rfl _ rfl (svK.enc (rstV s)).toArray (by kernel_rfl)) ?_
  try simp only [Act.put, List.setIfInBounds_toArray, List.set_cons_zero, List.set_cons_succ]
  refine rtake 14 rfl (by rfl) (by kernel_rfl) (by kernel_rfl) (by kernel_rfl) (fun _ _ _ h => h) hS (fun wx hwx => by go_simp; try with_reducible rfl) ?_
  try simp only [Act.put, List.setIfInBounds_toArray, List.set_cons_zero, List.set_cons_succ]
  refine rcall 15 rfl (by kernel_rfl) (by rfl) (fun K' hK => ?_)
  refine svT.op_store _ _ rfl g (rstV s) s _ (by rfl) (by rfl) B ?_
  have B2 : Box (WD.setRow g (svK.enc (rstV s)).toArray) g (svL (rstV s)) 37 := B.rowK _
  have o2 := (Only.of_below g hb).row (svK.enc (rstV s)).toArray
  refine hK.out _ _ ⟨B2.cell 0 _ rfl, B2.cell 1 _ rfl, B2.cell 2 _ rfl⟩ ?_
  clear hK K'
  refine wpAnyH_done (by kernel_rfl) ?_ _
  go_wp2_with fail
  go_end0
  exact ⟨rfl, srv_shut B2, o2⟩

set_option maxRecDepth 100000 in
set_option maxHeartbeats 8000000 in
theorem judge_any (g : Nat) (s : Sv) (o : Int) (w : World) : Box w g (svL s) 37 → 0 ≤ s.cm → s.cm ≤ 4611686018427387904 →
    Calls Try.prog 21 #[.pointer (some ⟨g, 0, none⟩), .int .i64 o] w fun e w' => e = .returned (.tuple #[]) ∧ Box w' g (svL (judgeS s o)) 37 ∧ Only g w w' := by
  intro B hcm hcm2
  have hc6 := B.cell 6 _ rfl
  have hc3 := B.cell 3 _ rfl
  have hf6 := B.free 6
  have hf3 := B.free 3
  obtain ⟨c, hc⟩ : ∃ c, min s.cm 3 = c := ⟨_, rfl⟩
  have hc0 : 0 ≤ c ∧ c ≤ 3 := by omega
  rw [hc] at hc6
  by_cases c1 : -100 ≤ o ∧ o ≤ 100
  · obtain rfl | rfl | rfl | rfl : c = 0 ∨ c = 1 ∨ c = 2 ∨ c = 3 := by omega
    · have B1 := B.set 6 (.int .i64 1)
      have o1 := (Only.refl g w).cell 6 (.int .i64 1)
      replace B1 : Box (w.setCell ⟨g, 6, none⟩ (.int .i64 1)) g (svL { s with cm := s.cm + 1, st := s.st }) 37 := by
        rw [svL_cm _ _ _ 1 (by omega)]
        exact B1
      have hJ : judgeS s o = { s with cm := s.cm + 1, st := s.st } := by
        unfold judgeS
        rw [if_pos c1, if_neg (by omega), if_neg (by omega)]
      rw [hJ]
      go_enter Try.func21, Try.ntmps21
      go_wp2
      refine wp_scope_hop ?_
      intro Q' hret hgo
      go_wp2_with fail
      refine (beyond_any _ _ _ (by decide) (by decide)).mono ?_
      rintro e w' ⟨he, rfl⟩
      rw [show (decide (o < -100) || decide (100 < o)) = false by simp; omega] at he
      subst he
      go_wp2_with fail
      go_step3
      refine hgo 1 _ _ _ rfl ?_
      go_wp2_with fail
      rw [Exit.noGoto_normal]
      go_end0
      exact ⟨rfl, B1, o1⟩
    · have B1 := B.set 6 (.int .i64 2)
      have o1 := (Only.refl g w).cell 6 (.int .i64 2)
      replace B1 : Box (w.setCell ⟨g, 6, none⟩ (.int .i64 2)) g (svL { s with cm := s.cm + 1, st := s.st }) 37 := by
        rw [svL_cm _ _ _ 2 (by omega)]
        exact B1
      have hJ : judgeS s o = { s with cm := s.cm + 1, st := s.st } := by
        unfold judgeS
        rw [if_pos c1, if_neg (by omega), if_neg (by omega)]
      rw [hJ]
      go_enter Try.func21, Try.ntmps21
      go_wp2
      refine wp_scope_hop ?_
      intro Q' hret hgo
      go_wp2_with fail
      refine (beyond_any _ _ _ (by decide) (by decide)).mono ?_
      rintro e w' ⟨he, rfl⟩
      rw [show (decide (o < -100) || decide (100 < o)) = false by simp; omega] at he
      subst he
      go_wp2_with fail
      go_step3
      refine hgo 1 _ _ _ rfl ?_
      go_wp2_with fail
      rw [Exit.noGoto_normal]
      go_end0
      exact ⟨rfl, B1, o1⟩
    · have B1 := B.set 6 (.int .i64 3)
      have o1 := (Only.refl g w).cell 6 (.int .i64 3)
      have B2 := B1.set 3 (.int .i64 2)
      have o2 := o1.cell 3 (.int .i64 2)
      replace B2 : Box ((w.setCell ⟨g, 6, none⟩ (.int .i64 3)).setCell ⟨g, 3, none⟩ (.int .i64 2)) g (svL { s with cm := s.cm + 1, st := 2 }) 37 := by
        rw [svL_cm _ _ _ 3 (by omega)]
        exact B2
      have hJ : judgeS s o = { s with cm := s.cm + 1, st := 2 } := by
        unfold judgeS
        rw [if_pos c1, if_neg (by omega), if_pos (by omega)]
      rw [hJ]
      go_enter Try.func21, Try.ntmps21
      go_wp2
      refine wp_scope_hop ?_
      intro Q' hret hgo
      go_wp2_with fail
      refine (beyond_any _ _ _ (by decide) (by decide)).mono ?_
      rintro e w' ⟨he, rfl⟩
      rw [show (decide (o < -100) || decide (100 < o)) = false by simp; omega] at he
      subst he
      go_wp2_with fail
      go_step3
      refine hgo 1 _ _ _ rfl ?_
      go_wp2_with fail
      rw [Exit.noGoto_normal]
      go_end0
      exact ⟨rfl, B2, o2⟩
    · have B1 := B.set 6 (.int .i64 3)
      have o1 := (Only.refl g w).cell 6 (.int .i64 3)
      have B2 := B1.set 3 (.int .i64 2)
      have o2 := o1.cell 3 (.int .i64 2)
      replace B2 : Box ((w.setCell ⟨g, 6, none⟩ (.int .i64 3)).setCell ⟨g, 3, none⟩ (.int .i64 2)) g (svL { s with cm := s.cm + 1, st := 2 }) 37 := by
        rw [svL_cm _ _ _ 3 (by omega)]
        exact B2
      have hJ : judgeS s o = { s with cm := s.cm + 1, st := 2 } := by
        unfold judgeS
        rw [if_pos c1, if_neg (by omega), if_pos (by omega)]
      rw [hJ]
      go_enter Try.func21, Try.ntmps21
      go_wp2
      refine wp_scope_hop ?_
      intro Q' hret hgo
      go_wp2_with fail
      refine (beyond_any _ _ _ (by decide) (by decide)).mono ?_
      rintro e w' ⟨he, rfl⟩
      rw [show (decide (o < -100) || decide (100 < o)) = false by simp; omega] at he
      subst he
      go_wp2_with fail
      go_step3
      refine hgo 1 _ _ _ rfl ?_
      go_wp2_with fail
      rw [Exit.noGoto_normal]
      go_end0
      exact ⟨rfl, B2, o2⟩
  · by_cases c2 : 1000 < o ∨ o < -1000
    · have B1 := B.set 6 (.int .i64 0)
      have o1 := (Only.refl g w).cell 6 (.int .i64 0)
      have B2 := B1.set 3 (.int .i64 1)
      have o2 := o1.cell 3 (.int .i64 1)
      replace B2 : Box ((w.setCell ⟨g, 6, none⟩ (.int .i64 0)).setCell ⟨g, 3, none⟩ (.int .i64 1)) g (svL { s with cm := 0, st := 1 }) 37 := B2
      have hJ : judgeS s o = { s with cm := 0, st := 1 } := by
        unfold judgeS
        rw [if_neg c1, if_pos (by omega)]
      rw [hJ]
      go_enter Try.func21, Try.ntmps21
      go_wp2
      refine wp_scope_hop ?_
      intro Q' hret hgo
      go_wp2_with fail
      refine (beyond_any _ _ _ (by decide) (by decide)).mono ?_
      rintro e w' ⟨he, rfl⟩
      rw [show (decide (o < -100) || decide (100 < o)) = true by simp; omega] at he
      subst he
      go_wp2_with fail
      go_step3
      refine hgo 0 _ _ _ rfl ?_
      go_wp2_with fail
      refine (beyond_any _ _ _ (by decide) (by decide)).mono ?_
      rintro e w' ⟨he, rfl⟩
      rw [show (decide (o < -1000) || decide (1000 < o)) = true by simp; omega] at he
      subst he
      go_wp2_with fail
      refine wp_label ?_
      go_wp2_with fail
      rw [Exit.noGoto_normal]
      go_end0
      exact ⟨rfl, B2, o2⟩
    · have B1 := B.set 6 (.int .i64 0)
      have o1 := (Only.refl g w).cell 6 (.int .i64 0)
      replace B1 : Box (w.setCell ⟨g, 6, none⟩ (.int .i64 0)) g (svL { s with cm := 0, st := s.st }) 37 := B1
      have hJ : judgeS s o = { s with cm := 0, st := s.st } := by
        unfold judgeS
        rw [if_neg c1, if_neg (by omega), if_neg (by omega)]
      rw [hJ]
      go_enter Try.func21, Try.ntmps21
      go_wp2
      refine wp_scope_hop ?_
      intro Q' hret hgo
      go_wp2_with fail
      refine (beyond_any _ _ _ (by decide) (by decide)).mono ?_
      rintro e w' ⟨he, rfl⟩
      rw [show (decide (o < -100) || decide (100 < o)) = true by simp; omega] at he
      subst he
      go_wp2_with fail
      go_step3
      refine hgo 0 _ _ _ rfl ?_
      go_wp2_with fail
      refine (beyond_any _ _ _ (by decide) (by decide)).mono ?_
      rintro e w' ⟨he, rfl⟩
      rw [show (decide (o < -1000) || decide (1000 < o)) = false by simp; omega] at he
      subst he
      go_wp2_with fail
      refine wp_label ?_
      go_wp2_with fail
      rw [Exit.noGoto_normal]
      go_end0
      exact ⟨rfl, B1, o1⟩
set_option maxRecDepth 100000 in
set_option maxHeartbeats 8000000 in
theorem steer_any (g : Nat) (s : Sv) (r : Int) (w : World) (hin : InSv s) (h0 : -512000000 ≤ r) (h1 : r ≤ 512000000) (B : Box w g (svL s) 37) :
    Calls Try.prog 19 #[.pointer (some ⟨g, 0, none⟩), .int .i64 r] w fun e w' => e = .returned (.tuple #[]) ∧ Box w' g (svL (steerS s r)) 37 ∧ Only g w w' := by
  obtain ⟨⟨hp0, hp1⟩, ⟨hi0, hi1⟩, -, -, -, ⟨hd0, hd1⟩, -⟩ := hin
  have hc0 := B.cell 0 _ rfl
  have hc1 := B.cell 1 _ rfl
  have hc5 := B.cell 5 _ rfl
  have hf4 := B.free 4
  obtain ⟨m1, m2⟩ := mul_range (K := 2000) (R := 512000000) hp0 hp1 h0 h1 (by decide)
  obtain ⟨n1, n2⟩ := mul_range (K := 2000) (R := 512000000) hi0 hi1 h0 h1 (by decide)
  obtain ⟨P1, hP1⟩ : ∃ P1, s.kp * r = P1 := ⟨_, rfl⟩
  obtain ⟨I1, hI1⟩ : ∃ I1, s.ki * r = I1 := ⟨_, rfl⟩
  rw [hP1] at m1 m2
  rw [hI1] at n1 n2
  obtain ⟨p1, p2⟩ := tdiv_th P1 1024000000 (by decide) (by omega) (by omega)
  obtain ⟨i1, i2⟩ := tdiv_th I1 1024000000 (by decide) (by omega) (by omega)
  obtain ⟨P, hP⟩ : ∃ P, P1.tdiv 1000 = P := ⟨_, rfl⟩
  obtain ⟨I, hI⟩ : ∃ I, I1.tdiv 1000 = I := ⟨_, rfl⟩
  rw [hP] at p1 p2
  rw [hI] at i1 i2
  obtain ⟨D, hD⟩ : ∃ D, cutI (s.dr + I) (-512000) 512000 = D := ⟨_, rfl⟩
  have hDr := cutI_range (v := s.dr + I) (a := -512000) (b := 512000) (by decide)
  rw [hD] at hDr
  obtain ⟨F, hF⟩ : ∃ F, -P - D = F := ⟨_, rfl⟩
  have hS : steerS s r = { s with fq := cutI F (-512000) 512000, dr := if F < -512000 ∨ 512000 < F then s.dr else D } := by
    unfold steerS
    rw [hP1, hI1, hP, hI, hD, hF]
  rw [hS]
  have w1 : IntKind.i64.wrap (s.kp * r) = P1 := by rw [hP1, IntKind.wrap_i64]; omega
  have w2 : IntKind.i64.wrap (P1.tdiv 1000) = P := by rw [hP, IntKind.wrap_i64]; omega
  have w3 : IntKind.i64.wrap (s.ki * r) = I1 := by rw [hI1, IntKind.wrap_i64]; omega
  have w4 : IntKind.i64.wrap (I1.tdiv 1000) = I := by rw [hI, IntKind.wrap_i64]; omega
  have w5 : IntKind.i64.wrap (s.dr + I) = s.dr + I := by rw [IntKind.wrap_i64]; omega
  have w6 : IntKind.i64.wrap (-P) = -P := by rw [IntKind.wrap_i64]; omega
  have w7 : IntKind.i64.wrap (-P - D) = F := by rw [hF, IntKind.wrap_i64]; omega
  have hDc := hid hD
  clear hS hP1 hI1 hP hI hD hF m1 m2 n1 n2 p1 p2 i1 i2 hDr
  go_enter Try.func19, Try.ntmps19
  go_wp2
  refine wp_scope_hop3 ?_
  intro Q' hret hgo hnor
  go_wp2_with fail
  go_quiet (go_at_call 17 <;> exact Calls.quiet_of_same (cut_any _ _ _ _))
  have hb := drewV_below w nq
  replace B := B.below hb
  have ho := Only.of_below g hb
  generalize w.drewN nq = W at *
  clear hc0 hc1 hc5 hf4 hb w1 w2 w3 w4 w5
  rw [hDc.out]
  have hf4 := B.free 4
  have hc4 := B.cell 4 _ rfl
  have hc5 := B.cell 5 _ rfl
  have B1 := B.set 4 (.int .i64 (cutI F (-512000) 512000))
  have o1 := ho.cell 4 (.int .i64 (cutI F (-512000) 512000))
  have hf5 := B1.free 5
  have B2 := B1.set 5 (.int .i64 D)
  have o2 := o1.cell 5 (.int .i64 D)
  by_cases c1 : F < -512000 ∨ 512000 < F
  · go_wp2_with fail
    refine (cut_any _ _ _ _).mono ?_
    rintro e w' ⟨rfl, rfl⟩
    go_wp2_with fail
    refine (beyond_any _ _ _ (by decide) (by decide)).mono ?_
    rintro e w' ⟨he, rfl⟩
    rw [show (decide (F < -512000) || decide (512000 < F)) = true by simp; omega] at he
    subst he
    go_wp2_with fail
    go_step3
    refine hgo 0 _ _ _ rfl ?_
    go_wp2_with fail
    rw [Exit.noGoto_normal]
    go_end0
    exact ⟨rfl, by rw [if_pos c1]; exact B1, o1⟩
  · go_wp2_with fail
    refine (cut_any _ _ _ _).mono ?_
    rintro e w' ⟨rfl, rfl⟩
    go_wp2_with fail
    refine (beyond_any _ _ _ (by decide) (by decide)).mono ?_
    rintro e w' ⟨he, rfl⟩
    rw [show (decide (F < -512000) || decide (512000 < F)) = false by simp; omega] at he
    subst he
    go_wp2_with fail
    refine wp_label ?_
    go_wp2_with fail
    go_end0
    exact ⟨rfl, B2, o2⟩
set_option maxRecDepth 100000 in
set_option maxHeartbeats 8000000 in
theorem samp_any (g : Nat) (s : Sv) (o i : Int) (w : World) (hT : SvAt SrvR w g s) (hin : InSv s) :
    Calls Try.prog 11 #[.pointer (some ⟨g, 0, none⟩), .int .i64 o, .int .i64 i] w fun e w' => e = .returned (.tuple #[.int .i64 (byV s o), .bool (setV s o), .int .i64 (frV s o i)]) ∧ SvAt SrvR w' g (nxV s o i) ∧ Only g w w' := by
  have B := srv_open hT
  obtain ⟨O, hO⟩ : ∃ O, ocV o = O := ⟨_, rfl⟩
  obtain ⟨I, hI⟩ : ∃ I, icV i = I := ⟨_, rfl⟩
  have hOr := cutI_range (v := o) (a := -4000000000000000) (b := 4000000000000000) (by decide)
  have hIr := cutI_range (v := i) (a := 1) (b := 16000000000) (by decide)
  rw [show cutI o (-4000000000000000) 4000000000000000 = O from hO] at hOr
  rw [show cutI i 1 16000000000 = I from hI] at hIr
  have hc3 := B.cell 3 _ rfl
  have hc2 := B.cell 2 _ rfl
  have hsp := hin.2.2.1
  by_cases c1 : s.st = 0
  · have cs : setV s o = true := by simp [setV, c1]
    have d1 : (s.st == 0) = true := beq_iff_eq.2 c1
    have B1 := B.set 3 (.int .i64 1)
    have o1 := (Only.refl g w).cell 3 (.int .i64 1)
    have hf3 := B.free 3
    have hc6 := B.cell 6 _ rfl
    have hf6 := B1.free 6
    have B2 : Box ((w.setCell ⟨g, 3, none⟩ (.int .i64 1)).setCell ⟨g, 6, none⟩ (.int .i64 0)) g (svL { s with st := 1, cm := 0 }) 37 := B1.set 6 (.int .i64 0)
    have o2 := o1.cell 6 (.int .i64 0)
    have hc4 := B2.cell 4 _ rfl
    obtain ⟨j1, j2, j3⟩ := nxV_set (i := i) cs
    rw [j1, j2, j3, cs, hO]
    have wn : IntKind.i64.wrap (-O) = -O := by rw [IntKind.wrap_i64]; omega
    clear hT hin hsp j1 j2 j3 cs hIr hI
    replace hO := hid hO
    go_enter Try.func11, Try.ntmps11
    go_wp2
    refine wp_scope_hop ?_
    intro Q' hret hgo
    go_wp2_with fail
    refine (cut_any o _ _ _).mono ?_
    rintro e w' ⟨he, rfl⟩
    rw [show cutI o (-4000000000000000) 4000000000000000 = O from hO.out] at he
    subst he
    go_wp2_with fail
    go_step3
    refine hgo 0 _ _ _ rfl ?_
    go_wp2_with fail
    refine wp_label ?_
    generalize (w'.setCell ⟨g, 3, none⟩ (.int .i64 1)).setCell ⟨g, 6, none⟩ (.int .i64 0) = W2 at *
    clear hc3 hc2 hc6 hf3 hf6 B B1 o1
    go_upto_region 8 with fail
    go_quiet (fail)
    have hb := drewV_below W2 nq
    replace B2 := B2.below hb
    replace o2 := o2.next hb
    go_wp2_with fail
    rw [Exit.noGoto_ret]
    go_ret3
    exact ⟨rfl, srv_shut B2, o2⟩
  have d1 : (s.st == 0) = false := beq_false_of_ne c1
  by_cases c2 : s.sp = 0
  · have cs : setV s o = true := by simp [setV, c2]
    have d2 : (s.sp == 0) = true := beq_iff_eq.2 c2
    have B1 := B.set 3 (.int .i64 1)
    have o1 := (Only.refl g w).cell 3 (.int .i64 1)
    have hf3 := B.free 3
    have hc6 := B.cell 6 _ rfl
    have hf6 := B1.free 6
    have B2 : Box ((w.setCell ⟨g, 3, none⟩ (.int .i64 1)).setCell ⟨g, 6, none⟩ (.int .i64 0)) g (svL { s with st := 1, cm := 0 }) 37 := B1.set 6 (.int .i64 0)
    have o2 := o1.cell 6 (.int .i64 0)
    have hc4 := B2.cell 4 _ rfl
    obtain ⟨j1, j2, j3⟩ := nxV_set (i := i) cs
    rw [j1, j2, j3, cs, hO]
    have wn : IntKind.i64.wrap (-O) = -O := by rw [IntKind.wrap_i64]; omega
    clear hT hin hsp j1 j2 j3 cs hIr hI
    replace hO := hid hO
    go_enter Try.func11, Try.ntmps11
    go_wp2
    refine wp_scope_hop ?_
    intro Q' hret hgo
    go_wp2_with fail
    refine (cut_any o _ _ _).mono ?_
    rintro e w' ⟨he, rfl⟩
    rw [show cutI o (-4000000000000000) 4000000000000000 = O from hO.out] at he
    subst he
    go_wp2_with fail
    go_step3
    refine hgo 0 _ _ _ rfl ?_
    go_wp2_with fail
    refine wp_label ?_
    generalize (w'.setCell ⟨g, 3, none⟩ (.int .i64 1)).setCell ⟨g, 6, none⟩ (.int .i64 0) = W2 at *
    clear hc3 hc2 hc6 hf3 hf6 B B1 o1
    go_upto_region 8 with fail
    go_quiet (fail)
    have hb := drewV_below W2 nq
    replace B2 := B2.below hb
    replace o2 := o2.next hb
    go_wp2_with fail
    rw [Exit.noGoto_ret]
    go_ret3
    exact ⟨rfl, srv_shut B2, o2⟩
  have d2 : (s.sp == 0) = false := beq_false_of_ne c2
  by_cases c3 : s.sp < O ∨ O < -s.sp
  · have cs : setV s o = true := by unfold setV; rw [hO, d1, d2]; simp; exact c3
    have hs0 := hsp.1
    have hs1 : s.sp ≤ 9223372036854775807 := by omega
    have B1 := B.set 3 (.int .i64 1)
    have o1 := (Only.refl g w).cell 3 (.int .i64 1)
    have hf3 := B.free 3
    have hc6 := B.cell 6 _ rfl
    have hf6 := B1.free 6
    have B2 : Box ((w.setCell ⟨g, 3, none⟩ (.int .i64 1)).setCell ⟨g, 6, none⟩ (.int .i64 0)) g (svL { s with st := 1, cm := 0 }) 37 := B1.set 6 (.int .i64 0)
    have o2 := o1.cell 6 (.int .i64 0)
    have hc4 := B2.cell 4 _ rfl
    obtain ⟨j1, j2, j3⟩ := nxV_set (i := i) cs
    rw [j1, j2, j3, cs, hO]
    have wn : IntKind.i64.wrap (-O) = -O := by rw [IntKind.wrap_i64]; omega
    clear hT hin hsp j1 j2 j3 cs hIr hI
    replace hO := hid hO
    go_enter Try.func11, Try.ntmps11
    go_wp2
    refine wp_scope_hop ?_
    intro Q' hret hgo
    go_wp2_with fail
    refine (cut_any o _ _ _).mono ?_
    rintro e w' ⟨he, rfl⟩
    rw [show cutI o (-4000000000000000) 4000000000000000 = O from hO.out] at he
    subst he
    go_wp2_with fail
    refine (beyond_any _ _ _ hs0 hs1).mono ?_
    rintro e w' ⟨he, rfl⟩
    rw [show (decide (O < -s.sp) || decide (s.sp < O)) = true by simp; omega] at he
    subst he
    go_wp2_with fail
    go_step3
    refine hgo 0 _ _ _ rfl ?_
    go_wp2_with fail
    refine wp_label ?_
    generalize (w'.setCell ⟨g, 3, none⟩ (.int .i64 1)).setCell ⟨g, 6, none⟩ (.int .i64 0) = W2 at *
    clear hc3 hc2 hc6 hf3 hf6 B B1 o1
    go_upto_region 8 with fail
    go_quiet (fail)
    have hb := drewV_below W2 nq
    replace B2 := B2.below hb
    replace o2 := o2.next hb
    go_wp2_with fail
    rw [Exit.noGoto_ret]
    go_ret3
    exact ⟨rfl, srv_shut B2, o2⟩
  have cs : setV s o = false := by unfold setV; rw [hO, d1, d2]; simp; omega
  have hcm := hin.2.2.2.2.2.2
  have hs0 := hsp.1
  have hs1 : s.sp ≤ 9223372036854775807 := by omega
  have hO1 : -1000000000 ≤ O := by omega
  have hO2 : O ≤ 1000000000 := by omega
  obtain ⟨r, hr⟩ : ∃ r, rtV o i = r := ⟨_, rfl⟩
  have hr1 : cutI ((O * 1000000000).tdiv I) (-512000000) 512000000 = r := by rw [← hr]; unfold rtV; rw [hO, hI]
  have hrr := cutI_range (v := (O * 1000000000).tdiv I) (a := -512000000) (b := 512000000) (by decide)
  rw [hr1] at hrr
  rw [nxV_parts cs, frV_parts cs, cs, (nxV_not (i := i) cs).2, hr, hO]
  have HS := hid hin
  have HO := hid (show cutI o (-4000000000000000) 4000000000000000 = O from hO)
  have HI := hid (show cutI i 1 16000000000 = I from hI)
  have HR := hid hr1
  clear hT hin hO hI hr hr1 cs
  go_enter Try.func11, Try.ntmps11
  go_wp2
  refine wp_scope_hop ?_
  intro Q' hret hgo
  go_wp2_with fail
  refine (cut_any o _ _ _).mono ?_
  rintro e w' ⟨he, rfl⟩
  rw [HO.out] at he
  subst he
  go_wp2_with fail
  refine (beyond_any _ _ _ hs0 hs1).mono ?_
  rintro e w' ⟨he, rfl⟩
  rw [show (decide (O < -s.sp) || decide (s.sp < O)) = false by simp; omega] at he
  subst he
  go_wp2_with fail
  refine (cut_any i _ _ _).mono ?_
  rintro e w' ⟨he, rfl⟩
  rw [HI.out] at he
  subst he
  go_wp2_with fail
  refine (rate_any O I _ hO1 hO2 hIr.1 hIr.2).mono ?_
  rintro e w' ⟨he, rfl⟩
  rw [HR.out] at he
  subst he
  go_wp2_with fail
  refine (steer_any g s r _ HS.out hrr.1 hrr.2 B).mono ?_
  rintro e w1 ⟨rfl, B1, o1⟩
  clear hc3 hc2
  go_wp2_with fail
  refine (judge_any g (steerS s r) O _ B1 hcm.1 hcm.2).mono ?_
  rintro e W2 ⟨rfl, B2, o2⟩
  replace o2 := o1.trans o2
  have hc4 := B2.cell 4 _ rfl
  clear B B1 o1
  go_wp2_with fail
  go_step3
  refine hgo 1 _ _ _ rfl ?_
  go_upto_region 8 with fail
  go_quiet (fail)
  have hb := drewV_below W2 nq
  replace B2 := B2.below hb
  replace o2 := o2.next hb
  go_wp2_with fail
  rw [Exit.noGoto_ret]
  go_ret3
  exact ⟨rfl, srv_shut B2, o2⟩
theorem ownSamp : CSamp SrvR := fun g s o i w h1 h2 _ _ => samp_any g s o i w h1 h2
end Go.Proofs.Ytpiohedfhhkkhaa
