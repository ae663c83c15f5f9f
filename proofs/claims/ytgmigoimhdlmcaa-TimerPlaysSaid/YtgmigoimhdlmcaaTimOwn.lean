/- The program's own timer: one number, the ticks that are left. -/
import Derived.Test.YtgmigoimhdlmcaaTim
import Derived.Test.YtgmigoimhdlmcaaHop
namespace Go.Proofs.Ytgmigoimhdlmcaa
open Go.RowKit Go.Proofs
set_option maxRecDepth 50000
set_option linter.unusedVariables false
set_option linter.unusedSimpArgs false

def TimR (xs : List Value) (n : Int) : Prop := xs = [.int .i64 n]
theorem tim_open {w : World} {g : Nat} {n : Int} (h : TAt TimR w g n) : Box w g [.int .i64 n] 38 := by
  obtain ⟨xs, hB, rfl⟩ := h
  exact hB
theorem tim_shut {w : World} {g : Nat} {n : Int} (h : Box w g [.int .i64 n] 38) : TAt TimR w g n := ⟨_, h, rfl⟩

theorem ownNewT : CNewT TimR := by
  intro w
  have e := Box.new w [.int .i64 0] 38
  have nb := bnew w (Obj.cells #[.int .i64 0] 38)
  go_enter Try.func7, Try.ntmps7
  go_wp2_with fail
  go_ret
  exact ⟨_, rfl, Nat.le_refl _, tim_shut e, nb⟩

theorem ownLeftT : CLeftT TimR := by
  intro g n w hB
  have c0 := (tim_open hB).cell 0 _ rfl
  go_enter Try.func14, Try.ntmps14
  go_wp2_with fail
  go_ret
  exact ⟨rfl, Below.refl _ _⟩

theorem ownStopT : CStopT TimR := by
  intro g n w hT
  have B := tim_open hT
  have c0 := B.cell 0 _ rfl
  have hf := B.free 0
  have B2 := B.set 0 (.int .i64 0)
  have o2 := (Only.refl g w).cell 0 (.int .i64 0)
  go_enter Try.func11, Try.ntmps11
  go_wp2_with fail
  go_end0
  exact ⟨rfl, tim_shut B2, o2⟩

set_option maxHeartbeats 1000000 in
theorem ownStartT : CStartT TimR := by
  intro g n m w hT
  have B := tim_open hT
  have hc := B.cell 0 _ rfl
  have hf := B.free 0
  have B2 := B.set 0 (.int .i64 (clampT m))
  have o2 := (Only.refl g w).cell 0 (.int .i64 (clampT m))
  go_enter Try.func9, Try.ntmps9
  go_wp2_with fail
  all_goals
    go_end0
    first
      | (have e : clampT m = 1 := by unfold clampT; rw [if_pos (by omega)]
         rw [e] at B2 o2 ⊢; exact ⟨rfl, tim_shut B2, o2⟩)
      | (have e : clampT m = 1073741824 := by unfold clampT; rw [if_neg (by omega), if_pos (by omega)]
         rw [e] at B2 o2 ⊢; exact ⟨rfl, tim_shut B2, o2⟩)
      | (have e : clampT m = m := by unfold clampT; rw [if_neg (by omega), if_neg (by omega)]
         rw [e] at B2 o2 ⊢; exact ⟨rfl, tim_shut B2, o2⟩)

set_option maxHeartbeats 1000000 in
theorem ownTickT : CTickT TimR := by
  intro g n w hT hn
  have B := tim_open hT
  have hc := B.cell 0 _ rfl
  have hf := B.free 0
  by_cases h : n = 0
  · subst h
    go_enter Try.func12, Try.ntmps12
    go_wp2
    refine wp_scope_hop ?_
    intro Q' hret hgo
    go_wp2_with fail
    go_step3
    refine hgo 0 _ _ _ rfl ?_
    go_wp2_with fail
    rw [Exit.noGoto_ret]
    go_ret
    exact ⟨rfl, hT, Only.refl _ _⟩
  · have h0 : (n == 0) = false := beq_false_of_ne h
    unfold InT at hn
    obtain ⟨hn0, hn1⟩ := hn
    have B2 := B.set 0 (.int .i64 (n - 1))
    have o2 := (Only.refl g w).cell 0 (.int .i64 (n - 1))
    rw [tickT_pos h]
    have hw : IntKind.i64.wrap (n - 1) = n - 1 := by rw [IntKind.wrap_i64]; omega
    go_enter Try.func12, Try.ntmps12
    go_wp2
    refine wp_scope_hop ?_
    intro Q' hret hgo
    go_upto_region 4 with fail
    generalize w.setCell ⟨g, 0, none⟩ (.int .i64 (n - 1)) = W at *
    have hc2 := B2.cell 0 _ rfl
    go_wp2_with fail
    refine wp_label ?_
    go_wp2_with fail
    refine hret _ _ ?_
    go_ret
    exact ⟨ret_bool (by rw [Bool.eq_iff_iff, beq_iff_eq, beq_iff_eq]; omega), tim_shut B2, o2⟩
end Go.Proofs.Ytgmigoimhdlmcaa
