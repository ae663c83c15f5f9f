/- carillonlaw09's few and awake; a message that is all zero, built; a message compared with itself. -/
import Derived.Test.YtohgpnlihfcecaaFrameOwn
import Derived.Test.YtohgpnlihfcecaaFrameOwn2
import Derived.Test.YtohgpnlihfcecaaFrameSay
import Derived.Test.YtohgpnlihfcecaaB6
import Derived.Test.YtohgpnlihfcecaaMsg3
import Derived.Test.YtohgpnlihfcecaaB1
namespace Go.Proofs.Ytohgpnlihfcecaa
open Go.RowKit Go.Proofs
set_option maxRecDepth 50000
set_option linter.unusedVariables false
set_option linter.unusedSimpArgs false

theorem few_len9 {l : List T2} (h : fewB l = true) : l.length ≤ 20 := by
  unfold fewB at h
  rw [Bool.and_eq_true, decide_eq_true_eq] at h
  exact h.2
theorem few_all9 {l : List T2} (h : fewB l = true) : ∀ q ∈ l, q.2.length ≤ 600 := by
  unfold fewB at h
  rw [Bool.and_eq_true, List.all_eq_true] at h
  exact fun q hq => of_decide_eq_true (h.1 q hq)

set_option maxHeartbeats 1600000 in
theorem few09_any (v : Value) (l : List T2) (w : World) (hB : Tlvs w v l) (hl : l.length ≤ 140737488355328) :
    Calls Try.prog 9 #[v] w fun e w' => e = .returned (.bool (fewB l)) ∧ w = w' := by
  obtain ⟨p, cap, rfl, hc, hm, hat⟩ := hB
  have HAT := hid hat
  clear hat hc hm
  have HN := hid (@few_no l)
  have HY := hid (@few_yes l)
  generalize hF : fewB l = F at *
  clear hF
  go_enter Try.func9, Try.ntmps9
  go_wp2_with fail
  go_loop [3] (fun i => ∃ k : Nat, k ≤ l.length ∧ i = .int .i64 k ∧ Hid (∀ j (hj : j < l.length), j < k → (l[j]).2.length ≤ 600)) (fun i => l.length - (intOf i).toNat)
  case atStart => exact ⟨0, Nat.zero_le _, rfl, hid fun j hj h => absurd h (Nat.not_lt_zero _)⟩
  case round =>
    obtain ⟨k, hk, rfl, hA⟩ := hrel
    by_cases hlt : k < l.length
    · obtain ⟨b, off, rfl, hrow⟩ := HAT.out.row (by omega)
      obtain ⟨c, s, hq, H1, H2⟩ := hrow.get k hlt
      have c2 := H2.out _ (Below.refl _ _)
      have HQ : Hid ((l[k]).2.length = s.length) := hid (by rw [hq])
      clear hrow hq
      have hks : k + 1 ≤ l.length := hlt
      by_cases hs : s.length ≤ 600
      · go_wp2_with fail
        go_round
        case rel =>
          refine ⟨k + 1, hks, by go_num, hid fun j hj h => ?_⟩
          by_cases hjk : j = k
          · subst hjk
            rw [HQ.out]
            exact hs
          · exact hA.out j hj (by omega)
        case measure => simp [intOf]; omega
      · go_wp2_with fail
        go_ret
        exact ⟨by rw [HN.out k hlt (by rw [HQ.out]; exact hs)]; rfl, rfl⟩
    · go_wp2_with fail
      go_ret
      refine ⟨?_, rfl⟩
      rw [HY.out fun j hj => hA.out j hj (by omega)]
      exact ret_bool (by rw [Bool.eq_iff_iff, decide_eq_true_eq, decide_eq_true_eq]; omega)

theorem build_zero (w : World) : (Instr.build 28 #[]).run Try.prog w = .ok (.agg (msgF hd0 bd0).toArray) w := run_build w _ _ _ (by kernel_rfl)

theorem wpList_build_zero {ops : Array Oper} {rest : List Oper} {op : Oper} {a : Act} {w : World} {Q : Exit → Act → World → Prop} (hgd : op.guard = none)
    (ho : op.op = .build 28 #[])
    (hh : wpList Try.prog ops Q rest (a.put op.dst (.agg (msgF hd0 bd0).toArray)) w) : wpList Try.prog ops Q (op :: rest) a w :=
  wpList_plain hgd fun K hK => by
    unfold Oper.wp execOp
    have hr := build_zero w
    simp only [ho, List.map_toArray, List.map_nil, Sem.run_bind, hr, Result.andThen_ok, Sem.run_pure]
    exact hK _ _ hh

theorem wpList_build_zero_g {ops : Array Oper} {rest : List Oper} {op : Oper} {a : Act} {w : World} {Q : Exit → Act → World → Prop} (hw : Region.wanted op (yielded ops a.tmps) = true)
    (ho : op.op = .build 28 #[])
    (hh : wpList Try.prog ops Q rest (a.put op.dst (.agg (msgF hd0 bd0).toArray)) w) : wpList Try.prog ops Q (op :: rest) a w :=
  wpList_step fun K hK => by
    rw [if_pos hw]
    unfold Oper.wp execOp
    have hr := build_zero w
    simp only [ho, List.map_toArray, List.map_nil, Sem.run_bind, hr, Result.andThen_ok, Sem.run_pure]
    exact hK _ _ hh

theorem same_self9 (h : Hd) (d : Bd) (w : World) : (Op.equalIn 10000 28 (.agg (msgF h d).toArray) (.agg (msgF h d).toArray)).run Try.prog w = .ok true w := by
  rw [equal_msg, sameM_iff.2 ⟨rfl, rfl⟩]

theorem zero_ok : MsgOk hd0 bd0 := by unfold MsgOk HdOk; decide
theorem zero_frame : frameB hd0 bd0 [] = true := by decide

set_option maxRecDepth 100000 in
set_option maxHeartbeats 4000000 in
theorem awake09_any (w : World) :
    Calls Try.prog 10 #[] w fun e w' => e = .returned (.bool true) ∧ Below w.heap.size w w' := by
  obtain ⟨q1, q2, q3, q4⟩ := frame_back zero_ok zero_frame
  have hlen : (frameS hd0 bd0 []).length = 44 := by
    have h1 := (frameB_parts zero_frame).2.2.2.2
    have h2 : frameN hd0 [] = 44 := by decide
    omega
  have hput := fun w : World => framePut_any hd0 bd0 (.slice none 0 0) [] w zero_ok (Tlvs.nil w) (by decide) (by simp)
  rw [frameP_yes zero_frame] at hput
  generalize frameS hd0 bd0 [] = FS at *
  have hget := fun w : World => frameGet_any FS w (by omega)
  rw [q1, q2, q3, q4] at hget
  have hS := same_self9 hd0 bd0
  clear q1 q2 q3 q4
  go_enter Try.func10, Try.ntmps10
  go_wp2_with (guard_target =~ wpList _ _ _ (⟨some 7, _, _, _, _, _⟩ :: _) _ _; refine wpList_build_zero (op := ⟨some 7, .build _ _, _, _, _, _⟩) (by rfl) (by rfl) ?_)
  refine (hput _).mono ?_
  rintro e w1 ⟨rfl, hb⟩
  clear hput
  go_wp2_with fail
  refine (hget _).mono ?_
  rintro e w3 ⟨v3, rfl, o3, b3⟩
  clear hget
  replace hb := bnext hb b3
  have N := Box.new w3 (msgL hd0 zr) 28
  have nb := bnew w3 (Obj.cells (msgL hd0 zr).toArray 28)
  go_upto_region 3 with (guard_target =~ wpList _ _ _ (⟨none, _, _, _, _, _⟩ :: _) _ _; refine wpList_store_msg (op := ⟨none, .store _ _ _, _, _, _, _⟩) (by rfl) _ _ (by rfl) w3.heap.size (msgF hd0 bd0) (msgL hd0 zr) _ (by rfl) (by rfl) N (msgF_length _ _) (msgL_length _ _ zr_length) (msgL_one _ _ (bdL_one _)) ?_)
  have B3 := N.row (msgF hd0 bd0)
  replace nb := below_setRow nb (Nat.le_refl _) (msgF hd0 bd0).toArray
  change Code.wp _ _ _ _ ((w3.alloc (Obj.cells (msgL hd0 zr).toArray 28)).setRow w3.heap.size (msgF hd0 bd0).toArray)
  generalize ((w3.alloc (Obj.cells (msgL hd0 zr).toArray 28)).setRow w3.heap.size (msgF hd0 bd0).toArray) = W4 at *
  generalize hgB3 : w3.heap.size = gB3 at *
  have nc : Below w3.heap.size w3 W4 := by rw [hgB3]; exact nb
  replace hb := bnext hb nc
  clear N nb nc
  obtain ⟨p3, c3, rfl, -, -, -⟩ := id o3.tlvs
  rw [show ([] : List T2).length = 0 from rfl]
  clear o3
  go_wp2_with (first | (guard_target =~ wpList _ _ _ (⟨some 28, _, _, _, _, _⟩ :: _) _ _; refine wpList_load_msg_g (op := ⟨some 28, .load _ _, _, _, _, _⟩) (by rfl) _ (by rfl) gB3 (by rfl) (msgF hd0 bd0) _ B3 (msgF_length _ _) ?_) | (guard_target =~ wpList _ _ _ (⟨some 29, _, _, _, _, _⟩ :: _) _ _; refine wpList_build_zero_g (op := ⟨some 29, .build _ _, _, _, _, _⟩) (by rfl) (by rfl) ?_))
  go_ret
  exact ⟨rfl, hb⟩
end Go.Proofs.Ytohgpnlihfcecaa
