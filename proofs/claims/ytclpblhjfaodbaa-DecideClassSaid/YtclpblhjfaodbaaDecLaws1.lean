/- carillonlaw13's awake, DecideTexts, DecideAlone, from contracts (gen_declaws.py). -/
import Derived.Test.YtclpblhjfaodbaaDecRow
import Derived.Test.YtclpblhjfaodbaaBuild
import Derived.Test.YtclpblhjfaodbaaPlace
namespace Go.Proofs.Ytclpblhjfaodbaa
open Go.RowKit Go.Proofs
set_option maxRecDepth 50000
set_option linter.unusedVariables false
set_option linter.unusedSimpArgs false

theorem str_eq (a b : ByteArray) (h : a.data.toList = b.data.toList) : a = b := by
  cases a; cases b
  simp only [ByteArray.mk.injEq]
  exact Array.ext' h

theorem cells_nones (N : Nat) : poK.cells (List.replicate N none) = List.replicate N (Value.pointer none) := by
  induction N with
  | zero => rfl
  | succ N ih =>
    rw [List.replicate_succ, List.replicate_succ, ← ih]
    rfl
theorem make_pos (N : Nat) (hN : N ≤ 1000) (x y : Int) (hx : x = N) (hy : y = N) (w' : World) :
    (Instr.makeSlice 34 (.int .i64 x) (.int .i64 y)).run Try.prog w' = .ok (.slice (some ⟨w'.heap.size, 0, none⟩) N N) (w'.alloc (.cells (poK.cells (List.replicate N none)).toArray 42)) := by
  subst hx hy
  obtain ⟨i0, hi, hz0, hz1, hz2⟩ := info_parts po_info
  have h := run_make (P := Try.prog) w' 34 42 i0 _ Try.underlying34 hi hz0 .i64 .i64 (N : Int) (N : Int) (by omega) (by omega) (by rw [hz2]; omega) (by omega)
  rw [h, hz1]
  have e2 : madeCells (Value.cells (.pointer none)) (N * poK.n) = (poK.cells (List.replicate N none)).toArray := by
    apply Array.ext'
    show (madeCells #[_] (N * 1)).toList = _
    rw [Nat.mul_one, toList_madeCells_one]
    exact (cells_nones N).symm
  rw [Int.toNat_natCast, e2]
theorem made_pos (N : Nat) (w' : World) (hN : N ≤ 1000) : poK.Reads (w'.alloc (.cells (poK.cells (List.replicate N none)).toArray 42)) (.slice (some ⟨w'.heap.size, 0, none⟩) N N) (List.replicate N none) := by
  have hB := Box.new w' (poK.cells (List.replicate N none)) 42
  refine ⟨_, N, by rw [List.length_replicate], by rw [List.length_replicate]; exact Nat.le_refl _, by unfold maxLen; omega, .inr ⟨w'.heap.size, 0, rfl, hB.lt, fun j v hj => ?_⟩⟩
  rw [Nat.zero_add]
  exact hB.cell j v hj
theorem made_pts (N : Nat) (w : World) : Pts w (List.replicate N none) (List.replicate N none) := ⟨by simp, fun i h h' => by
  rw [List.getElem_replicate, List.getElem_replicate]
  exact trivial⟩

def dA : Vc := { zeroV with qc := 248 }
set_option maxRecDepth 100000 in
set_option maxHeartbeats 8000000 in
theorem awake13_from (HA : CAll) (HT : CText) (w : World) :
    Calls Try.prog 10 #[] w fun e w' => e = .returned (.bool true) ∧ Below w.heap.size w w' := by
  have q1 := bnew w (Obj.cells #[.bool false] 4)
  have r1 : boK.Reads (w.alloc (Obj.cells #[.bool false] 4)) (.slice (some ⟨w.heap.size, 0, none⟩) 1 1) [false] := RowK.Reads.one boK w 4 false rfl
  have q2 := bnew (w.alloc (Obj.cells #[.bool false] 4)) (Obj.cells #[.pointer none] 42)
  have r2 : poK.Reads ((w.alloc (Obj.cells #[.bool false] 4)).alloc (Obj.cells #[.pointer none] 42)) (.slice (some ⟨(w.alloc (Obj.cells #[.bool false] 4)).heap.size, 0, none⟩) 1 1) [none] := RowK.Reads.one poK _ 42 none rfl
  have hsz : (w.alloc (Obj.cells #[.bool false] 4)).heap.size = w.heap.size + 1 := by simp
  replace r1 := r1.below q2
  have hb := bnext q1 q2
  rw [hsz] at r2
  clear q1 q2 hsz
  go_enter Try.func10, Try.ntmps10
  go_wp2_with (first | (guard_target =~ wpList _ _ _ (⟨some 5, _, _, _, _, _⟩ :: _) _ _; refine wpList_build_any (op := ⟨some 5, .build _ _, _, _, _, _⟩) (by rfl) _ _ (by rfl) _ (by rfl) (vcL dA).toArray (by kernel_rfl) ?_))
  refine (HA dA _ _ [false] [none] [none] _ (by decide) r1 r2 (made_pts 1 _) (by decide) (by simp)).mono ?_
  rintro e w1 ⟨x, rfl, hx, b1⟩
  clear r1 r2
  have hx' : Ints w1 x [2] := hx
  clear hx
  obtain ⟨p, cap, rfl, hcap, hmax, hat⟩ := hx'
  obtain ⟨b, off, rfl, hbl, hc⟩ := hat.pos (by decide)
  have hc0 : w1.cell? ⟨b, off, none⟩ = some (.int .i64 2) := hc 0 (by decide)
  have hB1 : bestO (([none] : List (Option Vc)).take 8) (([none] : List (Option Vc)).take 8).length = -1 := rfl
  have hT6 := fun w => HT 6 w
  have hT0 := fun w => HT 0 w
  rw [show textD 6 = ⟨#[83, 49]⟩ from rfl] at hT6
  rw [show textD 0 = ⟨#[]⟩ from rfl] at hT0
  rw [hB1]
  replace hb := bnext hb b1
  clear hc hat hB1 b1
  go_wp2_with fail
  refine (hT6 _).mono ?_
  rintro e w2 ⟨rfl, b2⟩
  replace hb := bnext hb b2
  clear hc0 b2
  go_wp2_with fail
  refine (hT0 _).mono ?_
  rintro e w3 ⟨rfl, b3⟩
  replace hb := bnext hb b3
  go_wp2_with fail
  go_ret
  exact ⟨rfl, hb⟩

def textL : List Value := [.string (textD 0), .string (textD 1), .string (textD 2), .string (textD 3), .string (textD 4), .string (textD 5), .string (textD 6), .string (textD 7)]
theorem textL_get (j : Nat) (h : j < 8) : textL[j]? = some (.string (textD (j : Int))) := by
  rcases j with _ | _ | _ | _ | _ | _ | _ | _ | j
  all_goals first | rfl | omega
theorem textD_low {d : Int} (h : d < 1) : textD d = ⟨#[]⟩ := by
  unfold textD
  rw [if_neg (by omega), if_neg (by omega), if_neg (by omega), if_neg (by omega), if_neg (by omega), if_neg (by omega), if_neg (by omega)]
theorem textD_high {d : Int} (h : 7 < d) : textD d = ⟨#[]⟩ := by
  unfold textD
  rw [if_neg (by omega), if_neg (by omega), if_neg (by omega), if_neg (by omega), if_neg (by omega), if_neg (by omega), if_neg (by omega)]
theorem textD_mid {d : Int} (h : 1 ≤ d) (h2 : d ≤ 7) : (textD d == ⟨#[]⟩) = false ∧ (textD d).toList.isEmpty = false := by
  obtain rfl | rfl | rfl | rfl | rfl | rfl | rfl : d = 1 ∨ d = 2 ∨ d = 3 ∨ d = 4 ∨ d = 5 ∨ d = 6 ∨ d = 7 := by omega
  all_goals exact ⟨by decide, by kernel_rfl⟩

set_option maxRecDepth 100000 in
set_option maxHeartbeats 8000000 in
theorem decideTexts_from (HA : CAll) (HT : CText) (d : Int) (w : World) :
    Calls Try.prog 6 #[.int .i64 d] w fun e w' => e = .returned (.bool true) ∧ Below w.heap.size w w' := by
  have hb := bnew w (Obj.cells textL.toArray 45)
  have hB := Box.new w textL 45
  go_enter Try.func6, Try.ntmps6
  go_upto_region 2 with fail
  change Code.wp Try.prog _ _ _ (w.alloc (Obj.cells textL.toArray 45))
  generalize w.alloc (Obj.cells textL.toArray 45) = W at *
  generalize hG : w.heap.size = G at *
  go_wp2_with fail
  go_loopw [4] (fun iv wr => ∃ j : Nat, j ≤ 8 ∧ iv = .int .i64 (j : Int) ∧ Box wr G textL 45 ∧ Below G w wr) (fun iv _ => 8 - (intOf iv).toNat)
  case atStart => exact ⟨0, Nat.zero_le _, rfl, hB, hb⟩
  case round =>
    obtain ⟨j, hj, rfl, hB, hb⟩ := hrel
    rw [← hG] at hb
    by_cases hlt : j < 8
    · have hjI : (j : Int) < 8 := by omega
      have hj0 : (0 : Int) ≤ (j : Int) := by omega
      go_upto_region 5 with fail
      refine wp_region_held_drew (S := fun w' => Below wr.drew.heap.size wr.drew w') (by kernel_rfl) (Below.refl _ _) ?_
      intro hHeld
      have hbd := Below.drew (Below.refl wr.heap.size wr)
      replace hb := bnext hb hbd
      replace hB := hB.below hbd
      clear hbd
      generalize wr.drew = wd at *
      have pB := fun wx h => ((hB.below (w' := wx) h).cell j _ (textL_get j hlt))
      refine rtake 0 rfl (by rfl) (by kernel_rfl) (by kernel_rfl) (by kernel_rfl) (fun _ _ _ h => h) hHeld (fun wx hwx => by go_simp; try with_reducible rfl) ?_
      try simp only [Act.put, List.setIfInBounds_toArray, List.set_cons_zero, List.set_cons_succ]
      refine rtake 2 rfl (by rfl) (by kernel_rfl) (by kernel_rfl) (by kernel_rfl) (fun _ _ _ h => h) hHeld (fun wx hwx => by go_simp; try with_reducible rfl) ?_
      try simp only [Act.put, List.setIfInBounds_toArray, List.set_cons_zero, List.set_cons_succ]
      refine rtake 3 rfl (by rfl) (by kernel_rfl) (by kernel_rfl) (by kernel_rfl) (fun _ _ _ h => h) hHeld (fun wx hwx => by go_simp; try with_reducible rfl) ?_
      try simp only [Act.put, List.setIfInBounds_toArray, List.set_cons_zero, List.set_cons_succ]
      refine rtake 4 rfl (by rfl) (by kernel_rfl) (by kernel_rfl) (by kernel_rfl) (fun _ _ _ h => h) hHeld (fun wx hwx => by go_simp; try with_reducible rfl) ?_
      try simp only [Act.put, List.setIfInBounds_toArray, List.set_cons_zero, List.set_cons_succ]
      refine rcall 1 rfl (by kernel_rfl) (by rfl) (fun K' hK => ?_)
      go_simp
      refine (HT _ _).mono ?_
      rintro e wq ⟨rfl, bq⟩
      refine hK.out _ _ bq ?_
      clear hK K'
      refine wpAnyH_mono (S' := fun w' => Below wq.heap.size wq w') (fun w' h => bnext bq h) _ _ _ _ ?_
      replace hb := bnext hb bq
      replace hB := hB.below bq
      clear hHeld bq
      have hHeld := Below.refl wq.heap.size wq
      try simp only [Act.put, List.setIfInBounds_toArray, List.set_cons_zero, List.set_cons_succ]
      generalize textD (j : Int) = tj at *
      refine rtake 5 rfl (by rfl) (by kernel_rfl) (by kernel_rfl) (by kernel_rfl) (fun _ _ _ h => h) hHeld (fun wx hwx => by go_simp; try with_reducible rfl) ?_
      try simp only [Act.put, List.setIfInBounds_toArray, List.set_cons_zero, List.set_cons_succ]
      refine wpAnyH_done (by kernel_rfl) ?_ _
      clear hHeld
      clear pB
      go_wp2_with fail
      go_roundw
      case rel => exact ⟨j + 1, by omega, by go_num, hB, hG ▸ hb⟩
      case measure => (simp [intOf] <;> omega)
    · obtain rfl : j = 8 := by omega
      clear hj hlt
      by_cases h1 : d < 1
      · have ht := textD_low h1
        go_wp2_with fail
        refine (HT _ _).mono ?_
        rintro e w1 ⟨rfl, b1⟩
        rw [ht]
        replace hb := bnext hb b1
        go_wp2_with fail
        refine (awake13_from HA HT _).mono ?_
        rintro e w2 ⟨rfl, b2⟩
        go_wp2_with fail
        go_ret
        exact ⟨rfl, bnext hb b2⟩
      · by_cases h7 : 7 < d
        · have ht := textD_high h7
          go_wp2_with fail
          refine (HT _ _).mono ?_
          rintro e w1 ⟨rfl, b1⟩
          rw [ht]
          replace hb := bnext hb b1
          go_wp2_with fail
          refine (awake13_from HA HT _).mono ?_
          rintro e w2 ⟨rfl, b2⟩
          go_wp2_with fail
          go_ret
          exact ⟨rfl, bnext hb b2⟩
        · have ht := textD_mid (d := d) (by omega) (by omega)
          go_wp2_with fail
          refine (HT _ _).mono ?_
          rintro e w1 ⟨rfl, b1⟩
          obtain ⟨t1, t2⟩ := ht
          have d1 : decide (d < 1) = false := decide_eq_false (by omega)
          have d7 : decide (7 < d) = false := decide_eq_false (by omega)
          generalize textD d = T at *
          replace hb := bnext hb b1
          go_wp2_with fail
          refine (awake13_from HA HT _).mono ?_
          rintro e w2 ⟨rfl, b2⟩
          go_wp2_with fail
          go_ret
          exact ⟨rfl, bnext hb b2⟩
end Go.Proofs.Ytclpblhjfaodbaa
