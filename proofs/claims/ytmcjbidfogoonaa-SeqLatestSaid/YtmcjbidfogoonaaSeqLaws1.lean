/- carillonlaw16's awake, SeqOrder, SeqApart, from contracts (gen_seqlaws.py). -/
import Derived.Test.YtmcjbidfogoonaaSeq
import Derived.Test.YtmcjbidfogoonaaBuild
import Derived.Test.YtmcjbidfogoonaaPlace
namespace Go.Proofs.Ytmcjbidfogoonaa
open Go.RowKit Go.Proofs
set_option maxRecDepth 50000
set_option linter.unusedVariables false
set_option linter.unusedSimpArgs false

set_option maxRecDepth 100000 in
set_option maxHeartbeats 8000000 in
theorem awake16_from {R : List Value → Ms → Prop} (HNew : CNewS R) (HS : CSync R) (HF : CFoll R) (HN : CNext) (HW : CNewer) (w : World) :
    Calls Try.prog 20 #[] w fun e w' => e = .returned (.bool true) ∧ Below w.heap.size w w' := by
  go_enter Try.func20, Try.ntmps20
  go_wp2_with fail
  refine (HNew w).mono ?_
  rintro e w1 ⟨ga, rfl, hg, h9, bq⟩
  have l_hA : w.heap.size ≤ ga := hg
  have hb := bq
  clear bq
  have hA := h9
  clear h9 hg
  obtain ⟨x1, hx1⟩ : ∃ x1 : Hd × Bd, x1 = ((⟨0, 0, 512, 0, 0, 0, 4, 0⟩, bd0) : Hd × Bd) := ⟨_, rfl⟩
  obtain ⟨x2, hx2⟩ : ∃ x2 : Hd × Bd, x2 = ((⟨8, 0, 0, 0, 0, 0, 4, 0⟩, { bd0 with st := 40 }) : Hd × Bd) := ⟨_, rfl⟩
  have ok1 : HdOk x1.1 := by rw [hx1]; unfold HdOk; decide
  have ok2 : HdOk x2.1 := by rw [hx2]; unfold HdOk; decide
  have a1 : syncB noneS x1 = false := by rw [hx1]; decide
  have a2 : syncS noneS x1 100 = ⟨some (x1, 100), none⟩ := by rw [hx1]; rfl
  have a3 : follD ⟨some (x1, 100), none⟩ x2 = 60 := by rw [hx1, hx2]; show diffS 100 40 (addI 0 0) = 60; unfold diffS addI wrap64; decide
  have a4 : follB ⟨some (x1, 100), none⟩ x2 = true := by rw [hx1, hx2]; decide
  replace hx1 := hid hx1
  replace hx2 := hid hx2
  go_wp2_with (guard_target =~ wpList _ _ _ (⟨some 11, _, _, _, _, _⟩ :: _) _ _; refine wpList_build_any (op := ⟨some 11, .build _ _, _, _, _, _⟩) (by rfl) _ _ (by rfl) _ (by rfl) (msK.enc x1).toArray (by rw [hx1.out]; kernel_rfl) ?_)
  refine (HS ga noneS x1 100 w1 hA ok1).mono ?_
  rintro e w2 ⟨rfl, h9, oq⟩
  replace hb := Only.below hb oq l_hA hb.size
  replace hA := h9
  clear h9 oq
  rw [a1]
  rw [a2] at hA
  go_wp2_with (guard_target =~ wpList _ _ _ (⟨some 17, _, _, _, _, _⟩ :: _) _ _; refine wpList_build_any (op := ⟨some 17, .build _ _, _, _, _, _⟩) (by rfl) _ _ (by rfl) _ (by rfl) (msK.enc x2).toArray (by rw [hx2.out]; kernel_rfl) ?_)
  refine (HF ga ⟨some (x1, 100), none⟩ x2 w2 hA ok2).mono ?_
  rintro e w3 ⟨rfl, h9, oq⟩
  replace hb := Only.below hb oq l_hA hb.size
  replace hA := h9
  clear h9 oq
  rw [a3, a4]
  go_wp2_with fail
  refine (HN 65535 w3 (by decide)).mono ?_
  rintro e w4 ⟨rfl, bq⟩
  replace hA := hA.below bq
  replace hb := bnext hb bq
  clear bq
  rw [show nextI 65535 = 0 by decide]
  go_wp2_with fail
  refine (HW 0 65535 w4 (by decide) (by decide)).mono ?_
  rintro e w5 ⟨rfl, bq⟩
  replace hA := hA.below bq
  replace hb := bnext hb bq
  clear bq
  rw [show newerB 0 65535 = true by decide]
  go_wp2_with fail
  go_ret
  exact ⟨rfl, hb⟩

set_option maxRecDepth 100000 in
set_option maxHeartbeats 8000000 in
theorem seqOrder_from {R : List Value → Ms → Prop} (HNew : CNewS R) (HS : CSync R) (HF : CFoll R) (HN : CNext) (HW : CNewer) (a b : Int) (w : World) :
    Calls Try.prog 6 #[.int .i64 a, .int .i64 b] w fun e w' => e = .returned (.bool true) ∧ Below w.heap.size w w' := by
  go_enter Try.func6, Try.ntmps6
  go_wp2_with fail
  refine (place_in a 65536 _ (by decide) (by decide)).mono ?_
  rintro e w0 ⟨k, rfl, hk0, hk1, -, rfl⟩
  go_wp2_with fail
  refine (place_in b 65536 _ (by decide) (by decide)).mono ?_
  rintro e w0 ⟨l, rfl, hl0, hl1, -, rfl⟩
  go_wp2_with fail
  refine (HN k w (by omega)).mono ?_
  rintro e w1 ⟨rfl, hb⟩
  obtain ⟨n, hn⟩ : ∃ n, nextI k = n := ⟨_, rfl⟩
  have hn0 := nextI_in k
  rw [hn] at hn0 ⊢
  have e1 : newerB n k = true := by rw [← hn]; unfold newerB nextI; rw [decide_eq_true_iff]; omega
  have e2 : newerB k n = false := by rw [← hn]; unfold newerB nextI; rw [decide_eq_false_iff_not]; omega
  have e3 : newerB k k = false := by unfold newerB; rw [decide_eq_false_iff_not]; omega
  obtain ⟨hn1, hn2⟩ := hn0
  clear hn
  go_wp2_with fail
  refine (HW n k _ (by omega) (by omega)).mono ?_
  rintro e w2 ⟨rfl, b2⟩
  replace hb := bnext hb b2
  rw [e1]
  go_wp2_with fail
  refine (HW k n _ (by omega) (by omega)).mono ?_
  rintro e w3 ⟨rfl, b3⟩
  replace hb := bnext hb b3
  rw [e2]
  go_wp2_with fail
  refine (HW k k _ (by omega) (by omega)).mono ?_
  rintro e w4 ⟨rfl, b4⟩
  replace hb := bnext hb b4
  rw [e3]
  clear b2 b3 b4 e1 e2 e3
  by_cases hkl : k = l
  · subst hkl
    have e3 : newerB k k = false := by unfold newerB; rw [decide_eq_false_iff_not]; omega
    go_wp2_with fail
    refine (HW k k _ (by omega) (by omega)).mono ?_
    rintro e w5 ⟨rfl, b5⟩
    replace hb := bnext hb b5
    rw [e3]
    go_wp2_with fail
    refine (HW k k _ (by omega) (by omega)).mono ?_
    rintro e w6 ⟨rfl, b6⟩
    replace hb := bnext hb b6
    rw [e3]
    go_wp2_with fail
    refine (awake16_from HNew HS HF HN HW _).mono ?_
    rintro e wz ⟨rfl, bz⟩
    go_wp2_with fail
    go_ret
    exact ⟨rfl, bnext hb bz⟩
  · have hkB : (k == l) = false := beq_false_of_ne hkl
    have hwr : wrap64 (k - l) = k - l := by unfold wrap64; omega
    go_wp2_with fail
    refine (place_any (k - l) 65536 _ (by decide) (by decide)).mono ?_
    rintro e w0 ⟨rfl, rfl⟩
    by_cases hh : (k - l) % 65536 = 32768
    · have e4 : newerB k l = false := by unfold newerB; rw [decide_eq_false_iff_not]; omega
      have e5 : newerB l k = false := by unfold newerB; rw [decide_eq_false_iff_not]; omega
      rw [hh]
      go_wp2_with fail
      refine (HW k l _ (by omega) (by omega)).mono ?_
      rintro e w5 ⟨rfl, b5⟩
      replace hb := bnext hb b5
      rw [e4]
      go_wp2_with fail
      refine (HW l k _ (by omega) (by omega)).mono ?_
      rintro e w6 ⟨rfl, b6⟩
      replace hb := bnext hb b6
      rw [e5]
      go_wp2_with fail
      refine (awake16_from HNew HS HF HN HW _).mono ?_
      rintro e wz ⟨rfl, bz⟩
      go_wp2_with fail
      go_ret
      exact ⟨rfl, bnext hb bz⟩
    · have hhB : ((k - l) % 65536 == 32768) = false := beq_false_of_ne hh
      have e6 : newerB l k = !newerB k l := by
        unfold newerB
        by_cases h : 1 ≤ (k - l) % 65536 ∧ (k - l) % 65536 ≤ 32767
        · rw [decide_eq_true h, decide_eq_false (by omega)]; rfl
        · rw [decide_eq_false h, decide_eq_true (by omega)]; rfl
      go_wp2_with fail
      refine (HW k l _ (by omega) (by omega)).mono ?_
      rintro e w5 ⟨rfl, b5⟩
      replace hb := bnext hb b5
      go_wp2_with fail
      refine (HW l k _ (by omega) (by omega)).mono ?_
      rintro e w6 ⟨rfl, b6⟩
      replace hb := bnext hb b6
      rw [e6]
      clear e6
      generalize newerB k l = B at *
      cases B
      all_goals
        (go_wp2_with fail
         refine (awake16_from HNew HS HF HN HW _).mono ?_
         rintro e wz ⟨rfl, bz⟩
         go_wp2_with fail
         go_ret
         exact ⟨rfl, bnext hb bz⟩)

end Go.Proofs.Ytmcjbidfogoonaa
