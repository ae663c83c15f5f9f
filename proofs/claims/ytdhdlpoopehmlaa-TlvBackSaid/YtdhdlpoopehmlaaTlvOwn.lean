/- The program's own answers of chapter 8: Check, Known (gen_tlvown.py). -/
import Derived.Test.YtdhdlpoopehmlaaTlvRef2
namespace Go.Proofs.Ytdhdlpoopehmlaa
open Go.RowKit Go.Proofs
set_option linter.unusedVariables false
set_option linter.unusedSimpArgs false

/-- Whether a number stands whole in two bytes. -/
def fitB (v : Int) : Bool := decide (0 ≤ v) && decide (v ≤ 65535)

theorem tdiv8 (n : Nat) : (n : Int).tdiv 8 = ((n / 8 : Nat) : Int) := by
  rw [Int.tdiv_eq_ediv_of_nonneg (by omega)]; omega

set_option maxHeartbeats 400000 in
theorem tfits_any (v : Int) (w : World) : Calls Try.prog 43 #[.int .i64 v] w fun e w' => e = .returned (.bool (fitB v)) ∧ w = w' := by
  by_cases h : 0 ≤ v
  · have e : fitB v = decide (v ≤ 65535) := by unfold fitB; rw [decide_eq_true h, Bool.true_and]
    rw [e]
    go_enter Try.func43, Try.ntmps43
    go_wp2_with fail
    go_ret
    exact ⟨rfl, rfl⟩
  · have e : fitB v = false := by unfold fitB; rw [decide_eq_false h, Bool.false_and]
    rw [e]
    go_enter Try.func43, Try.ntmps43
    go_wp2_with fail
    go_ret
    exact ⟨rfl, rfl⟩

set_option maxHeartbeats 800000 in
theorem checkT_any (c : Int) (s : List UInt8) (w : World) (hs : s.length ≤ 9223372036854775807) :
    Calls Try.prog 15 #[tlvV (c, s)] w fun e w' => e = .returned (.bool (checkT (c, s))) ∧ Below w.heap.size w w' := by
  have HC : Hid (checkT (c, s) = (fitB c && (decide (s.length % 2 = 0) && decide (s.length ≤ 400)))) := hid (by unfold checkT fitB; rw [Bool.and_assoc])
  generalize checkT (c, s) = F at *
  have he := even_tmod s.length
  have hF := tfits_any c
  cases hc : fitB c with
  | true =>
    rw [hc] at HC hF
    by_cases h2 : s.length % 2 = 0
    · rw [h2] at he
      have h2I : ((s.length : Int) % 2 == 0) = true := by rw [beq_iff_eq]; omega
      go_enter Try.func15, Try.ntmps15
      go_wp2_with fail
      refine (hF _).mono ?_
      rintro e w' ⟨rfl, rfl⟩
      clear hF
      go_wp2_with fail
      go_ret
      exact ⟨ret_bool (by rw [HC.out, decide_eq_true h2, Bool.true_and, Bool.true_and, Bool.eq_iff_iff]; simp; try omega), bnew _ _⟩
    · have h2' : s.length % 2 = 1 := by omega
      rw [h2'] at he
      have h2I : ((s.length : Int) % 2 == 0) = false := by rw [beq_eq_false_iff_ne]; omega
      go_enter Try.func15, Try.ntmps15
      go_wp2_with fail
      refine (hF _).mono ?_
      rintro e w' ⟨rfl, rfl⟩
      clear hF
      go_wp2_with fail
      go_ret
      exact ⟨by rw [HC.out, decide_eq_false h2, Bool.false_and, Bool.and_false]; rfl, bnew _ _⟩
  | false =>
    rw [hc] at HC hF
    go_enter Try.func15, Try.ntmps15
    go_wp2_with fail
    refine (hF _).mono ?_
    rintro e w' ⟨rfl, rfl⟩
    clear hF
    go_wp2_with fail
    go_ret
    exact ⟨by rw [HC.out, Bool.false_and]; rfl, bnew _ _⟩

set_option maxHeartbeats 4000000 in
theorem knownT_any (c : Int) (s : List UInt8) (w : World) (hs : s.length ≤ 9223372036854775807) :
    Calls Try.prog 17 #[tlvV (c, s)] w fun e w' => e = .returned (.bool (knownT (c, s))) ∧ Below w.heap.size w w' := by
  have h8 := tmod8 s.length
  have h9 := tdiv8 s.length
  by_cases c1 : c = 1
  · subst c1
    rw [show knownT (1, s) = decide (2 ≤ s.length) from rfl]
    go_enter Try.func17, Try.ntmps17
    go_wp2_with fail
    go_ret
    exact ⟨ret_bool (by first | rfl | (rw [Bool.eq_iff_iff]; simp; done) | (rw [Bool.eq_iff_iff]; simp; omega)), bnew _ _⟩
  · skip
    by_cases c2 : c = 2
    · subst c2
      rw [show knownT (2, s) = decide (8 ≤ s.length) from rfl]
      go_enter Try.func17, Try.ntmps17
      go_wp2_with fail
      go_ret
      exact ⟨ret_bool (by first | rfl | (rw [Bool.eq_iff_iff]; simp; done) | (rw [Bool.eq_iff_iff]; simp; omega)), bnew _ _⟩
    · skip
      by_cases c3 : c = 3
      · subst c3
        rw [show knownT (3, s) = decide (6 ≤ s.length) from rfl]
        go_enter Try.func17, Try.ntmps17
        go_wp2_with fail
        go_ret
        exact ⟨ret_bool (by first | rfl | (rw [Bool.eq_iff_iff]; simp; done) | (rw [Bool.eq_iff_iff]; simp; omega)), bnew _ _⟩
      · skip
        by_cases c4 : c = 4
        · subst c4
          rw [show knownT (4, s) = decide (s.length = 6) from rfl]
          by_cases h2 : s.length = 6
          · have hI : ((s.length : Int) == 6) = true := by rw [beq_iff_eq]; omega
            go_enter Try.func17, Try.ntmps17
            go_wp2_with fail
            go_ret
            exact ⟨ret_bool (by first | rfl | (rw [Bool.eq_iff_iff]; simp; done) | (rw [Bool.eq_iff_iff]; simp; omega)), bnew _ _⟩
          · have hI : ((s.length : Int) == 6) = false := by rw [beq_eq_false_iff_ne]; omega
            go_enter Try.func17, Try.ntmps17
            go_wp2_with fail
            go_ret
            exact ⟨ret_bool (by first | rfl | (rw [Bool.eq_iff_iff]; simp; done) | (rw [Bool.eq_iff_iff]; simp; omega)), bnew _ _⟩
        · skip
          by_cases c5 : c = 5
          · subst c5
            rw [show knownT (5, s) = decide (s.length = 8) from rfl]
            by_cases h2 : s.length = 8
            · have hI : ((s.length : Int) == 8) = true := by rw [beq_iff_eq]; omega
              go_enter Try.func17, Try.ntmps17
              go_wp2_with fail
              go_ret
              exact ⟨ret_bool (by first | rfl | (rw [Bool.eq_iff_iff]; simp; done) | (rw [Bool.eq_iff_iff]; simp; omega)), bnew _ _⟩
            · have hI : ((s.length : Int) == 8) = false := by rw [beq_eq_false_iff_ne]; omega
              go_enter Try.func17, Try.ntmps17
              go_wp2_with fail
              go_ret
              exact ⟨ret_bool (by first | rfl | (rw [Bool.eq_iff_iff]; simp; done) | (rw [Bool.eq_iff_iff]; simp; omega)), bnew _ _⟩
          · skip
            by_cases c6 : c = 6
            · subst c6
              rw [show knownT (6, s) = decide (s.length = 2) from rfl]
              by_cases h2 : s.length = 2
              · have hI : ((s.length : Int) == 2) = true := by rw [beq_iff_eq]; omega
                go_enter Try.func17, Try.ntmps17
                go_wp2_with fail
                go_ret
                exact ⟨ret_bool (by first | rfl | (rw [Bool.eq_iff_iff]; simp; done) | (rw [Bool.eq_iff_iff]; simp; omega)), bnew _ _⟩
              · have hI : ((s.length : Int) == 2) = false := by rw [beq_eq_false_iff_ne]; omega
                go_enter Try.func17, Try.ntmps17
                go_wp2_with fail
                go_ret
                exact ⟨ret_bool (by first | rfl | (rw [Bool.eq_iff_iff]; simp; done) | (rw [Bool.eq_iff_iff]; simp; omega)), bnew _ _⟩
            · skip
              by_cases c7 : c = 7
              · subst c7
                rw [show knownT (7, s) = decide (s.length = 2) from rfl]
                by_cases h2 : s.length = 2
                · have hI : ((s.length : Int) == 2) = true := by rw [beq_iff_eq]; omega
                  go_enter Try.func17, Try.ntmps17
                  go_wp2_with fail
                  go_ret
                  exact ⟨ret_bool (by first | rfl | (rw [Bool.eq_iff_iff]; simp; done) | (rw [Bool.eq_iff_iff]; simp; omega)), bnew _ _⟩
                · have hI : ((s.length : Int) == 2) = false := by rw [beq_eq_false_iff_ne]; omega
                  go_enter Try.func17, Try.ntmps17
                  go_wp2_with fail
                  go_ret
                  exact ⟨ret_bool (by first | rfl | (rw [Bool.eq_iff_iff]; simp; done) | (rw [Bool.eq_iff_iff]; simp; omega)), bnew _ _⟩
              · skip
                by_cases c8 : c = 8
                · subst c8
                  rw [show knownT (8, s) = decide (s.length % 8 = 0 ∧ s.length ≤ 128) from rfl]
                  by_cases h2 : s.length % 8 = 0
                  · rw [h2] at h8
                    go_enter Try.func17, Try.ntmps17
                    go_wp2_with fail
                    go_ret
                    exact ⟨ret_bool (by first | rfl | (rw [Bool.eq_iff_iff]; simp; done) | (rw [Bool.eq_iff_iff]; simp; omega)), bnew _ _⟩
                  · have hI : (((s.length % 8 : Nat) : Int) == 0) = false := by rw [beq_eq_false_iff_ne]; omega
                    go_enter Try.func17, Try.ntmps17
                    go_wp2_with fail
                    go_ret
                    exact ⟨ret_bool (by first | rfl | (rw [Bool.eq_iff_iff]; simp; done) | (rw [Bool.eq_iff_iff]; simp; omega)), bnew _ _⟩
                · skip
                  by_cases c9 : c = 9
                  · subst c9
                    rw [show knownT (9, s) = decide (16 ≤ s.length) from rfl]
                    go_enter Try.func17, Try.ntmps17
                    go_wp2_with fail
                    go_ret
                    exact ⟨ret_bool (by first | rfl | (rw [Bool.eq_iff_iff]; simp; done) | (rw [Bool.eq_iff_iff]; simp; omega)), bnew _ _⟩
                  · skip
                    by_cases c32776 : c = 32776
                    · subst c32776
                      rw [show knownT (32776, s) = true from rfl]
                      go_enter Try.func17, Try.ntmps17
                      go_wp2_with fail
                      go_ret
                      exact ⟨ret_bool (by first | rfl | (rw [Bool.eq_iff_iff]; simp; done) | (rw [Bool.eq_iff_iff]; simp; omega)), bnew _ _⟩
                    · skip
                      have hk : knownT (c, s) = false := by
                        unfold knownT
                        simp only [c1, c2, c3, c4, c5, c6, c7, c8, c9, c32776, or_self, if_false, decide_false]
                      rw [hk]
                      have d1 : (c == 1) = false := beq_false_of_ne c1
                      have d2 : (c == 2) = false := beq_false_of_ne c2
                      have d3 : (c == 3) = false := beq_false_of_ne c3
                      have d4 : (c == 4) = false := beq_false_of_ne c4
                      have d5 : (c == 5) = false := beq_false_of_ne c5
                      have d6 : (c == 6) = false := beq_false_of_ne c6
                      have d7 : (c == 7) = false := beq_false_of_ne c7
                      have d8 : (c == 8) = false := beq_false_of_ne c8
                      have d9 : (c == 9) = false := beq_false_of_ne c9
                      have d32776 : (c == 32776) = false := beq_false_of_ne c32776
                      go_enter Try.func17, Try.ntmps17
                      go_wp2_with fail
                      go_ret
                      exact ⟨rfl, bnew _ _⟩

set_option maxHeartbeats 800000 in
theorem knownAs_any (c t : Int) (s : List UInt8) (w : World) (hs : s.length ≤ 9223372036854775807) :
    Calls Try.prog 49 #[tlvV (c, s), .int .i64 t] w fun e w' => e = .returned (.bool (decide (c = t) && knownT (c, s))) ∧ Below w.heap.size w w' := by
  obtain ⟨W, hW, hbW, HX, HY⟩ := box_tlv w (c, s)
  have c0 := HX.out _ (Below.refl _ _)
  have c1 := HY.out _ (Below.refl _ _)
  by_cases h : c = t
  · subst h
    rw [decide_eq_true rfl, Bool.true_and]
    go_enter Try.func49, Try.ntmps49
    go_upto_region 1 with fail
    rw [← hW]
    clear hW
    go_wp2_with fail
    refine (knownT_any c s W hs).mono ?_
    rintro e w1 ⟨rfl, hb1⟩
    go_wp2_with fail
    go_ret
    exact ⟨rfl, bnext hbW hb1⟩
  · rw [decide_eq_false h, Bool.false_and]
    have hI : (c == t) = false := beq_false_of_ne h
    go_enter Try.func49, Try.ntmps49
    go_upto_region 1 with fail
    rw [← hW]
    clear hW
    go_wp2_with fail
    go_ret
    exact ⟨rfl, hbW⟩
end Go.Proofs.Ytdhdlpoopehmlaa
