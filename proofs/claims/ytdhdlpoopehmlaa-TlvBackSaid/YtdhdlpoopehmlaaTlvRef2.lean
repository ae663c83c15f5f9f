/- The document's own answers of chapter 8: Known, Find. -/
import Derived.Test.YtdhdlpoopehmlaaTlvRef
namespace Go.Proofs.Ytdhdlpoopehmlaa
open Go.RowKit Go.Proofs
set_option linter.unusedVariables false
set_option linter.unusedSimpArgs false

/-- Whether a TLV is as api's of its type. -/
def knownT (q : T2) : Bool :=
  if q.1 = 1 then decide (2 ≤ q.2.length) else if q.1 = 6 ∨ q.1 = 7 then decide (q.2.length = 2) else if q.1 = 2 then decide (8 ≤ q.2.length) else if q.1 = 3 then decide (6 ≤ q.2.length)
  else if q.1 = 4 then decide (q.2.length = 6) else if q.1 = 5 then decide (q.2.length = 8) else if q.1 = 8 then decide (q.2.length % 8 = 0 ∧ q.2.length ≤ 128)
  else if q.1 = 9 then decide (16 ≤ q.2.length) else decide (q.1 = 32776)

theorem tmod8 (n : Nat) : (n : Int).tmod 8 = ((n % 8 : Nat) : Int) := by
  rw [Int.tmod_eq_emod_of_nonneg (by omega)]; omega

set_option maxHeartbeats 4000000 in
theorem refKnownT_any (c : Int) (s : List UInt8) (w : World) (hs : s.length ≤ 9223372036854775807) :
    Calls Try.prog 18 #[tlvV (c, s)] w fun e w' => e = .returned (.bool (knownT (c, s))) ∧ Below w.heap.size w w' := by
  have h8 := tmod8 s.length
  by_cases c1 : c = 1
  · subst c1
    rw [show knownT (1, s) = decide (2 ≤ s.length) from rfl]
    by_cases h2 : s.length = 2
    · have hI : ((s.length : Int) == 2) = true := by rw [beq_iff_eq]; omega
      go_enter Try.func18, Try.ntmps18
      go_wp2_with fail
      go_ret
      exact ⟨ret_bool (by first | (rw [Bool.eq_iff_iff]; done) | (rw [Bool.eq_iff_iff]; simp; done) | (rw [Bool.eq_iff_iff]; simp; omega)), bnew _ _⟩
    · by_cases h3 : 2 < s.length
      · skip
        have hI : ((s.length : Int) == 2) = false := by rw [beq_eq_false_iff_ne]; omega
        go_enter Try.func18, Try.ntmps18
        go_wp2_with fail
        go_ret
        exact ⟨ret_bool (by first | (rw [Bool.eq_iff_iff]; done) | (rw [Bool.eq_iff_iff]; simp; done) | (rw [Bool.eq_iff_iff]; simp; omega)), bnew _ _⟩
      · skip
        have hI : ((s.length : Int) == 2) = false := by rw [beq_eq_false_iff_ne]; omega
        go_enter Try.func18, Try.ntmps18
        go_wp2_with fail
        go_ret
        exact ⟨ret_bool (by first | (rw [Bool.eq_iff_iff]; done) | (rw [Bool.eq_iff_iff]; simp; done) | (rw [Bool.eq_iff_iff]; simp; omega)), bnew _ _⟩
  · skip
    by_cases c6 : c = 6
    · subst c6
      rw [show knownT (6, s) = decide (s.length = 2) from rfl]
      by_cases h2 : s.length = 2
      · have hI : ((s.length : Int) == 2) = true := by rw [beq_iff_eq]; omega
        go_enter Try.func18, Try.ntmps18
        go_wp2_with fail
        go_ret
        exact ⟨ret_bool (by first | (rw [Bool.eq_iff_iff]; done) | (rw [Bool.eq_iff_iff]; simp; done) | (rw [Bool.eq_iff_iff]; simp; omega)), bnew _ _⟩
      · by_cases h3 : 2 < s.length
        · skip
          have hI : ((s.length : Int) == 2) = false := by rw [beq_eq_false_iff_ne]; omega
          go_enter Try.func18, Try.ntmps18
          go_wp2_with fail
          go_ret
          exact ⟨ret_bool (by first | (rw [Bool.eq_iff_iff]; done) | (rw [Bool.eq_iff_iff]; simp; done) | (rw [Bool.eq_iff_iff]; simp; omega)), bnew _ _⟩
        · skip
          have hI : ((s.length : Int) == 2) = false := by rw [beq_eq_false_iff_ne]; omega
          go_enter Try.func18, Try.ntmps18
          go_wp2_with fail
          go_ret
          exact ⟨ret_bool (by first | (rw [Bool.eq_iff_iff]; done) | (rw [Bool.eq_iff_iff]; simp; done) | (rw [Bool.eq_iff_iff]; simp; omega)), bnew _ _⟩
    · skip
      by_cases c7 : c = 7
      · subst c7
        rw [show knownT (7, s) = decide (s.length = 2) from rfl]
        by_cases h2 : s.length = 2
        · have hI : ((s.length : Int) == 2) = true := by rw [beq_iff_eq]; omega
          go_enter Try.func18, Try.ntmps18
          go_wp2_with fail
          go_ret
          exact ⟨ret_bool (by first | (rw [Bool.eq_iff_iff]; done) | (rw [Bool.eq_iff_iff]; simp; done) | (rw [Bool.eq_iff_iff]; simp; omega)), bnew _ _⟩
        · by_cases h3 : 2 < s.length
          · skip
            have hI : ((s.length : Int) == 2) = false := by rw [beq_eq_false_iff_ne]; omega
            go_enter Try.func18, Try.ntmps18
            go_wp2_with fail
            go_ret
            exact ⟨ret_bool (by first | (rw [Bool.eq_iff_iff]; done) | (rw [Bool.eq_iff_iff]; simp; done) | (rw [Bool.eq_iff_iff]; simp; omega)), bnew _ _⟩
          · skip
            have hI : ((s.length : Int) == 2) = false := by rw [beq_eq_false_iff_ne]; omega
            go_enter Try.func18, Try.ntmps18
            go_wp2_with fail
            go_ret
            exact ⟨ret_bool (by first | (rw [Bool.eq_iff_iff]; done) | (rw [Bool.eq_iff_iff]; simp; done) | (rw [Bool.eq_iff_iff]; simp; omega)), bnew _ _⟩
      · skip
        by_cases c2 : c = 2
        · subst c2
          rw [show knownT (2, s) = decide (8 ≤ s.length) from rfl]
          by_cases h2 : 8 ≤ s.length
          · skip
            go_enter Try.func18, Try.ntmps18
            go_wp2_with fail
            go_ret
            exact ⟨ret_bool (by first | (rw [Bool.eq_iff_iff]; done) | (rw [Bool.eq_iff_iff]; simp; done) | (rw [Bool.eq_iff_iff]; simp; omega)), bnew _ _⟩
          · skip
            go_enter Try.func18, Try.ntmps18
            go_wp2_with fail
            go_ret
            exact ⟨ret_bool (by first | (rw [Bool.eq_iff_iff]; done) | (rw [Bool.eq_iff_iff]; simp; done) | (rw [Bool.eq_iff_iff]; simp; omega)), bnew _ _⟩
        · skip
          by_cases c3 : c = 3
          · subst c3
            rw [show knownT (3, s) = decide (6 ≤ s.length) from rfl]
            by_cases h2 : 6 ≤ s.length
            · skip
              go_enter Try.func18, Try.ntmps18
              go_wp2_with fail
              go_ret
              exact ⟨ret_bool (by first | (rw [Bool.eq_iff_iff]; done) | (rw [Bool.eq_iff_iff]; simp; done) | (rw [Bool.eq_iff_iff]; simp; omega)), bnew _ _⟩
            · skip
              go_enter Try.func18, Try.ntmps18
              go_wp2_with fail
              go_ret
              exact ⟨ret_bool (by first | (rw [Bool.eq_iff_iff]; done) | (rw [Bool.eq_iff_iff]; simp; done) | (rw [Bool.eq_iff_iff]; simp; omega)), bnew _ _⟩
          · skip
            by_cases c4 : c = 4
            · subst c4
              rw [show knownT (4, s) = decide (s.length = 6) from rfl]
              by_cases h2 : s.length = 6
              · have hI : ((s.length : Int) == 6) = true := by rw [beq_iff_eq]; omega
                go_enter Try.func18, Try.ntmps18
                go_wp2_with fail
                go_ret
                exact ⟨ret_bool (by first | (rw [Bool.eq_iff_iff]; done) | (rw [Bool.eq_iff_iff]; simp; done) | (rw [Bool.eq_iff_iff]; simp; omega)), bnew _ _⟩
              · skip
                have hI : ((s.length : Int) == 6) = false := by rw [beq_eq_false_iff_ne]; omega
                go_enter Try.func18, Try.ntmps18
                go_wp2_with fail
                go_ret
                exact ⟨ret_bool (by first | (rw [Bool.eq_iff_iff]; done) | (rw [Bool.eq_iff_iff]; simp; done) | (rw [Bool.eq_iff_iff]; simp; omega)), bnew _ _⟩
            · skip
              by_cases c5 : c = 5
              · subst c5
                rw [show knownT (5, s) = decide (s.length = 8) from rfl]
                by_cases h2 : s.length = 8
                · have hI : ((s.length : Int) == 8) = true := by rw [beq_iff_eq]; omega
                  go_enter Try.func18, Try.ntmps18
                  go_wp2_with fail
                  go_ret
                  exact ⟨ret_bool (by first | (rw [Bool.eq_iff_iff]; done) | (rw [Bool.eq_iff_iff]; simp; done) | (rw [Bool.eq_iff_iff]; simp; omega)), bnew _ _⟩
                · skip
                  have hI : ((s.length : Int) == 8) = false := by rw [beq_eq_false_iff_ne]; omega
                  go_enter Try.func18, Try.ntmps18
                  go_wp2_with fail
                  go_ret
                  exact ⟨ret_bool (by first | (rw [Bool.eq_iff_iff]; done) | (rw [Bool.eq_iff_iff]; simp; done) | (rw [Bool.eq_iff_iff]; simp; omega)), bnew _ _⟩
              · skip
                by_cases c8 : c = 8
                · subst c8
                  rw [show knownT (8, s) = decide (s.length % 8 = 0 ∧ s.length ≤ 128) from rfl]
                  by_cases h2 : s.length % 8 = 0
                  · rw [h2] at h8
                    by_cases h3 : s.length ≤ 128
                    · skip
                      go_enter Try.func18, Try.ntmps18
                      go_wp2_with fail
                      go_ret
                      exact ⟨ret_bool (by first | (rw [Bool.eq_iff_iff]; done) | (rw [Bool.eq_iff_iff]; simp; done) | (rw [Bool.eq_iff_iff]; simp; omega)), bnew _ _⟩
                    · skip
                      go_enter Try.func18, Try.ntmps18
                      go_wp2_with fail
                      go_ret
                      exact ⟨ret_bool (by first | (rw [Bool.eq_iff_iff]; done) | (rw [Bool.eq_iff_iff]; simp; done) | (rw [Bool.eq_iff_iff]; simp; omega)), bnew _ _⟩
                  · have hI : (((s.length % 8 : Nat) : Int) == 0) = false := by rw [beq_eq_false_iff_ne]; omega
                    go_enter Try.func18, Try.ntmps18
                    go_wp2_with fail
                    go_ret
                    exact ⟨ret_bool (by first | (rw [Bool.eq_iff_iff]; done) | (rw [Bool.eq_iff_iff]; simp; done) | (rw [Bool.eq_iff_iff]; simp; omega)), bnew _ _⟩
                · skip
                  by_cases c9 : c = 9
                  · subst c9
                    rw [show knownT (9, s) = decide (16 ≤ s.length) from rfl]
                    by_cases h2 : 16 ≤ s.length
                    · skip
                      go_enter Try.func18, Try.ntmps18
                      go_wp2_with fail
                      go_ret
                      exact ⟨ret_bool (by first | (rw [Bool.eq_iff_iff]; done) | (rw [Bool.eq_iff_iff]; simp; done) | (rw [Bool.eq_iff_iff]; simp; omega)), bnew _ _⟩
                    · skip
                      go_enter Try.func18, Try.ntmps18
                      go_wp2_with fail
                      go_ret
                      exact ⟨ret_bool (by first | (rw [Bool.eq_iff_iff]; done) | (rw [Bool.eq_iff_iff]; simp; done) | (rw [Bool.eq_iff_iff]; simp; omega)), bnew _ _⟩
                  · skip
                    by_cases c32776 : c = 32776
                    · subst c32776
                      rw [show knownT (32776, s) = true from rfl]
                      go_enter Try.func18, Try.ntmps18
                      go_wp2_with fail
                      go_ret
                      exact ⟨ret_bool (by first | (rw [Bool.eq_iff_iff]; done) | (rw [Bool.eq_iff_iff]; simp; done) | (rw [Bool.eq_iff_iff]; simp; omega)), bnew _ _⟩
                    · skip
                      have hk : knownT (c, s) = false := by
                        unfold knownT
                        simp only [c1, c2, c3, c4, c5, c6, c7, c8, c9, c32776, or_self, if_false, decide_false]
                      rw [hk]
                      have d1 : (c == 1) = false := beq_false_of_ne c1
                      have d6 : (c == 6) = false := beq_false_of_ne c6
                      have d7 : (c == 7) = false := beq_false_of_ne c7
                      have d2 : (c == 2) = false := beq_false_of_ne c2
                      have d3 : (c == 3) = false := beq_false_of_ne c3
                      have d4 : (c == 4) = false := beq_false_of_ne c4
                      have d5 : (c == 5) = false := beq_false_of_ne c5
                      have d8 : (c == 8) = false := beq_false_of_ne c8
                      have d9 : (c == 9) = false := beq_false_of_ne c9
                      have d32776 : (c == 32776) = false := beq_false_of_ne c32776
                      go_enter Try.func18, Try.ntmps18
                      go_wp2_with fail
                      go_ret
                      exact ⟨rfl, bnew _ _⟩
end Go.Proofs.Ytdhdlpoopehmlaa
