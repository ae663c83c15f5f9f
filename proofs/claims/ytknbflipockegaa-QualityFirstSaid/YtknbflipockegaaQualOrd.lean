/- Plain facts about the order of qualities; their bytes are in it. -/
import Derived.Test.YtknbflipockegaaQualc
import Derived.Test.YtknbflipockegaaOrd
namespace Go.Proofs.Ytknbflipockegaa
open Go.RowKit Go.Proofs
set_option linter.unusedVariables false
set_option linter.unusedSimpArgs false

theorem cmpI_cases (a b : Int) : (a < b ∧ cmpI a b = -1) ∨ (a = b ∧ cmpI a b = 0) ∨ (b < a ∧ cmpI a b = 1) := by
  unfold cmpI
  split
  · exact .inl ⟨by assumption, rfl⟩
  · split
    · exact .inr (.inr ⟨by assumption, rfl⟩)
    · exact .inr (.inl ⟨by omega, rfl⟩)

/-- What an answer says, part by part. -/
theorem cmpQ_cases (c a v c' a' v' : Int) :
    (cmpQ c a v c' a' v' = -1 ∧ (c < c' ∨ c = c' ∧ a < a' ∨ c = c' ∧ a = a' ∧ v < v')) ∨ (cmpQ c a v c' a' v' = 0 ∧ c = c' ∧ a = a' ∧ v = v') ∨ (cmpQ c a v c' a' v' = 1 ∧ (c' < c ∨ c = c' ∧ a' < a ∨ c = c' ∧ a = a' ∧ v' < v)) := by
  unfold cmpQ
  split
  · split
    · rcases cmpI_cases v v' with h | h | h <;> omega
    · rcases cmpI_cases a a' with h | h | h <;> omega
  · rcases cmpI_cases c c' with h | h | h <;> omega

theorem cmpQ_back (c a v c' a' v' : Int) : cmpQ c' a' v' c a v = - cmpQ c a v c' a' v' := by
  rcases cmpQ_cases c a v c' a' v' with h | h | h <;> rcases cmpQ_cases c' a' v' c a v with k | k | k <;> omega

theorem cmpQ_trans (c a v c' a' v' d e f : Int) (h1 : cmpQ c a v c' a' v' ≤ 0) (h2 : cmpQ c' a' v' d e f ≤ 0) : cmpQ c a v d e f ≤ 0 := by
  rcases cmpQ_cases c a v c' a' v' with h | h | h <;> rcases cmpQ_cases c' a' v' d e f with k | k | k <;> rcases cmpQ_cases c a v d e f with m | m | m <;> omega

theorem cmpQ_trans_lt (c a v c' a' v' d e f : Int) (h1 : cmpQ c a v c' a' v' < 0) (h2 : cmpQ c' a' v' d e f ≤ 0) : cmpQ c a v d e f < 0 := by
  rcases cmpQ_cases c a v c' a' v' with h | h | h <;> rcases cmpQ_cases c' a' v' d e f with k | k | k <;> rcases cmpQ_cases c a v d e f with m | m | m <;> omega

theorem same_of {x y : Int} : (x == y) = decide (x = y) := by rw [Bool.eq_iff_iff, beq_iff_eq, decide_eq_true_iff]

theorem less_qualS {c a v c' a' v' : Int} (ma : mayQ c a v = true) (mb : mayQ c' a' v' = true) :
    Op.bytesLess (qualS c a v) (qualS c' a' v') = decide (cmpQ c a v c' a' v' < 0) := by
  obtain ⟨m1, m2, m3⟩ := mayQ_iff.1 ma
  obtain ⟨n1, n2, n3⟩ := mayQ_iff.1 mb
  rw [in1_iff] at m1 m2 n1 n2
  rw [in2_iff] at m3 n3
  unfold qualS
  rw [less_app _ _ _ _ (by rw [List.length_append, List.length_append, putS1, putS1, putS1, putS1]), less_app _ _ _ _ (by rw [putS1, putS1]), same_app _ _ _ _ (by rw [putS1, putS1]),
    less_putS c c' 1 m1.1 n1.1 (by decide) (by simp; omega) (by simp; omega), less_putS a a' 1 m2.1 n2.1 (by decide) (by simp; omega) (by simp; omega), less_putS v v' 2 m3.1 n3.1 (by decide) (by simp; omega) (by simp; omega),
    same_putS c c' 1 m1.1 n1.1 (by decide) (by simp; omega) (by simp; omega), same_putS a a' 1 m2.1 n2.1 (by decide) (by simp; omega) (by simp; omega), same_of, same_of, Bool.eq_iff_iff]
  simp only [Bool.or_eq_true, Bool.and_eq_true, decide_eq_true_eq]
  rcases cmpQ_cases c a v c' a' v' with h | h | h <;> omega

theorem same_qualS {c a v c' a' v' : Int} (ma : mayQ c a v = true) (mb : mayQ c' a' v' = true) :
    (qualS c a v == qualS c' a' v') = decide (cmpQ c a v c' a' v' = 0) := by
  obtain ⟨m1, m2, m3⟩ := mayQ_iff.1 ma
  obtain ⟨n1, n2, n3⟩ := mayQ_iff.1 mb
  rw [in1_iff] at m1 m2 n1 n2
  rw [in2_iff] at m3 n3
  unfold qualS
  rw [same_app _ _ _ _ (by rw [List.length_append, List.length_append, putS1, putS1, putS1, putS1]), same_app _ _ _ _ (by rw [putS1, putS1]),
    same_putS v v' 2 m3.1 n3.1 (by decide) (by simp; omega) (by simp; omega),
    same_putS c c' 1 m1.1 n1.1 (by decide) (by simp; omega) (by simp; omega), same_putS a a' 1 m2.1 n2.1 (by decide) (by simp; omega) (by simp; omega), same_of, same_of, same_of, Bool.eq_iff_iff]
  simp only [Bool.and_eq_true, decide_eq_true_eq]
  rcases cmpQ_cases c a v c' a' v' with h | h | h <;> omega
end Go.Proofs.Ytknbflipockegaa
