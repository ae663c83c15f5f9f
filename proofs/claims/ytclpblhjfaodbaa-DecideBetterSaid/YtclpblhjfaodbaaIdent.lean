/- Package ident, the calls without bytes: which one is the lesser, who is meant, what may be; package cmp's Compare. -/
import Derived.Test.YtclpblhjfaodbaaCmp
namespace Go.Proofs.Ytclpblhjfaodbaa
open Go.RowKit Go.Proofs
set_option maxRecDepth 50000
set_option linter.unusedVariables false
set_option linter.unusedSimpArgs false

/-- A port's identity as a value. -/
abbrev portV (c p : Int) : Value := .agg #[.int .u64 c, .int .i64 p]

/-- .. of two ports: the clock, then the port. -/
def cmpP (a a' b b' : Int) : Int := if a = b then cmpI a' b' else cmpI a b

theorem cmpP_same {a a' b b' : Int} (h : a = b) : cmpP a a' b b' = cmpI a' b' := if_pos h
theorem cmpP_other {a a' b b' : Int} (h : a ≠ b) : cmpP a a' b b' = cmpI a b := if_neg h

def mayP (p : Int) : Bool := decide (0 ≤ p ∧ p ≤ 65535)

/-- Whether a target (t, t') means a port (p, p'). -/
def meantB (t t' p p' : Int) : Bool := (decide (t = 18446744073709551615) || decide (t = p)) && (decide (t' = 65535) || decide (t' = p'))

theorem bnew2 (w : World) (o o' : Obj) : Below w.heap.size w ((w.alloc o).alloc o') := (bnew w o).alloc (bnew w o).size _

set_option maxHeartbeats 800000 in
theorem compare_any (a a' b b' : Int) (w : World) :
    Calls Try.prog 22 #[portV a a', portV b b'] w fun e w' => e = .returned (.int .i64 (cmpP a a' b b')) ∧ Below w.heap.size w w' := by
  by_cases h1 : a = b
  · subst h1
    rw [cmpP_same rfl]
    by_cases h2 : a' = b'
    · subst h2
      rw [cmpI_eq rfl]
      go_enter Try.func22, Try.ntmps22
      go_wp2
      go_ret
      exact ⟨rfl, bnew2 _ _ _⟩
    · go_enter Try.func22, Try.ntmps22
      go_wp2_with fail
      refine (cmpI_any _ _ _).mono ?_
      rintro e w' ⟨rfl, rfl⟩
      go_wp2_with fail
      go_ret
      exact ⟨rfl, bnew2 _ _ _⟩
  · rw [cmpP_other h1]
    go_enter Try.func22, Try.ntmps22
    go_wp2_with fail
    refine (cmpU_any _ _ _).mono ?_
    rintro e w' ⟨rfl, rfl⟩
    go_wp2_with fail
    go_ret
    exact ⟨rfl, bnew2 _ _ _⟩

theorem decide_beq (a b : Int) : (a == b) = decide (a = b) := by rw [Bool.eq_iff_iff, beq_iff_eq, decide_eq_true_iff]

theorem meantB_all {t' p p' : Int} : meantB 18446744073709551615 t' p p' = (decide (t' = 65535) || decide (t' = p')) := by unfold meantB; simp
theorem meantB_no {t t' p p' : Int} (h : t ≠ 18446744073709551615) (h' : t ≠ p) : meantB t t' p p' = false := by unfold meantB; simp [h, h']
theorem meantB_one {t' p p' : Int} : meantB p t' p p' = (decide (t' = 65535) || decide (t' = p')) := by unfold meantB; simp


end Go.Proofs.Ytclpblhjfaodbaa
