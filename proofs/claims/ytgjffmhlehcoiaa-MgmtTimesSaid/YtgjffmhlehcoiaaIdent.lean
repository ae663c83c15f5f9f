/- Package ident, the calls without bytes: which one is the lesser, who is meant, what may be; package cmp's Compare. -/
import Derived.Test.YtgjffmhlehcoiaaCmp
namespace Go.Proofs.Ytgjffmhlehcoiaa
open Go.RowKit Go.Proofs
set_option maxRecDepth 50000
set_option linter.unusedVariables false
set_option linter.unusedSimpArgs false

/-- A port's identity as a value. -/
abbrev portV (c p : Int) : Value := .agg #[.int .u64 c, .int .i64 p]

/-- .. of two ports: the clock, then the port. -/
def cmpP (a a' b b' : Int) : Int := if a = b then cmpI a' b' else cmpI a b

theorem cmpP_same {a a' b b' : Int} (h : a = b) : cmpP a a' b b' = cmpI a' b' := if_pos h
theorem cmpP_other {a a' b b' : Int} (h : a ≠ b) : cmpP a a' b b' = cmpI a b := if_neg h

def mayP (p : Int) : Bool := decide (0 ≤ p ∧ p ≤ 65535)

/-- Whether a target (t, t') means a port (p, p'). -/
def meantB (t t' p p' : Int) : Bool := (decide (t = 18446744073709551615) || decide (t = p)) && (decide (t' = 65535) || decide (t' = p'))

theorem bnew2 (w : World) (o o' : Obj) : Below w.heap.size w ((w.alloc o).alloc o') := (bnew w o).alloc (bnew w o).size _

theorem decide_beq (a b : Int) : (a == b) = decide (a = b) := by rw [Bool.eq_iff_iff, beq_iff_eq, decide_eq_true_iff]

theorem meantB_all {t' p p' : Int} : meantB 18446744073709551615 t' p p' = (decide (t' = 65535) || decide (t' = p')) := by unfold meantB; simp
theorem meantB_no {t t' p p' : Int} (h : t ≠ 18446744073709551615) (h' : t ≠ p) : meantB t t' p p' = false := by unfold meantB; simp [h, h']
theorem meantB_one {t' p p' : Int} : meantB p t' p p' = (decide (t' = 65535) || decide (t' = p')) := by unfold meantB; simp


end Go.Proofs.Ytgjffmhlehcoiaa
