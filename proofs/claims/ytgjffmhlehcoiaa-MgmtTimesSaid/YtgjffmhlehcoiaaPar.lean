/- Whom a clock follows, and what it announces (chapter 14): plainly, and how it lies (gen_parlaws.py). -/
import Derived.Test.YtgjffmhlehcoiaaVecLaws0
import Derived.Test.YtgjffmhlehcoiaaVecRow
import Derived.Test.YtgjffmhlehcoiaaMsK
namespace Go.Proofs.Ytgjffmhlehcoiaa
open Go.RowKit Go.Proofs
set_option maxRecDepth 50000
set_option linter.unusedVariables false
set_option linter.unusedSimpArgs false

structure Pa where
  pc : Int
  pp : Int
  gr : Int
  qc : Int
  qa : Int
  qv : Int
  p1 : Int
  p2 : Int
  st : Int
  ut : Int
  fl : Int
  og : Int
def paL (a : Pa) : List Value := [.int .u64 a.pc, .int .i64 a.pp, .int .u64 a.gr, .int .i64 a.qc, .int .i64 a.qa, .int .i64 a.qv, .int .i64 a.p1, .int .i64 a.p2, .int .i64 a.st, .int .i64 a.ut, .int .i64 a.fl, .int .i64 a.og]
def paK : RowK Pa := ⟨paL, 12, by decide, fun _ => rfl, by
  intro a v hv
  unfold paL at hv
  simp only [List.mem_cons, List.not_mem_nil, or_false] at hv
  rcases hv with rfl | rfl | rfl | rfl | rfl | rfl | rfl | rfl | rfl | rfl | rfl | rfl <;> rfl⟩
def cfK : RowK Cf := ⟨cfL, 23, by decide, cfL_length, cfL_one⟩
structure Tm where
  ut : Int
  fl : Int
  og : Int
def tmL (t : Tm) : List Value := [.int .i64 t.ut, .int .i64 t.fl, .int .i64 t.og]
def tmK : RowK Tm := ⟨tmL, 3, by decide, fun _ => rfl, by
  intro a v hv
  unfold tmL at hv
  simp only [List.mem_cons, List.not_mem_nil, or_false] at hv
  rcases hv with rfl | rfl | rfl <;> rfl⟩

theorem cfT : StrT cfK 28 := ⟨⟨_, Try.underlying28, rfl⟩, by kernel_rfl⟩

theorem paT : StrT paK 39 := ⟨⟨_, Try.underlying39, rfl⟩, by kernel_rfl⟩

theorem tmT : StrT tmK 26 := ⟨⟨_, Try.underlying26, rfl⟩, by kernel_rfl⟩

def zeroPa : Pa := ⟨0, 0, 0, 0, 0, 0, 0, 0, 0, 0, 0, 0⟩
def PaIn (a : Pa) : Prop := U64 a.pc ∧ I64 a.pp ∧ U64 a.gr ∧ I64 a.qc ∧ I64 a.qa ∧ I64 a.qv ∧ I64 a.p1 ∧ I64 a.p2 ∧ I64 a.st ∧ I64 a.ut ∧ I64 a.fl ∧ I64 a.og

def ownP (c : Cf) : Pa := ⟨c.cl, 0, c.cl, c.qc, c.qa, c.qv, c.p1, c.p2, 0, c.ut, c.fl, c.og⟩
def folP (v : Vc) (t : Tm) : Pa := ⟨v.sc, v.sp, v.gr, v.qc, v.qa, v.qv, v.p1, v.p2, wrap64 (v.st + 1), t.ut, t.fl, t.og⟩
def sayM (c : Cf) (p : Pa) (port seq : Int) : Hd × Bd := (⟨11, c.dm, p.fl, 0, c.cl, port, seq, c.la⟩, ⟨0, 0, 0, p.ut, p.p1, p.qc, p.qa, p.qv, p.p2, p.gr, p.st, p.og, 0, 0, 0⟩)

/-- Whether two are the same. -/
def sameP (a b : Pa) : Bool := (a.pc == b.pc) && (a.pp == b.pp) && (a.gr == b.gr) && (a.qc == b.qc) && (a.qa == b.qa) && (a.qv == b.qv) && (a.p1 == b.p1) && (a.p2 == b.p2) && (a.st == b.st) && (a.ut == b.ut) && (a.fl == b.fl) && (a.og == b.og)
theorem sameP_self (a : Pa) : sameP a a = true := by simp [sameP]

set_option maxRecDepth 100000 in
set_option maxHeartbeats 8000000 in
theorem equal_pa (a b : Pa) (w : World) : (Op.equalIn 10000 39 (.agg (paK.enc a).toArray) (.agg (paK.enc b).toArray)).run Try.prog w = .ok (sameP a b) w := by
  unfold sameP
  obtain ⟨a0, a1, a2, a3, a4, a5, a6, a7, a8, a9, a10, a11⟩ := a
  obtain ⟨b0, b1, b2, b3, b4, b5, b6, b7, b8, b9, b10, b11⟩ := b
  unfold paK paL
  simp only []
  by_cases k0 : a0 = b0
  case neg => (have q : (a0 == b0) = false := beq_false_of_ne k0; go_simp)
  subst k0
  by_cases k1 : a1 = b1
  case neg => (have q : (a1 == b1) = false := beq_false_of_ne k1; go_simp)
  subst k1
  by_cases k2 : a2 = b2
  case neg => (have q : (a2 == b2) = false := beq_false_of_ne k2; go_simp)
  subst k2
  by_cases k3 : a3 = b3
  case neg => (have q : (a3 == b3) = false := beq_false_of_ne k3; go_simp)
  subst k3
  by_cases k4 : a4 = b4
  case neg => (have q : (a4 == b4) = false := beq_false_of_ne k4; go_simp)
  subst k4
  by_cases k5 : a5 = b5
  case neg => (have q : (a5 == b5) = false := beq_false_of_ne k5; go_simp)
  subst k5
  by_cases k6 : a6 = b6
  case neg => (have q : (a6 == b6) = false := beq_false_of_ne k6; go_simp)
  subst k6
  by_cases k7 : a7 = b7
  case neg => (have q : (a7 == b7) = false := beq_false_of_ne k7; go_simp)
  subst k7
  by_cases k8 : a8 = b8
  case neg => (have q : (a8 == b8) = false := beq_false_of_ne k8; go_simp)
  subst k8
  by_cases k9 : a9 = b9
  case neg => (have q : (a9 == b9) = false := beq_false_of_ne k9; go_simp)
  subst k9
  by_cases k10 : a10 = b10
  case neg => (have q : (a10 == b10) = false := beq_false_of_ne k10; go_simp)
  subst k10
  by_cases k11 : a11 = b11
  case neg => (have q : (a11 == b11) = false := beq_false_of_ne k11; go_simp)
  subst k11
  go_simp
end Go.Proofs.Ytgjffmhlehcoiaa
