/- A message's cells beyond the header's, by name; two messages compared (gen_msg2.py). -/
import Derived.Test.YtohgpnlihfcecaaMsg
namespace Go.Proofs.Ytohgpnlihfcecaa
open Go.RowKit Go.Proofs
set_option maxRecDepth 50000
set_option linter.unusedVariables false
set_option linter.unusedSimpArgs false

/-- What a body is made of: Stamp, Target, Utc, Priority1, Quality, Priority2, Grand, Steps, Origin, StartHops, Hops, Action. -/
structure Bd where
  st : Int
  tc : Int
  tp : Int
  ut : Int
  p1 : Int
  qc : Int
  qa : Int
  qv : Int
  p2 : Int
  gr : Int
  sr : Int
  og : Int
  sh : Int
  hp : Int
  ac : Int

/-- .. as cells. -/
def bdL (d : Bd) : List Value := [.int .i64 d.st, .int .u64 d.tc, .int .i64 d.tp, .int .i64 d.ut, .int .i64 d.p1, .int .i64 d.qc, .int .i64 d.qa, .int .i64 d.qv, .int .i64 d.p2, .int .u64 d.gr, .int .i64 d.sr, .int .i64 d.og, .int .i64 d.sh, .int .i64 d.hp, .int .i64 d.ac]

theorem bdL_length (d : Bd) : (bdL d).length = 15 := rfl

def bd0 : Bd := ⟨0, 0, 0, 0, 0, 0, 0, 0, 0, 0, 0, 0, 0, 0, 0⟩

theorem bdL_zero : bdL bd0 = zr := rfl

theorem bdL_one (d : Bd) : ∀ v ∈ bdL d, v.oneCell' = true := by
  intro v hv
  simp only [bdL, List.mem_cons, List.not_mem_nil, or_false] at hv
  rcases hv with rfl | rfl | rfl | rfl | rfl | rfl | rfl | rfl | rfl | rfl | rfl | rfl | rfl | rfl | rfl <;> rfl

/-- A whole message. -/
abbrev msgF (h : Hd) (d : Bd) : List Value := msgL h (bdL d)

theorem msgF_length (h : Hd) (d : Bd) : (msgF h d).length = 23 := rfl

/-- The body's cells in every world from W on. -/
def BdAt (W : World) (g : Nat) (d : Bd) : Prop :=
  ∀ wx, Below W.heap.size W wx → wx.cell? ⟨g, 8, none⟩ = some (.int .i64 d.st) ∧ wx.cell? ⟨g, 9, none⟩ = some (.int .u64 d.tc) ∧ wx.cell? ⟨g, 10, none⟩ = some (.int .i64 d.tp) ∧ wx.cell? ⟨g, 11, none⟩ = some (.int .i64 d.ut) ∧ wx.cell? ⟨g, 12, none⟩ = some (.int .i64 d.p1) ∧ wx.cell? ⟨g, 13, none⟩ = some (.int .i64 d.qc) ∧ wx.cell? ⟨g, 14, none⟩ = some (.int .i64 d.qa) ∧ wx.cell? ⟨g, 15, none⟩ = some (.int .i64 d.qv) ∧ wx.cell? ⟨g, 16, none⟩ = some (.int .i64 d.p2) ∧ wx.cell? ⟨g, 17, none⟩ = some (.int .u64 d.gr) ∧ wx.cell? ⟨g, 18, none⟩ = some (.int .i64 d.sr) ∧ wx.cell? ⟨g, 19, none⟩ = some (.int .i64 d.og) ∧ wx.cell? ⟨g, 20, none⟩ = some (.int .i64 d.sh) ∧ wx.cell? ⟨g, 21, none⟩ = some (.int .i64 d.hp) ∧ wx.cell? ⟨g, 22, none⟩ = some (.int .i64 d.ac)

theorem Box.bd {w : World} {g : Nat} {h : Hd} {d : Bd} {t : TypeId} (hB : Box w g (msgF h d) t) : BdAt w g d := fun wx hb =>
  ⟨(hB.below hb).cell 8 _ rfl, (hB.below hb).cell 9 _ rfl, (hB.below hb).cell 10 _ rfl, (hB.below hb).cell 11 _ rfl, (hB.below hb).cell 12 _ rfl, (hB.below hb).cell 13 _ rfl, (hB.below hb).cell 14 _ rfl, (hB.below hb).cell 15 _ rfl, (hB.below hb).cell 16 _ rfl, (hB.below hb).cell 17 _ rfl, (hB.below hb).cell 18 _ rfl, (hB.below hb).cell 19 _ rfl, (hB.below hb).cell 20 _ rfl, (hB.below hb).cell 21 _ rfl, (hB.below hb).cell 22 _ rfl⟩

/-- Whether two messages are the same in all. -/
def sameM (h : Hd) (d : Bd) (h' : Hd) (d' : Bd) : Bool := (h.ty == h'.ty) && (h.dm == h'.dm) && (h.fl == h'.fl) && (h.co == h'.co) && (h.sc == h'.sc) && (h.sp == h'.sp) && (h.sq == h'.sq) && (h.lg == h'.lg) && (d.st == d'.st) && (d.tc == d'.tc) && (d.tp == d'.tp) && (d.ut == d'.ut) && (d.p1 == d'.p1) && (d.qc == d'.qc) && (d.qa == d'.qa) && (d.qv == d'.qv) && (d.p2 == d'.p2) && (d.gr == d'.gr) && (d.sr == d'.sr) && (d.og == d'.og) && (d.sh == d'.sh) && (d.hp == d'.hp) && (d.ac == d'.ac)

theorem sameM_iff {h h' : Hd} {d d' : Bd} : sameM h d h' d' = true ↔ h = h' ∧ d = d' := by
  obtain ⟨a0, a1, a2, a3, a4, a5, a6, a7⟩ := h
  obtain ⟨b0, b1, b2, b3, b4, b5, b6, b7⟩ := h'
  obtain ⟨c0, c1, c2, c3, c4, c5, c6, c7, c8, c9, c10, c11, c12, c13, c14⟩ := d
  obtain ⟨e0, e1, e2, e3, e4, e5, e6, e7, e8, e9, e10, e11, e12, e13, e14⟩ := d'
  simp only [sameM, Bool.and_eq_true, beq_iff_eq, Hd.mk.injEq, Bd.mk.injEq, and_assoc]

set_option maxRecDepth 100000 in
set_option maxHeartbeats 4000000 in
theorem equal_msg (h : Hd) (d : Bd) (h' : Hd) (d' : Bd) (w : World) : (Op.equalIn 10000 28 (.agg (msgF h d).toArray) (.agg (msgF h' d').toArray)).run Try.prog w = .ok (sameM h d h' d') w := by
  unfold sameM
  obtain ⟨a0, a1, a2, a3, a4, a5, a6, a7⟩ := h
  obtain ⟨b0, b1, b2, b3, b4, b5, b6, b7⟩ := h'
  obtain ⟨c0, c1, c2, c3, c4, c5, c6, c7, c8, c9, c10, c11, c12, c13, c14⟩ := d
  obtain ⟨e0, e1, e2, e3, e4, e5, e6, e7, e8, e9, e10, e11, e12, e13, e14⟩ := d'
  unfold msgF msgL bdL
  simp only []
  by_cases k0 : a0 = b0
  case neg => (have q : (a0 == b0) = false := beq_false_of_ne k0); go_simp
  subst k0
  by_cases k1 : a1 = b1
  case neg => (have q : (a1 == b1) = false := beq_false_of_ne k1); go_simp
  subst k1
  by_cases k2 : a2 = b2
  case neg => (have q : (a2 == b2) = false := beq_false_of_ne k2); go_simp
  subst k2
  by_cases k3 : a3 = b3
  case neg => (have q : (a3 == b3) = false := beq_false_of_ne k3); go_simp
  subst k3
  by_cases k4 : a4 = b4
  case neg => (have q : (a4 == b4) = false := beq_false_of_ne k4); go_simp
  subst k4
  by_cases k5 : a5 = b5
  case neg => (have q : (a5 == b5) = false := beq_false_of_ne k5); go_simp
  subst k5
  by_cases k6 : a6 = b6
  case neg => (have q : (a6 == b6) = false := beq_false_of_ne k6); go_simp
  subst k6
  by_cases k7 : a7 = b7
  case neg => (have q : (a7 == b7) = false := beq_false_of_ne k7); go_simp
  subst k7
  by_cases k8 : c0 = e0
  case neg => (have q : (c0 == e0) = false := beq_false_of_ne k8); go_simp
  subst k8
  by_cases k9 : c1 = e1
  case neg => (have q : (c1 == e1) = false := beq_false_of_ne k9); go_simp
  subst k9
  by_cases k10 : c2 = e2
  case neg => (have q : (c2 == e2) = false := beq_false_of_ne k10); go_simp
  subst k10
  by_cases k11 : c3 = e3
  case neg => (have q : (c3 == e3) = false := beq_false_of_ne k11); go_simp
  subst k11
  by_cases k12 : c4 = e4
  case neg => (have q : (c4 == e4) = false := beq_false_of_ne k12); go_simp
  subst k12
  by_cases k13 : c5 = e5
  case neg => (have q : (c5 == e5) = false := beq_false_of_ne k13); go_simp
  subst k13
  by_cases k14 : c6 = e6
  case neg => (have q : (c6 == e6) = false := beq_false_of_ne k14); go_simp
  subst k14
  by_cases k15 : c7 = e7
  case neg => (have q : (c7 == e7) = false := beq_false_of_ne k15); go_simp
  subst k15
  by_cases k16 : c8 = e8
  case neg => (have q : (c8 == e8) = false := beq_false_of_ne k16); go_simp
  subst k16
  by_cases k17 : c9 = e9
  case neg => (have q : (c9 == e9) = false := beq_false_of_ne k17); go_simp
  subst k17
  by_cases k18 : c10 = e10
  case neg => (have q : (c10 == e10) = false := beq_false_of_ne k18); go_simp
  subst k18
  by_cases k19 : c11 = e11
  case neg => (have q : (c11 == e11) = false := beq_false_of_ne k19); go_simp
  subst k19
  by_cases k20 : c12 = e12
  case neg => (have q : (c12 == e12) = false := beq_false_of_ne k20); go_simp
  subst k20
  by_cases k21 : c13 = e13
  case neg => (have q : (c13 == e13) = false := beq_false_of_ne k21); go_simp
  subst k21
  by_cases k22 : c14 = e14
  case neg => (have q : (c14 == e14) = false := beq_false_of_ne k22); go_simp
  subst k22
  go_simp
end Go.Proofs.Ytohgpnlihfcecaa
