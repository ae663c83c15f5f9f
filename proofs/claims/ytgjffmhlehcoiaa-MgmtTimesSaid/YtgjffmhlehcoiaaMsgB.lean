/- A message's cells beyond the header's, by name; two messages compared (gen_msg2.py). -/
import Derived.Test.YtgjffmhlehcoiaaMsg
namespace Go.Proofs.Ytgjffmhlehcoiaa
open Go.RowKit Go.Proofs
set_option maxRecDepth 50000
set_option linter.unusedVariables false
set_option linter.unusedSimpArgs false

/-- What a body is made of: Stamp, Target, Utc, Priority1, Quality, Priority2, Grand, Steps, Origin, StartHops, Hops, Action. -/
structure Bd where
  st : Int
  tc : Int
  tp : Int
  ut : Int
  p1 : Int
  qc : Int
  qa : Int
  qv : Int
  p2 : Int
  gr : Int
  sr : Int
  og : Int
  sh : Int
  hp : Int
  ac : Int

/-- .. as cells. -/
def bdL (d : Bd) : List Value := [.int .i64 d.st, .int .u64 d.tc, .int .i64 d.tp, .int .i64 d.ut, .int .i64 d.p1, .int .i64 d.qc, .int .i64 d.qa, .int .i64 d.qv, .int .i64 d.p2, .int .u64 d.gr, .int .i64 d.sr, .int .i64 d.og, .int .i64 d.sh, .int .i64 d.hp, .int .i64 d.ac]

theorem bdL_length (d : Bd) : (bdL d).length = 15 := rfl

def bd0 : Bd := ⟨0, 0, 0, 0, 0, 0, 0, 0, 0, 0, 0, 0, 0, 0, 0⟩

theorem bdL_zero : bdL bd0 = zr := rfl

theorem bdL_one (d : Bd) : ∀ v ∈ bdL d, v.oneCell' = true := by
  intro v hv
  simp only [bdL, List.mem_cons, List.not_mem_nil, or_false] at hv
  rcases hv with rfl | rfl | rfl | rfl | rfl | rfl | rfl | rfl | rfl | rfl | rfl | rfl | rfl | rfl | rfl <;> rfl

/-- A whole message. -/
abbrev msgF (h : Hd) (d : Bd) : List Value := msgL h (bdL d)

theorem msgF_length (h : Hd) (d : Bd) : (msgF h d).length = 23 := rfl

/-- The body's cells in every world from W on. -/
def BdAt (W : World) (g : Nat) (d : Bd) : Prop :=
  ∀ wx, Below W.heap.size W wx → wx.cell? ⟨g, 8, none⟩ = some (.int .i64 d.st) ∧ wx.cell? ⟨g, 9, none⟩ = some (.int .u64 d.tc) ∧ wx.cell? ⟨g, 10, none⟩ = some (.int .i64 d.tp) ∧ wx.cell? ⟨g, 11, none⟩ = some (.int .i64 d.ut) ∧ wx.cell? ⟨g, 12, none⟩ = some (.int .i64 d.p1) ∧ wx.cell? ⟨g, 13, none⟩ = some (.int .i64 d.qc) ∧ wx.cell? ⟨g, 14, none⟩ = some (.int .i64 d.qa) ∧ wx.cell? ⟨g, 15, none⟩ = some (.int .i64 d.qv) ∧ wx.cell? ⟨g, 16, none⟩ = some (.int .i64 d.p2) ∧ wx.cell? ⟨g, 17, none⟩ = some (.int .u64 d.gr) ∧ wx.cell? ⟨g, 18, none⟩ = some (.int .i64 d.sr) ∧ wx.cell? ⟨g, 19, none⟩ = some (.int .i64 d.og) ∧ wx.cell? ⟨g, 20, none⟩ = some (.int .i64 d.sh) ∧ wx.cell? ⟨g, 21, none⟩ = some (.int .i64 d.hp) ∧ wx.cell? ⟨g, 22, none⟩ = some (.int .i64 d.ac)

theorem Box.bd {w : World} {g : Nat} {h : Hd} {d : Bd} {t : TypeId} (hB : Box w g (msgF h d) t) : BdAt w g d := fun wx hb =>
  ⟨(hB.below hb).cell 8 _ rfl, (hB.below hb).cell 9 _ rfl, (hB.below hb).cell 10 _ rfl, (hB.below hb).cell 11 _ rfl, (hB.below hb).cell 12 _ rfl, (hB.below hb).cell 13 _ rfl, (hB.below hb).cell 14 _ rfl, (hB.below hb).cell 15 _ rfl, (hB.below hb).cell 16 _ rfl, (hB.below hb).cell 17 _ rfl, (hB.below hb).cell 18 _ rfl, (hB.below hb).cell 19 _ rfl, (hB.below hb).cell 20 _ rfl, (hB.below hb).cell 21 _ rfl, (hB.below hb).cell 22 _ rfl⟩

/-- Whether two messages are the same in all. -/
def sameM (h : Hd) (d : Bd) (h' : Hd) (d' : Bd) : Bool := (h.ty == h'.ty) && (h.dm == h'.dm) && (h.fl == h'.fl) && (h.co == h'.co) && (h.sc == h'.sc) && (h.sp == h'.sp) && (h.sq == h'.sq) && (h.lg == h'.lg) && (d.st == d'.st) && (d.tc == d'.tc) && (d.tp == d'.tp) && (d.ut == d'.ut) && (d.p1 == d'.p1) && (d.qc == d'.qc) && (d.qa == d'.qa) && (d.qv == d'.qv) && (d.p2 == d'.p2) && (d.gr == d'.gr) && (d.sr == d'.sr) && (d.og == d'.og) && (d.sh == d'.sh) && (d.hp == d'.hp) && (d.ac == d'.ac)

theorem sameM_iff {h h' : Hd} {d d' : Bd} : sameM h d h' d' = true ↔ h = h' ∧ d = d' := by
  obtain ⟨a0, a1, a2, a3, a4, a5, a6, a7⟩ := h
  obtain ⟨b0, b1, b2, b3, b4, b5, b6, b7⟩ := h'
  obtain ⟨c0, c1, c2, c3, c4, c5, c6, c7, c8, c9, c10, c11, c12, c13, c14⟩ := d
  obtain ⟨e0, e1, e2, e3, e4, e5, e6, e7, e8, e9, e10, e11, e12, e13, e14⟩ := d'
  simp only [sameM, Bool.and_eq_true, beq_iff_eq, Hd.mk.injEq, Bd.mk.injEq, and_assoc]

end Go.Proofs.Ytgjffmhlehcoiaa
