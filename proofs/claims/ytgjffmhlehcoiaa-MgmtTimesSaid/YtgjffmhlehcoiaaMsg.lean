/- A message as a value and in a box: its header's cells by name, the others whatever. -/
import Derived.Test.YtgjffmhlehcoiaaHead
import Derived.Test.YtgjffmhlehcoiaaPerm
namespace Go.Proofs.Ytgjffmhlehcoiaa
open Go.RowKit Go.Proofs
set_option maxRecDepth 50000
set_option linter.unusedVariables false
set_option linter.unusedSimpArgs false

/-- What a header is made of. -/
structure Hd where
  ty : Int
  dm : Int
  fl : Int
  co : Int
  sc : Int
  sp : Int
  sq : Int
  lg : Int

/-- A message's cells: the header's, then the others. -/
def msgL (h : Hd) (r : List Value) : List Value := .int .i64 h.ty :: .int .i64 h.dm :: .int .i64 h.fl :: .int .i64 h.co :: .int .u64 h.sc :: .int .i64 h.sp :: .int .i64 h.sq :: .int .i64 h.lg :: r

theorem msgL_length (h : Hd) (r : List Value) (hr : r.length = 15) : (msgL h r).length = 23 := by simp [msgL, hr]

theorem boxAtL (w : World) (xs : List Value) (t : TypeId) (i : Nat) (v : Value) (h : xs[i]? = some v) :
    ∀ wx, Below (w.alloc (Obj.cells xs.toArray t)).heap.size (w.alloc (Obj.cells xs.toArray t)) wx → wx.cell? ⟨w.heap.size, i, none⟩ = some v :=
  fun wx hb => ((Box.new w xs t).below hb).cell i v h

/-- The header's cells in every world from W on. -/
def HdAt (W : World) (g : Nat) (h : Hd) : Prop :=
  ∀ wx, Below W.heap.size W wx → wx.cell? ⟨g, 0, none⟩ = some (.int .i64 h.ty) ∧ wx.cell? ⟨g, 1, none⟩ = some (.int .i64 h.dm) ∧ wx.cell? ⟨g, 2, none⟩ = some (.int .i64 h.fl) ∧ wx.cell? ⟨g, 3, none⟩ = some (.int .i64 h.co) ∧
    wx.cell? ⟨g, 4, none⟩ = some (.int .u64 h.sc) ∧ wx.cell? ⟨g, 5, none⟩ = some (.int .i64 h.sp) ∧ wx.cell? ⟨g, 6, none⟩ = some (.int .i64 h.sq) ∧ wx.cell? ⟨g, 7, none⟩ = some (.int .i64 h.lg)

theorem Box.hd {w : World} {g : Nat} {h : Hd} {r : List Value} {t : TypeId} (hB : Box w g (msgL h r) t) : HdAt w g h := fun wx hb =>
  ⟨(hB.below hb).cell 0 _ rfl, (hB.below hb).cell 1 _ rfl, (hB.below hb).cell 2 _ rfl, (hB.below hb).cell 3 _ rfl, (hB.below hb).cell 4 _ rfl, (hB.below hb).cell 5 _ rfl, (hB.below hb).cell 6 _ rfl, (hB.below hb).cell 7 _ rfl⟩

theorem Box.range {w : World} {g : Nat} {xs : List Value} {t : TypeId} (h : Box w g xs t) : w.rangeAt g 0 xs := fun j v hj => by rw [Nat.zero_add]; exact h.cell j v hj

/-- A header's numbers as Go has them. -/
def HdOk (h : Hd) : Prop := 0 ≤ h.sc ∧ h.sc < 18446744073709551616 ∧ (-9223372036854775808 ≤ h.co ∧ h.co ≤ 9223372036854775807)

theorem Box.row {w : World} {g : Nat} {xs : List Value} {t : TypeId} (h : Box w g xs t) (ys : List Value) : Box (w.setRow g ys.toArray) g ys t := by
  unfold Box at h ⊢
  rw [setRow_heap w g _ _ t _ h]

theorem Box.row_other {w : World} {g : Nat} {xs : List Value} {t : TypeId} (h : Box w g xs t) {k : Nat} (hk : g ≠ k) (ys : Array Value) : Box (w.setRow k ys) g xs t := by
  unfold Box at h ⊢
  rw [setRow_other w k g ys hk]
  exact h

/-- A message's other cells, all zero. -/
def zr : List Value := [.int .i64 0, .int .u64 0, .int .i64 0, .int .i64 0, .int .i64 0, .int .i64 0, .int .i64 0, .int .i64 0, .int .i64 0, .int .u64 0, .int .i64 0, .int .i64 0, .int .i64 0, .int .i64 0, .int .i64 0]

theorem zr_length : zr.length = 15 := rfl
theorem zr_one : ∀ v ∈ zr, v.oneCell' = true := by
  intro v hv
  simp only [zr, List.mem_cons, List.not_mem_nil, or_false] at hv
  rcases hv with rfl | rfl | rfl | rfl | rfl | rfl | rfl | rfl | rfl | rfl | rfl | rfl | rfl | rfl | rfl <;> rfl

theorem msgL_one (h : Hd) (r : List Value) (hr : ∀ v ∈ r, v.oneCell' = true) : ∀ v ∈ msgL h r, v.oneCell' = true := by
  intro v hv
  simp only [msgL, List.mem_cons] at hv
  rcases hv with rfl | rfl | rfl | rfl | rfl | rfl | rfl | rfl | hv
  all_goals first | rfl | exact hr v hv

/-- The message of nothing. -/
def hd0 : Hd := ⟨0, 0, 0, 0, 0, 0, 0, 0⟩

/-- What a header may be. -/
def checkB (h : Hd) : Bool := knownB h.ty && inB h.dm 0 255 && inB h.fl 0 65535 && mayP h.sp && inB h.sq 0 65535 && inB h.lg (-128) 127

theorem check_of {h : Hd} (hc : checkB h = true) : knownB h.ty = true ∧ (0 ≤ h.dm ∧ h.dm ≤ 255) ∧ (0 ≤ h.fl ∧ h.fl ≤ 65535) ∧ (0 ≤ h.sp ∧ h.sp ≤ 65535) ∧ (0 ≤ h.sq ∧ h.sq ≤ 65535) ∧ (-128 ≤ h.lg ∧ h.lg ≤ 127) := by
  unfold checkB inB mayP at hc
  simp only [Bool.and_eq_true, decide_eq_true_eq] at hc
  obtain ⟨⟨⟨⟨⟨h1, h2⟩, h3⟩, h4⟩, h5⟩, h6⟩ := hc
  exact ⟨h1, h2, h3, h4, h5, h6⟩


end Go.Proofs.Ytgjffmhlehcoiaa
