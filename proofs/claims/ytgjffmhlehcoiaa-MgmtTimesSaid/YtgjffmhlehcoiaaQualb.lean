/- Package quality: Compare (by cmp.Or of three), in a region that draws its order. -/
import Derived.Test.YtgjffmhlehcoiaaQual
namespace Go.Proofs.Ytgjffmhlehcoiaa
open Go.RowKit Go.Proofs
set_option maxRecDepth 50000
set_option linter.unusedVariables false
set_option linter.unusedSimpArgs false

theorem boxAt (w : World) (cs : Array Value) (t : TypeId) (i : Nat) (v : Value) (h : cs[i]? = some v) :
    ∀ wx, Below (w.alloc (Obj.cells cs t)).heap.size (w.alloc (Obj.cells cs t)) wx → wx.cell? ⟨w.heap.size, i, none⟩ = some v := by
  intro wx hb
  rw [hb.cell (by simp)]
  simp only [World.cell?]
  rw [heap_alloc_new]
  exact h

/-- A quality in a box. -/
abbrev qCells (c a v : Int) : Obj := Obj.cells #[.int .i64 c, .int .i64 a, .int .i64 v] 24

theorem qbox1 (w : World) (c a v : Int) : ∃ W, W = w.alloc (qCells c a v) ∧ Below w.heap.size w W ∧
    Hid (∀ wx, Below W.heap.size W wx → wx.cell? ⟨w.heap.size, 0, none⟩ = some (.int .i64 c)) ∧ Hid (∀ wx, Below W.heap.size W wx → wx.cell? ⟨w.heap.size, 1, none⟩ = some (.int .i64 a)) ∧
    Hid (∀ wx, Below W.heap.size W wx → wx.cell? ⟨w.heap.size, 2, none⟩ = some (.int .i64 v)) :=
  ⟨_, rfl, bnew _ _, hid (boxAt _ _ _ 0 _ rfl), hid (boxAt _ _ _ 1 _ rfl), hid (boxAt _ _ _ 2 _ rfl)⟩

theorem qbox2 (w : World) (c a v c' a' v' : Int) : ∃ W, W = (w.alloc (qCells c a v)).alloc (qCells c' a' v') ∧ Below w.heap.size w W ∧
    Hid (∀ wx, Below W.heap.size W wx → wx.cell? ⟨w.heap.size, 0, none⟩ = some (.int .i64 c)) ∧ Hid (∀ wx, Below W.heap.size W wx → wx.cell? ⟨w.heap.size, 1, none⟩ = some (.int .i64 a)) ∧
    Hid (∀ wx, Below W.heap.size W wx → wx.cell? ⟨w.heap.size, 2, none⟩ = some (.int .i64 v)) ∧
    Hid (∀ wx, Below W.heap.size W wx → wx.cell? ⟨w.heap.size + 1, 0, none⟩ = some (.int .i64 c')) ∧ Hid (∀ wx, Below W.heap.size W wx → wx.cell? ⟨w.heap.size + 1, 1, none⟩ = some (.int .i64 a')) ∧
    Hid (∀ wx, Below W.heap.size W wx → wx.cell? ⟨w.heap.size + 1, 2, none⟩ = some (.int .i64 v')) := by
  obtain ⟨W, hW, hb, h0, h1, h2⟩ := qbox1 w c a v
  have hs : W.heap.size = w.heap.size + 1 := by rw [hW]; simp
  obtain ⟨W', hW', hb', h3, h4, h5⟩ := qbox1 W c' a' v'
  rw [hs] at h3 h4 h5
  subst hW hW'
  exact ⟨_, rfl, bnext hb hb', hid fun wx h => h0.out wx (bnext hb' h), hid fun wx h => h1.out wx (bnext hb' h), hid fun wx h => h2.out wx (bnext hb' h), h3, h4, h5⟩

theorem qbox3 (w : World) (c a v c' a' v' c'' a'' v'' : Int) : ∃ W, W = ((w.alloc (qCells c a v)).alloc (qCells c' a' v')).alloc (qCells c'' a'' v'') ∧ Below w.heap.size w W ∧
    Hid (∀ wx, Below W.heap.size W wx → wx.cell? ⟨w.heap.size, 0, none⟩ = some (.int .i64 c)) ∧ Hid (∀ wx, Below W.heap.size W wx → wx.cell? ⟨w.heap.size, 1, none⟩ = some (.int .i64 a)) ∧
    Hid (∀ wx, Below W.heap.size W wx → wx.cell? ⟨w.heap.size, 2, none⟩ = some (.int .i64 v)) ∧
    Hid (∀ wx, Below W.heap.size W wx → wx.cell? ⟨w.heap.size + 1, 0, none⟩ = some (.int .i64 c')) ∧ Hid (∀ wx, Below W.heap.size W wx → wx.cell? ⟨w.heap.size + 1, 1, none⟩ = some (.int .i64 a')) ∧
    Hid (∀ wx, Below W.heap.size W wx → wx.cell? ⟨w.heap.size + 1, 2, none⟩ = some (.int .i64 v')) ∧
    Hid (∀ wx, Below W.heap.size W wx → wx.cell? ⟨w.heap.size + 1 + 1, 0, none⟩ = some (.int .i64 c'')) ∧ Hid (∀ wx, Below W.heap.size W wx → wx.cell? ⟨w.heap.size + 1 + 1, 1, none⟩ = some (.int .i64 a'')) ∧
    Hid (∀ wx, Below W.heap.size W wx → wx.cell? ⟨w.heap.size + 1 + 1, 2, none⟩ = some (.int .i64 v'')) := by
  obtain ⟨W, hW, hb, h0, h1, h2, h3, h4, h5⟩ := qbox2 w c a v c' a' v'
  have hs : W.heap.size = w.heap.size + 1 + 1 := by rw [hW]; simp
  obtain ⟨W', hW', hb', h6, h7, h8⟩ := qbox1 W c'' a'' v''
  rw [hs] at h6 h7 h8
  subst hW hW'
  exact ⟨_, rfl, bnext hb hb', hid fun wx h => h0.out wx (bnext hb' h), hid fun wx h => h1.out wx (bnext hb' h), hid fun wx h => h2.out wx (bnext hb' h), hid fun wx h => h3.out wx (bnext hb' h),
    hid fun wx h => h4.out wx (bnext hb' h), hid fun wx h => h5.out wx (bnext hb' h), h6, h7, h8⟩

theorem ints_new (w : World) (x y z : Int) : Ints (w.alloc (Obj.cells #[.int .i64 x, .int .i64 y, .int .i64 z] 3)) (.slice (some ⟨w.heap.size, 0, none⟩) 3 3) [x, y, z] := by
  refine ⟨_, 3, rfl, Nat.le_refl _, by simp [maxLen], .inr ⟨w.heap.size, 0, rfl, by simp, fun i hi => ?_⟩⟩
  rw [Nat.zero_add]
  match i, hi with
  | 0, _ => exact boxAt w _ _ 0 _ rfl _ (Below.refl _ _)
  | 1, _ => exact boxAt w _ _ 1 _ rfl _ (Below.refl _ _)
  | 2, _ => exact boxAt w _ _ 2 _ rfl _ (Below.refl _ _)
end Go.Proofs.Ytgjffmhlehcoiaa
