/- Rows of truths; single cells of rows. -/
import Derived.Test.YtehnhkjeijbliaaRowG
namespace Go.Proofs.Ytehnhkjeijbliaa
open Go.RowKit Go.Proofs
set_option maxRecDepth 50000
set_option linter.unusedVariables false
set_option linter.unusedSimpArgs false

def boK : RowK Bool := ⟨fun b => [.bool b], 1, by decide, fun _ => rfl, by intro a u hu; rw [List.mem_singleton.1 hu]; rfl⟩
/-- An element's only cell. -/
theorem cell_one {α : Type} {K : RowK α} {w : World} {b off : Nat} {l : List α} (h1 : K.n = 1) (h : ∀ j v, (K.cells l)[j]? = some v → w.cell? ⟨b, off + j, none⟩ = some v) (i : Nat) (hi : i < l.length) (v : Value) (hv : (K.enc l[i])[0]? = some v) :
    w.cell? ⟨b, off + i, none⟩ = some v := by
  have e := K.cells_get l i 0 hi K.pos
  rw [h1, Nat.mul_one, Nat.add_zero] at e
  exact h i v (e.trans hv)
theorem bo_cell {w : World} {b off : Nat} {bs : List Bool} (h : ∀ j v, (boK.cells bs)[j]? = some v → w.cell? ⟨b, off + j, none⟩ = some v) (i : Nat) (hi : i < bs.length) : w.cell? ⟨b, off + i, none⟩ = some (.bool (bs.getD i false)) := by
  have e : bs.getD i false = bs[i] := by rw [List.getD_eq_getElem?_getD, List.getElem?_eq_getElem hi]; rfl
  rw [e]
  exact cell_one rfl h i hi _ rfl
theorem getD_over (bs : List Bool) (i : Nat) (h : bs.length ≤ i) : bs.getD i false = false := by rw [List.getD_eq_getElem?_getD, List.getElem?_eq_none h]; rfl
theorem ints_cell {w : World} {b off : Nat} {zs : List Int} (h : ∀ i (h : i < zs.length), w.cell? ⟨b, off + i, none⟩ = some (.int .i64 zs[i])) (i : Nat) (hi : i < zs.length) {z : Int} (hz : zs[i] = z) : w.cell? ⟨b, off + i, none⟩ = some (.int .i64 z) := by
  rw [← hz]
  exact h i hi

/-- A port's identity by how it lies. -/
def prK : RowK (Int × Int) := ⟨fun p => [.int .u64 p.1, .int .i64 p.2], 2, by decide, fun _ => rfl, by
  intro a u hu
  simp only [List.mem_cons, List.not_mem_nil, or_false] at hu
  rcases hu with rfl | rfl <;> rfl⟩
end Go.Proofs.Ytehnhkjeijbliaa
