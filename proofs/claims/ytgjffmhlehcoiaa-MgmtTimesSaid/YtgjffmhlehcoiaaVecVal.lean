/- A vector as a value and in a box (gen_vec.py). -/
import Derived.Test.YtgjffmhlehcoiaaVec
import Derived.Test.YtgjffmhlehcoiaaPerm
namespace Go.Proofs.Ytgjffmhlehcoiaa
open Go.RowKit Go.Proofs
set_option maxRecDepth 50000
set_option linter.unusedVariables false
set_option linter.unusedSimpArgs false

def vcL (a : Vc) : List Value := [.int .i64 a.p1, .int .i64 a.qc, .int .i64 a.qa, .int .i64 a.qv, .int .i64 a.p2, .int .u64 a.gr, .int .i64 a.st, .int .u64 a.sc, .int .i64 a.sp, .int .u64 a.rc, .int .i64 a.rp]

def zeroV : Vc := ⟨0, 0, 0, 0, 0, 0, 0, 0, 0, 0, 0⟩

theorem vcL_length (a : Vc) : (vcL a).length = 11 := rfl
theorem vcL_one (a : Vc) : ∀ v ∈ vcL a, v.oneCell' = true := by
  intro v hv
  unfold vcL at hv
  simp only [List.mem_cons, List.mem_nil_iff, or_false] at hv
  rcases hv with rfl | rfl | rfl | rfl | rfl | rfl | rfl | rfl | rfl | rfl | rfl <;> rfl

theorem Box.rangeV {w : World} {g : Nat} {xs : List Value} {t : TypeId} (h : Box w g xs t) : w.rangeAt g 0 xs := fun j v hj => by rw [Nat.zero_add]; exact h.cell j v hj

theorem Box.rowV {w : World} {g : Nat} {xs : List Value} {t : TypeId} (h : Box w g xs t) (ys : List Value) : Box (w.setRow g ys.toArray) g ys t := by
  unfold Box at h ⊢
  rw [setRow_heap w g _ _ t _ h]
theorem Box.rowV_other {w : World} {g : Nat} {xs : List Value} {t : TypeId} (h : Box w g xs t) {k : Nat} (hk : g ≠ k) (ys : Array Value) : Box (w.setRow k ys) g xs t := by
  unfold Box at h ⊢
  rw [setRow_other w k g ys hk]
  exact h

end Go.Proofs.Ytgjffmhlehcoiaa
