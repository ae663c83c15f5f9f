/- How an argument that is a TLV by value is opened, for the frames of the laws. -/
import Derived.Test.YtdhdlpoopehmlaaOpen
import Derived.Test.YtdhdlpoopehmlaaTlv
import Derived.Lib.SmallJoins
namespace Go.Proofs.Ytdhdlpoopehmlaa
open Go.ChangeShapes Go.WideShapes Go.ChangeAt Go.RowKit

theorem open_tlvv {H : Type} {enc : TypeId × Value → H} {w : World} {base b0 : Nat} {spare : Nat → Bool} {held : Bool} {r : Reach} {v : Value} {d : DataW H} {p : List MemPlace} (hv : Value.okWide Try.prog w r b0 32 v) (h : DataW.Trod enc Try.prog w base spare held 32 v d p) :
    ∃ q : T2, v = tlvV q ∧ q.2.length ≤ maxLen := by
  obtain ⟨c0, c1, y0, y1, m, rfl, rfl, rfl, hy0, hy1⟩ := Go.Joins.open_agg2 Try.underlying32 (by kernel_rfl) (by kernel_rfl) hv h
  obtain ⟨a0, e0, rfl, wa0⟩ := DataW.trod_int Try.underlying3 hy0
  obtain ⟨a1, e1, rfl, wa1⟩ := DataW.trod_string Try.underlying9 hy1
  simp only [List.cons.injEq, and_true] at e0 e1
  subst e0 e1
  exact ⟨(a0, a1.data.toList), by simp, by simpa using wa1⟩
end Go.Proofs.Ytdhdlpoopehmlaa
