/- Rows of numbers (int). -/
import Derived.Test.YtcccjjghalajoaaRowG
import Derived.Test.YtcccjjghalajoaaOnly
namespace Go.Proofs.Ytcccjjghalajoaa
open Go.RowKit Go.Proofs
set_option maxRecDepth 50000
set_option linter.unusedVariables false
set_option linter.unusedSimpArgs false

def inK : RowK Int := ⟨fun z => [.int .i64 z], 1, by decide, fun _ => rfl, by intro a u hu; rw [List.mem_singleton.1 hu]; rfl⟩
theorem int_info : (Try.prog.info? 3).map (fun i => (i.zero, i.size, i.bytes)) = some (some (.int .i64 0), inK.n, 8) := by kernel_rfl
theorem inK_cells (l : List Int) : inK.cells l = l.map (fun z => Value.int .i64 z) := by
  induction l with
  | nil => rfl
  | cons a t ih =>
    show inK.enc a ++ inK.cells t = _
    rw [ih]
    rfl
theorem Ints.readsK {w : World} {v : Value} {l : List Int} (h : Ints w v l) : inK.Reads w v l := by
  obtain ⟨p, cap, rfl, h1, h2, h3⟩ := h
  refine ⟨p, cap, rfl, h1, h2, ?_⟩
  rcases h3 with rfl | ⟨b, off, rfl, hlt, hc⟩
  · exact .inl rfl
  · refine .inr ⟨b, off, rfl, hlt, fun j v hj => ?_⟩
    rw [inK_cells, List.getElem?_map] at hj
    by_cases hjl : j < l.length
    · rw [List.getElem?_eq_getElem hjl] at hj
      rw [hc j hjl]
      exact hj
    · rw [List.getElem?_eq_none (by omega)] at hj
      cases hj
theorem RowK.Reads.intsK {w : World} {v : Value} {l : List Int} (h : inK.Reads w v l) : Ints w v l := by
  obtain ⟨p, cap, rfl, h1, h2, h3⟩ := h
  refine ⟨p, cap, rfl, h1, h2, ?_⟩
  rcases h3 with rfl | ⟨b, off, rfl, hlt, hc⟩
  · exact .inl rfl
  · refine .inr ⟨b, off, rfl, hlt, fun i hi => hc i _ ?_⟩
    rw [inK_cells, List.getElem?_map, List.getElem?_eq_getElem hi]
    rfl
theorem lit_int (x : Int) (w : World) : (Instr.buildSlice 22 1 #[(0, .int .i64 x)]).run Try.prog w = .ok (.slice (some ⟨w.heap.size, 0, none⟩) 1 1) (w.alloc (Obj.cells (inK.enc x).toArray 3)) := by kernel_rfl
end Go.Proofs.Ytcccjjghalajoaa
