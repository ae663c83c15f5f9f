/- A vector alone, made for an append. -/
import Derived.Test.YtclpblhjfaodbaaVecRow
import Derived.Test.YtclpblhjfaodbaaLit
namespace Go.Proofs.Ytclpblhjfaodbaa
open Go.RowKit Go.Proofs
set_option maxRecDepth 50000
set_option linter.unusedVariables false
set_option linter.unusedSimpArgs false

theorem lit_vec (r : Vc) (w : World) : (Instr.buildSlice 30 1 #[(0, .agg (vcL r).toArray)]).run Try.prog w = .ok (.slice (some ⟨w.heap.size, 0, none⟩) 1 1) (w.alloc (Obj.cells (vcL r).toArray 28)) := by kernel_rfl
end Go.Proofs.Ytclpblhjfaodbaa
