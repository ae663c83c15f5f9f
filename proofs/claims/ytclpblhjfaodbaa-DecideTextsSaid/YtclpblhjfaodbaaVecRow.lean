/- Rows of vectors: carillonlaw00.Vectors (a copy). -/
import Derived.Test.YtclpblhjfaodbaaRowG
import Derived.Test.YtclpblhjfaodbaaVecVal
namespace Go.Proofs.Ytclpblhjfaodbaa
open Go.RowKit Go.Proofs
set_option maxRecDepth 50000
set_option linter.unusedVariables false
set_option linter.unusedSimpArgs false

def vecK : RowK Vc := ⟨vcL, 11, by decide, vcL_length, vcL_one⟩
theorem vec_info : (Try.prog.info? 28).map (fun i => (i.zero, i.size, i.bytes)) = some (some (.agg (vcL zeroV).toArray), vecK.n, 88) := by kernel_rfl

set_option maxHeartbeats 800000 in
theorem vectors00_any (v : Value) (l : List Vc) (w : World) (hB : vecK.Reads w v l) (hl : l.length * 88 ≤ 140737488355328) :
    Calls Try.prog 12 #[v] w fun e w' => ∃ v', e = .returned v' ∧ vecK.Own 28 w' w.heap.size v' l ∧ Below w.heap.size w w' := by
  have hn := RowK.Own.nil vecK 28 w w.heap.size
  go_enter Try.func12, Try.ntmps12
  go_wp2_with (at_builtin; refine RowK.wpList_append vecK Try.underlying30 vec_info rfl (o := ⟨some _, _, _, _, _, _⟩) rfl _ _ rfl rfl w.heap.size _ _ [] l rfl rfl hn hB ?_ ?_ (Nat.le_refl _) ?_; (simp; omega); (simp; omega); intro v' w' own' bel'; rw [List.nil_append] at own')
  go_ret
  exact ⟨v', rfl, own', bel'⟩
end Go.Proofs.Ytclpblhjfaodbaa
