/- The document's own answers of chapter 16 (gen_seqref.py). -/
import Derived.Test.YtnlmncpiccehjaaSeq
import Derived.Test.YtnlmncpiccehjaaStampRef
import Derived.Test.YtnlmncpiccehjaaBuild
namespace Go.Proofs.Ytnlmncpiccehjaa
open Go.RowKit Go.Proofs
set_option maxRecDepth 50000
set_option linter.unusedVariables false
set_option linter.unusedSimpArgs false

set_option maxHeartbeats 800000 in
theorem refMod_any (v : Int) (w : World) : Calls Try.prog 24 #[.int .i64 v] w fun e w' => e = .returned (.int .i64 (v % 65536)) ∧ w = w' := by
  have hm : bits .and .i64 v 65535 = v % 65536 := and_mask v 16 (by decide)
  go_enter Try.func24, Try.ntmps24
  go_wp2
  go_ret
  exact ⟨rfl, rfl⟩

theorem addI_in (a b : Int) : -9223372036854775808 ≤ addI a b ∧ addI a b ≤ 9223372036854775807 := by unfold addI; omega



end Go.Proofs.Ytnlmncpiccehjaa
