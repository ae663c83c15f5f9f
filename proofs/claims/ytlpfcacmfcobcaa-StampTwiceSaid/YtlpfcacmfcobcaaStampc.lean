/- The document's examples for package stamp. -/
import Derived.Test.YtlpfcacmfcobcaaStampb
import Derived.Test.YtlpfcacmfcobcaaPlace
namespace Go.Proofs.Ytlpfcacmfcobcaa
open Go.RowKit Go.Proofs
set_option linter.unusedVariables false

set_option maxHeartbeats 400000 in
theorem awake02_any (w : World) :
    Calls Try.prog 18 #[] w fun e w' => e = .returned (.bool true) ∧ w = w' := by
  go_enter Try.func18, Try.ntmps18
  go_wp2_with fail
  refine (ticks_any _ _).mono ?_
  rintro e w' ⟨rfl, rfl⟩
  rw [show eighI (-3) = 1 by decide]
  go_wp2_with fail
  refine (nanos_any _ _).mono ?_
  rintro e w' ⟨rfl, rfl⟩
  rw [show 125000000 * eighI 1 = 2000000000 by decide]
  go_wp2_with fail
  refine (floor_any _ _ (by decide) (by decide)).mono ?_
  rintro e w' ⟨rfl, rfl⟩
  rw [show (-1 : Int) / 65536 = -1 by decide]
  go_wp2_with fail
  refine (may_yes _ _ (by decide)).mono ?_
  rintro e w' ⟨rfl, rfl⟩
  go_wp2_with fail
  refine (may_no _ _ (by decide)).mono ?_
  rintro e w' ⟨rfl, rfl⟩
  go_wp2_with fail
  go_ret
  exact ⟨rfl, rfl⟩
end Go.Proofs.Ytlpfcacmfcobcaa
