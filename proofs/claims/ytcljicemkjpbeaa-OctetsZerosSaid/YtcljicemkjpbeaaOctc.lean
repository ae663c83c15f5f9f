/- The document's examples for package octets. -/
import Derived.Test.YtcljicemkjpbeaaOctb
import Derived.Test.YtcljicemkjpbeaaPlace
namespace Go.Proofs.Ytcljicemkjpbeaa
open Go.RowKit Go.Proofs
set_option linter.unusedVariables false

set_option maxHeartbeats 400000 in
theorem awake_any (w : World) :
    Calls Try.prog 13 #[] w fun e w' => e = .returned (.bool true) ∧ Below w.heap.size w w' := by
  go_enter Try.func13, Try.ntmps13
  go_wp2_with fail
  refine (signed_ok _ [255, 254] _ _ _ ?_ (by decide) (by decide) (by decide) (by decide) (by decide)).mono ?_
  · exact (Own.lit w [255, 254] (by decide)).bytes
  rintro e w' ⟨rfl, rfl⟩
  rw [show signedAt [255, 254] (0 : Int).toNat (2 : Int).toNat = -2 by decide]
  go_wp2_with fail
  refine (put_any _ [] _ _ _ (Bytes.nil _) (by decide)).mono ?_
  rw [show [] ++ putS 258 2 = [1, 2] by decide]
  rintro e w1 ⟨v, rfl, hown, hbel⟩
  have hstr := hown.bytes.str
  go_wp2_with fail
  go_ret
  exact ⟨rfl, ((Below.refl _ _).alloc (Nat.le_refl _) _).trans (hbel.mono (by simp))⟩
end Go.Proofs.Ytcljicemkjpbeaa
