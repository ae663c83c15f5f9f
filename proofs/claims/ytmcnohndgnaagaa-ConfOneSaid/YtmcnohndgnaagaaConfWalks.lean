/- carillonlaw10's three laws, by the program's own contracts. -/
import Derived.Test.YtmcnohndgnaagaaConfParse
import Derived.Test.YtmcnohndgnaagaaConfLaws1
import Derived.Test.YtmcnohndgnaagaaConfLaws2
import Derived.Test.YtmcnohndgnaagaaConfLaws3
import Derived.Test.YtmcnohndgnaagaaOpen
namespace Go.Proofs.Ytmcnohndgnaagaa
open Go.RowKit Go.Proofs
set_option maxRecDepth 50000
set_option linter.unusedVariables false
set_option linter.unusedSimpArgs false

set_option maxRecDepth 100000 in
set_option maxHeartbeats 4000000 in
theorem confLines_gt (cl : Int) (t : List UInt8) (hl : 1000 < t.length) (hu : t.length ≤ 140737488351232) (at' v : Int) (w : World) :
    Calls Try.prog 3 #[.int .u64 cl, sv t, .int .i64 at', .int .i64 v] w fun e w' => e = .returned (.bool true) ∧ Below w.heap.size w w' := by
  have hI : (1000 : Int) < (t.length : Int) := by omega
  go_enter Try.func3, Try.ntmps3
  go_wp2_with fail
  refine (awake10_from ownDef ownChk ownPar _).mono ?_
  rintro e w1 ⟨rfl, hb⟩
  go_wp2_with fail
  go_ret
  exact ⟨rfl, hb⟩

theorem confLines_walk (a0 : Int) (w0 : (Lit.int .u64 a0).wf = true) (m : ByteArray) (wm : m.size ≤ maxLen) (rm : m.data.toList.length ≤ reachBytes) (a2 : Int) (w2 : (Lit.int .i64 a2).wf = true) (a3 : Int) (w3 : (Lit.int .i64 a3).wf = true) (w : World) :
    Calls Try.prog 3 #[.int .u64 a0, .string m, .int .i64 a2, .int .i64 a3] w fun e w' => e = .returned (.bool true) ∧ Below w.heap.size w w' := by
  obtain ⟨x, hx⟩ : ∃ x, m.data.toList = x := ⟨_, rfl⟩
  have hm : m = ⟨x.toArray⟩ := by rw [← hx]
  rw [hx] at rm
  subst hm
  have hr : reachBytes = 140737488351232 := rfl
  by_cases h : x.length ≤ 1000
  · exact confLines_le ownDef ownChk ownPar a0 (u64_of_wf w0) x h a2 a3 w
  · exact confLines_gt a0 x (by omega) (by omega) a2 a3 w

theorem confLimits_walk (w : World) :
    Calls Try.prog 4 #[] w fun e w' => e = .returned (.bool true) ∧ Below w.heap.size w w' := confLimits_from ownDef ownChk ownPar w

theorem confOne_walk (a0 : Int) (w0 : (Lit.int .u64 a0).wf = true) (a1 : Int) (w1 : (Lit.int .i64 a1).wf = true) (a2 : Int) (w2 : (Lit.int .i64 a2).wf = true) (w : World) :
    Calls Try.prog 5 #[.int .u64 a0, .int .i64 a1, .int .i64 a2] w fun e w' => e = .returned (.bool true) ∧ Below w.heap.size w w' := confOne_from ownDef ownChk ownPar a0 (u64_of_wf w0) a1 a2 w
end Go.Proofs.Ytmcnohndgnaagaa
