/- The walks of chapter 15's laws: from the contracts, and these from the program's own. -/
import Derived.Test.YtgmigoimhdlmcaaTimLaws1
import Derived.Test.YtgmigoimhdlmcaaTimLaws2
import Derived.Test.YtgmigoimhdlmcaaTimLaws3
import Derived.Test.YtgmigoimhdlmcaaTimOwn
namespace Go.Proofs.Ytgmigoimhdlmcaa
open Go.RowKit Go.Proofs
set_option maxRecDepth 50000
set_option linter.unusedVariables false

theorem timerPlays_walk {w : World} (v : Value) (zs : List Int) (hI : Ints w v zs) (hz : zs.length * 8 ≤ 140737488351232) (u : Value) (ss : List Int) (hJ : Ints w u ss) (hs : ss.length * 8 ≤ 140737488351232) :
    Calls Try.prog 3 #[v, u] w fun e w' => e = .returned (.bool true) ∧ Below w.heap.size w w' :=
  timerPlays_from ownNewT ownTickT ownStartT ownLeftT ownStopT v u zs ss w hI hJ

theorem timerOnce_walk (n : Int) (h0 : (Lit.int .i64 n).wf = true) (more : Int) (h1 : (Lit.int .i64 more).wf = true) (w : World) :
    Calls Try.prog 4 #[.int .i64 n, .int .i64 more] w fun e w' => e = .returned (.bool true) ∧ Below w.heap.size w w' :=
  timerOnce_from ownNewT ownTickT ownStartT ownLeftT n more w

theorem timerStops_walk (n : Int) (h0 : (Lit.int .i64 n).wf = true) (at' : Int) (h1 : (Lit.int .i64 at').wf = true) (again : Int) (h2 : (Lit.int .i64 again).wf = true) (w : World) :
    Calls Try.prog 5 #[.int .i64 n, .int .i64 at', .int .i64 again] w fun e w' => e = .returned (.bool true) ∧ Below w.heap.size w w' :=
  timerStops_from ownNewT ownTickT ownStartT ownLeftT ownStopT n at' again w

theorem timerMany_walk {w : World} (v : Value) (zs : List Int) (hI : Ints w v zs) (hz : zs.length * 8 ≤ 140737488351232) :
    Calls Try.prog 6 #[v] w fun e w' => e = .returned (.bool true) ∧ Below w.heap.size w w' :=
  timerMany_from ownNewT ownTickT ownStartT v zs w hI
end Go.Proofs.Ytgmigoimhdlmcaa
