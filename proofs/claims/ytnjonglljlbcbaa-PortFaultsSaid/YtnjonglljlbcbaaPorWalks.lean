/- The walks of chapter 21's laws: from the contracts, and these from the program's own (gen_porown.py). -/
import Derived.Test.YtnjonglljlbcbaaPorLaws1
import Derived.Test.YtnjonglljlbcbaaPorLaws2
import Derived.Test.YtnjonglljlbcbaaPorOwn
namespace Go.Proofs.Ytnjonglljlbcbaa
open Go.RowKit Go.Proofs
set_option maxRecDepth 50000
set_option linter.unusedVariables false
set_option linter.unusedSimpArgs false

theorem portAll_walk (s : Int) (h0 : (Lit.int .i64 s).wf = true) (ev : Int) (h1 : (Lit.int .i64 ev).wf = true) (d : Int) (h2 : (Lit.int .i64 d).wf = true) (same : Bool) (so : Bool) (w : World) :
    Calls Try.prog 3 #[.int .i64 s, .int .i64 ev, .int .i64 d, .bool same, .bool so] w fun e w' => e = .returned (.bool true) ∧ Below w.heap.size w w' :=
  portAll_from ownNextP ownDecP ownHearsP ownFollP ownAliveP ownNameP s ev d same so w 

theorem portTable_walk  (w : World) :
    Calls Try.prog 4 #[] w fun e w' => e = .returned (.bool true) ∧ Below w.heap.size w w' :=
  portTable_from ownNextP ownDecP ownHearsP ownFollP ownAliveP ownNameP  w 

theorem portStates_walk {w : World} (v : Value) (zs : List Int) (hI0 : Ints w v zs) (hz0 : zs.length * 8 ≤ 140737488351232) (so : Bool) :
    Calls Try.prog 5 #[v, .bool so] w fun e w' => e = .returned (.bool true) ∧ Below w.heap.size w w' :=
  portStates_from ownNextP ownDecP ownAliveP ownNameP v zs so w hI0

theorem portFaults_walk {w : World} (v : Value) (zs : List Int) (hI0 : Ints w v zs) (hz0 : zs.length * 8 ≤ 140737488351232) (so : Bool) :
    Calls Try.prog 6 #[v, .bool so] w fun e w' => e = .returned (.bool true) ∧ Below w.heap.size w w' :=
  portFaults_from ownNextP ownNameP ownAliveP v zs so w hI0

end Go.Proofs.Ytnjonglljlbcbaa
