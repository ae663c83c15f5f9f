/- The walks of chapter 24's laws: from the contracts, and these from the program's own (gen_oscown.py). -/
import Derived.Test.YtelgdfcpccamnaaOscLaws1
import Derived.Test.YtelgdfcpccamnaaOscLaws2
import Derived.Test.YtelgdfcpccamnaaOscOwn
namespace Go.Proofs.Ytelgdfcpccamnaa
open Go.RowKit Go.Proofs
set_option maxRecDepth 50000
set_option linter.unusedVariables false
set_option linter.unusedSimpArgs false

theorem oscSteps_walk (l : Int) (h0 : (Lit.int .i64 l).wf = true) (r : Int) (h1 : (Lit.int .i64 r).wf = true) (t : Int) (h2 : (Lit.int .i64 t).wf = true) (b : Int) (h3 : (Lit.int .i64 b).wf = true) (y : Int) (h4 : (Lit.int .i64 y).wf = true) (w : World) :
    Calls Try.prog 4 #[.int .i64 l, .int .i64 r, .int .i64 t, .int .i64 b, .int .i64 y] w fun e w' => e = .returned (.bool true) ∧ Below w.heap.size w w' :=
  oscSteps_from ownNewO ownReadO ownRateO ownFreqO ownStepO l r t b y (i64_of_wf h1) w

theorem oscSteers_walk (l : Int) (h0 : (Lit.int .i64 l).wf = true) (r : Int) (h1 : (Lit.int .i64 r).wf = true) (t : Int) (h2 : (Lit.int .i64 t).wf = true) (y : Int) (h3 : (Lit.int .i64 y).wf = true) (w : World) :
    Calls Try.prog 5 #[.int .i64 l, .int .i64 r, .int .i64 t, .int .i64 y] w fun e w' => e = .returned (.bool true) ∧ Below w.heap.size w w' :=
  oscSteers_from ownNewO ownReadO ownRateO ownFreqO ownSetFO l r t y w

theorem oscSmall_walk (l : Int) (h0 : (Lit.int .i64 l).wf = true) (r : Int) (h1 : (Lit.int .i64 r).wf = true) (f : Int) (h2 : (Lit.int .i64 f).wf = true) (t : Int) (h3 : (Lit.int .i64 t).wf = true) (w : World) :
    Calls Try.prog 6 #[.int .i64 l, .int .i64 r, .int .i64 f, .int .i64 t] w fun e w' => e = .returned (.bool true) ∧ Below w.heap.size w w' :=
  oscSmall_from ownNewO ownReadO ownRateO ownFreqO ownSetFO l r f t (i64_of_wf h1) (i64_of_wf h2) w

theorem oscPlays_walk {w : World} (l : Int) (h0 : (Lit.int .i64 l).wf = true) (r : Int) (h1 : (Lit.int .i64 r).wf = true) (v : Value) (os : List Op24) (hR : op24K.Reads w v os) (hz : os.length * 24 ≤ 140737488351232) (hall : ∀ x ∈ os, Op24In x) :
    Calls Try.prog 3 #[.int .i64 l, .int .i64 r, v] w fun e w' => e = .returned (.bool true) ∧ Below w.heap.size w w' :=
  oscPlays_from ownNewO ownReadO ownRateO ownFreqO ownSetRO ownSetFO ownStepO l r (i64_of_wf h0) (i64_of_wf h1) v os w hR hall

end Go.Proofs.Ytelgdfcpccamnaa
