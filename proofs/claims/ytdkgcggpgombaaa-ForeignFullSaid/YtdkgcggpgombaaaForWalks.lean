/- The walks of chapter 12's laws: from the contracts, and these from the program's own. -/
import Derived.Test.YtdkgcggpgombaaaForLaws1
import Derived.Test.YtdkgcggpgombaaaForLaws2
import Derived.Test.YtdkgcggpgombaaaForLaws3
import Derived.Test.YtdkgcggpgombaaaForLaws4
import Derived.Test.YtdkgcggpgombaaaForOwn5
namespace Go.Proofs.Ytdkgcggpgombaaa
open Go.RowKit Go.Proofs
set_option maxRecDepth 50000
set_option linter.unusedVariables false

theorem foreignTwice_walk (win : Int) (h0 : (Lit.int .i64 win).wf = true) (first : Int) (h1 : (Lit.int .i64 first).wf = true) (gap : Int) (h2 : (Lit.int .i64 gap).wf = true) (later : Int) (h3 : (Lit.int .i64 later).wf = true) (w : World) :
    Calls Try.prog 3 #[.int .i64 win, .int .i64 first, .int .i64 gap, .int .i64 later] w fun e w' => e = .returned (.bool true) ∧ Below w.heap.size w w' :=
  foreignTwice_from ownNewF ownHearF ownQualF ownBestF ownRecF ownAgeF win first gap later w

theorem foreignOld_walk (seq : Int) (h0 : (Lit.int .i64 seq).wf = true) (back : Int) (h1 : (Lit.int .i64 back).wf = true) (now : Int) (h2 : (Lit.int .i64 now).wf = true) (w : World) :
    Calls Try.prog 6 #[.int .i64 seq, .int .i64 back, .int .i64 now] w fun e w' => e = .returned (.bool true) ∧ Below w.heap.size w w' :=
  foreignOld_from ownNewF ownHearF ownQualF ownBestF ownRecF seq back now w

theorem foreignBest_walk {w : World} (v : Value) (zs : List Int) (hI : Ints w v zs) (hz : zs.length * 8 ≤ 140737488351232) :
    Calls Try.prog 5 #[v] w fun e w' => e = .returned (.bool true) ∧ Below w.heap.size w w' :=
  foreignBest_from ownNewF ownHearF ownQualF ownBestF ownRecF ownClearF v zs w hI

theorem foreignFull_walk {w : World} (v : Value) (zs : List Int) (hI : Ids w v zs) (hz : zs.length * 8 ≤ 140737488351232 ∧ ∀ z ∈ zs, 0 ≤ z ∧ z < 18446744073709551616) (again : Int) (h1 : (Lit.int .i64 again).wf = true) :
    Calls Try.prog 4 #[v, .int .i64 again] w fun e w' => e = .returned (.bool true) ∧ Below w.heap.size w w' :=
  foreignFull_from ownNewF ownHearF ownQualF ownBestF ownRecF v zs again w hI hz.2
end Go.Proofs.Ytdkgcggpgombaaa
