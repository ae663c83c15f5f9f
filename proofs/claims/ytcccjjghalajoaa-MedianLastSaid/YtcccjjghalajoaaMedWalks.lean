/- The walks of chapter 19's laws: from the contracts, and these from the program's own (gen_medown.py). -/
import Derived.Test.YtcccjjghalajoaaMedLaws3
import Derived.Test.YtcccjjghalajoaaMedOwn2
namespace Go.Proofs.Ytcccjjghalajoaa
open Go.RowKit Go.Proofs
set_option maxRecDepth 50000
set_option linter.unusedVariables false
set_option linter.unusedSimpArgs false

theorem medianPlays_walk {w : World} (n : Int) (h0 : (Lit.int .i64 n).wf = true) (v : Value) (zs : List Int) (hI1 : Ints w v zs) (hz1 : zs.length * 8 ≤ 140737488351232) (cl : Int) (h2 : (Lit.int .i64 cl).wf = true) :
    Calls Try.prog 3 #[.int .i64 n, v, .int .i64 cl] w fun e w' => e = .returned (.bool true) ∧ Below w.heap.size w w' :=
  medianPlays_from ownNewM ownPutM ownMedM ownValM ownClrM n v zs cl w hI1

theorem medianMiddle_walk {w : World} (n : Int) (h0 : (Lit.int .i64 n).wf = true) (v : Value) (zs : List Int) (hI1 : Ints w v zs) (hz1 : zs.length * 8 ≤ 140737488351232) :
    Calls Try.prog 4 #[.int .i64 n, v] w fun e w' => e = .returned (.bool true) ∧ Below w.heap.size w w' :=
  medianMiddle_from ownNewM ownPutM ownValM n v zs w hI1

theorem medianOdd_walk {w : World} (base : Int) (h0 : (Lit.int .i64 base).wf = true) (v : Value) (zs : List Int) (hI1 : Ints w v zs) (hz1 : zs.length * 8 ≤ 140737488351232) (far : Int) (h2 : (Lit.int .i64 far).wf = true) (at' : Int) (h3 : (Lit.int .i64 at').wf = true) :
    Calls Try.prog 5 #[.int .i64 base, v, .int .i64 far, .int .i64 at'] w fun e w' => e = .returned (.bool true) ∧ Below w.heap.size w w' :=
  medianOdd_from ownNewM ownPutM ownMedM base v zs far at' w hI1

theorem medianLast_walk {w : World} (n : Int) (h0 : (Lit.int .i64 n).wf = true) (v : Value) (zs : List Int) (hI1 : Ints w v zs) (hz1 : zs.length * 8 ≤ 140737488351232) (u : Value) (ys : List Int) (hI2 : Ints w u ys) (hz2 : ys.length * 8 ≤ 140737488351232) :
    Calls Try.prog 6 #[.int .i64 n, v, u] w fun e w' => e = .returned (.bool true) ∧ Below w.heap.size w w' :=
  medianLast_from ownNewM ownPutM ownValM n v u zs ys w hI1 hI2

theorem medianOrder_walk {w : World} (v : Value) (zs : List Int) (hI0 : Ints w v zs) (hz0 : zs.length * 8 ≤ 140737488351232) (by' : Int) (h1 : (Lit.int .i64 by').wf = true) :
    Calls Try.prog 7 #[v, .int .i64 by'] w fun e w' => e = .returned (.bool true) ∧ Below w.heap.size w w' :=
  medianOrder_from ownNewM ownPutM ownMedM v zs by' w hI0

end Go.Proofs.Ytcccjjghalajoaa
