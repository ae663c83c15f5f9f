/- The walks of chapter 16's laws (gen_seqown.py). -/
import Derived.Test.YtmcjbidfogoonaaSeqOwn2
import Derived.Test.YtmcjbidfogoonaaSeqLaws2
import Derived.Test.YtmcjbidfogoonaaSeqLaws3
import Derived.Test.YtmcjbidfogoonaaOpenOp16
namespace Go.Proofs.Ytmcjbidfogoonaa
open Go.RowKit Go.Proofs
set_option maxRecDepth 50000
set_option linter.unusedVariables false
set_option linter.unusedSimpArgs false

theorem seqPlays_walk {w : World} (a : Int) (wa : (Lit.int .i64 a).wf = true) (b : Int) (wb : (Lit.int .i64 b).wf = true) (v : Value) (l : List Op16) (hR : opK.Reads w v l) (hl : l.length * 200 ≤ 140737488351232) (hall : ∀ x ∈ l, Ok16 x) :
    Calls Try.prog 3 #[.int .i64 a, .int .i64 b, v] w fun e w' => e = .returned (.bool true) ∧ Below w.heap.size w w' :=
  seqPlays_from ownNewS ownSync ownFoll ownClrS ownNext ownNewer a b (i64_of_wf wa) (i64_of_wf wb) v l w hR (fun x hx => (hall x hx).1.1)

theorem seqSteps_walk (at' : Int) (h0 : (Lit.int .i64 at').wf = true) (st : Int) (h1 : (Lit.int .i64 st).wf = true) (c : Int) (h2 : (Lit.int .i64 c).wf = true) (d : Int) (h3 : (Lit.int .i64 d).wf = true) (a : Int) (ha : (Lit.int .u64 a).wf = true) (a' : Int) (ha' : (Lit.int .i64 a').wf = true) (n : Int) (hn : (Lit.int .i64 n).wf = true) (w : World) :
    Calls Try.prog 4 #[.int .i64 at', .int .i64 st, .int .i64 c, .int .i64 d, .agg #[.int .u64 a, .int .i64 a'], .int .i64 n] w fun e w' => e = .returned (.bool true) ∧ Below w.heap.size w w' :=
  seqSteps_from ownNewS ownSync ownFoll ownNext ownNewer at' st c d a a' (u64_of_wf ha) n w

theorem seqApart_walk (n : Int) (hn : (Lit.int .i64 n).wf = true) (m : Int) (hm : (Lit.int .i64 m).wf = true) (a : Int) (ha : (Lit.int .u64 a).wf = true) (a' : Int) (ha' : (Lit.int .i64 a').wf = true) (b : Int) (hb : (Lit.int .u64 b).wf = true) (b' : Int) (hb' : (Lit.int .i64 b').wf = true) (w : World) :
    Calls Try.prog 5 #[.int .i64 n, .int .i64 m, .agg #[.int .u64 a, .int .i64 a'], .agg #[.int .u64 b, .int .i64 b']] w fun e w' => e = .returned (.bool true) ∧ Below w.heap.size w w' :=
  seqApart_from ownNewS ownSync ownFoll ownNext ownNewer n m a a' (u64_of_wf ha) b b' (u64_of_wf hb) w

theorem seqOrder_walk (a : Int) (wa : (Lit.int .i64 a).wf = true) (b : Int) (wb : (Lit.int .i64 b).wf = true) (w : World) :
    Calls Try.prog 6 #[.int .i64 a, .int .i64 b] w fun e w' => e = .returned (.bool true) ∧ Below w.heap.size w w' :=
  seqOrder_from ownNewS ownSync ownFoll ownNext ownNewer a b w

theorem seqMany_walk {w : World} (a : Int) (wa : (Lit.int .i64 a).wf = true) (v : Value) (zs : List Int) (hI : Ints w v zs) (hz : zs.length * 8 ≤ 140737488351232) (u : Value) (bs : List Bool) (hJ : boK.Reads w u bs) :
    Calls Try.prog 7 #[.int .i64 a, v, u] w fun e w' => e = .returned (.bool true) ∧ Below w.heap.size w w' :=
  seqMany_from ownNewS ownSync ownFoll ownNext ownNewer a v zs u bs w hI hJ

theorem seqLatest_walk (n : Int) (wn : (Lit.int .i64 n).wf = true) (cl : Bool) (w : World) :
    Calls Try.prog 8 #[.int .i64 n, .bool cl] w fun e w' => e = .returned (.bool true) ∧ Below w.heap.size w w' :=
  seqLatest_from ownNewS ownSync ownFoll ownNext ownNewer ownClrS n cl w
end Go.Proofs.Ytmcjbidfogoonaa
