/- The walks of chapter 18's laws (gen_peeown.py). -/
import Derived.Test.YtelonfmmcpgodaaPeeOwn2
import Derived.Test.YtelonfmmcpgodaaPeeOwn3
import Derived.Test.YtelonfmmcpgodaaPeeLaws1
namespace Go.Proofs.Ytelonfmmcpgodaa
open Go.RowKit Go.Proofs
set_option maxRecDepth 50000
set_option linter.unusedVariables false
set_option linter.unusedSimpArgs false

theorem peerRound_walk (a : Int) (ha : (Lit.int .u64 a).wf = true) (a' : Int) (ha' : (Lit.int .i64 a').wf = true) (b : Int) (hb : (Lit.int .u64 b).wf = true) (b' : Int) (hb' : (Lit.int .i64 b').wf = true) (n : Int) (hn : (Lit.int .i64 n).wf = true) (t : Int) (ht : (Lit.int .i64 t).wf = true) (c : Int) (hc : (Lit.int .i64 c).wf = true) (d : Int) (hd : (Lit.int .i64 d).wf = true) (s : Int) (hs : (Lit.int .i64 s).wf = true) (w : World) :
    Calls Try.prog 3 #[.agg #[.int .u64 a, .int .i64 a'], .agg #[.int .u64 b, .int .i64 b'], .int .i64 n, .int .i64 t, .int .i64 c, .int .i64 d, .int .i64 s] w fun e w' => e = .returned (.bool true) ∧ Below w.heap.size w w' :=
  peerRound_from ownNewP ownReqP ownSentP ownResP ownFolP ownAnsP ownFupP (a, a') (b, b') (u64_of_wf ha) (u64_of_wf hb) n t c d s (i64_of_wf hn) w

theorem peerOnce_walk (a : Int) (ha : (Lit.int .u64 a).wf = true) (a' : Int) (ha' : (Lit.int .i64 a').wf = true) (b : Int) (hb : (Lit.int .u64 b).wf = true) (b' : Int) (hb' : (Lit.int .i64 b').wf = true) (n : Int) (hn : (Lit.int .i64 n).wf = true) (o : Int) (ho : (Lit.int .u64 o).wf = true) (o' : Int) (ho' : (Lit.int .i64 o').wf = true) (w : World) :
    Calls Try.prog 4 #[.agg #[.int .u64 a, .int .i64 a'], .agg #[.int .u64 b, .int .i64 b'], .int .i64 n, .agg #[.int .u64 o, .int .i64 o']] w fun e w' => e = .returned (.bool true) ∧ Below w.heap.size w w' :=
  peerOnce_from ownNewP ownReqP ownSentP ownResP ownFolP ownAnsP ownFupP (a, a') (b, b') (u64_of_wf ha) (u64_of_wf hb) n (o, o') w

end Go.Proofs.Ytelonfmmcpgodaa
