/- The walks of chapter 17's laws (gen_delown.py). -/
import Derived.Test.YtnlmncpiccehjaaDelOwn2
import Derived.Test.YtnlmncpiccehjaaDelLaws2
import Derived.Test.YtnlmncpiccehjaaDelLaws3
import Derived.Test.YtnlmncpiccehjaaDelLaws4
import Derived.Test.YtnlmncpiccehjaaOpenOp17
namespace Go.Proofs.Ytnlmncpiccehjaa
open Go.RowKit Go.Proofs
set_option maxRecDepth 50000
set_option linter.unusedVariables false
set_option linter.unusedSimpArgs false

theorem delayPlays_walk {w : World} (a : Int) (ha : (Lit.int .u64 a).wf = true) (a' : Int) (ha' : (Lit.int .i64 a').wf = true) (b : Int) (hb : (Lit.int .i64 b).wf = true) (v : Value) (l : List Op17) (hR : op7K.Reads w v l) (hl : l.length * 216 ≤ 140737488351232) (hall : ∀ x ∈ l, Ok17 x) :
    Calls Try.prog 3 #[.agg #[.int .u64 a, .int .i64 a'], .int .i64 b, v] w fun e w' => e = .returned (.bool true) ∧ Below w.heap.size w w' :=
  delayPlays_from ownNewX ownReq ownSent ownResp ownClrX ownAns (a, a') (u64_of_wf ha) b v l w hR (fun x hx => ⟨(hall x hx).1.1, (hall x hx).2.2.1⟩)

theorem delayRound_walk (a : Int) (ha : (Lit.int .u64 a).wf = true) (a' : Int) (ha' : (Lit.int .i64 a').wf = true) (b : Int) (hb : (Lit.int .u64 b).wf = true) (b' : Int) (hb' : (Lit.int .i64 b').wf = true) (n : Int) (hn : (Lit.int .i64 n).wf = true) (s : Int) (hs : (Lit.int .i64 s).wf = true) (t : Int) (ht : (Lit.int .i64 t).wf = true) (c : Int) (hc : (Lit.int .i64 c).wf = true) (o : Int) (ho : (Lit.int .u64 o).wf = true) (o' : Int) (ho' : (Lit.int .i64 o').wf = true) (w : World) :
    Calls Try.prog 4 #[.agg #[.int .u64 a, .int .i64 a'], .agg #[.int .u64 b, .int .i64 b'], .int .i64 n, .int .i64 s, .int .i64 t, .int .i64 c, .agg #[.int .u64 o, .int .i64 o']] w fun e w' => e = .returned (.bool true) ∧ Below w.heap.size w w' :=
  delayRound_from ownNewX ownReq ownSent ownResp ownAns (a, a') (b, b') (u64_of_wf ha) (u64_of_wf hb) n s t c (i64_of_wf hn) (o, o') w

theorem delayNext_walk (a : Int) (ha : (Lit.int .u64 a).wf = true) (a' : Int) (ha' : (Lit.int .i64 a').wf = true) (n : Int) (hn : (Lit.int .i64 n).wf = true) (s : Int) (hs : (Lit.int .i64 s).wf = true) (t : Int) (ht : (Lit.int .i64 t).wf = true) (w : World) :
    Calls Try.prog 5 #[.agg #[.int .u64 a, .int .i64 a'], .int .i64 n, .int .i64 s, .int .i64 t] w fun e w' => e = .returned (.bool true) ∧ Below w.heap.size w w' :=
  delayNext_from ownNewX ownReq ownSent ownResp ownAns (a, a') (u64_of_wf ha) n s t w

theorem delayClears_walk (a : Int) (ha : (Lit.int .u64 a).wf = true) (a' : Int) (ha' : (Lit.int .i64 a').wf = true) (n : Int) (hn : (Lit.int .i64 n).wf = true) (w : World) :
    Calls Try.prog 6 #[.agg #[.int .u64 a, .int .i64 a'], .int .i64 n] w fun e w' => e = .returned (.bool true) ∧ Below w.heap.size w w' :=
  delayClears_from ownNewX ownReq ownSent ownResp ownClrX ownAns (a, a') (u64_of_wf ha) n (i64_of_wf hn) w

theorem delayApart_walk (a : Int) (ha : (Lit.int .u64 a).wf = true) (a' : Int) (ha' : (Lit.int .i64 a').wf = true) (b : Int) (hb : (Lit.int .u64 b).wf = true) (b' : Int) (hb' : (Lit.int .i64 b').wf = true) (n : Int) (hn : (Lit.int .i64 n).wf = true) (s : Int) (hs : (Lit.int .i64 s).wf = true) (t : Int) (ht : (Lit.int .i64 t).wf = true) (w : World) :
    Calls Try.prog 7 #[.agg #[.int .u64 a, .int .i64 a'], .agg #[.int .u64 b, .int .i64 b'], .int .i64 n, .int .i64 s, .int .i64 t] w fun e w' => e = .returned (.bool true) ∧ Below w.heap.size w w' :=
  delayApart_from ownNewX ownReq ownSent ownResp ownAns (a, a') (b, b') (u64_of_wf ha) (u64_of_wf hb) n s t w
end Go.Proofs.Ytnlmncpiccehjaa
