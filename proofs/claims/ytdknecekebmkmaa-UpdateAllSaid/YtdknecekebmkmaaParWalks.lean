/- The walks of chapter 14's laws (gen_parown.py). -/
import Derived.Test.YtdknecekebmkmaaParOwn
import Derived.Test.YtdknecekebmkmaaParLaws1
import Derived.Test.YtdknecekebmkmaaParLaws2
import Derived.Test.YtdknecekebmkmaaParLaws3
namespace Go.Proofs.Ytdknecekebmkmaa
open Go.RowKit Go.Proofs
set_option maxRecDepth 50000
set_option linter.unusedVariables false
set_option linter.unusedSimpArgs false

theorem updateAll_walk (c : Cf) (hc : ((0 ≤ c.cl ∧ c.cl < 18446744073709551616) ∧ ∀ x ∈ [c.po, c.dm, c.p1, c.p2, c.qc, c.qa, c.qv, c.la, c.ls, c.ld, c.tm, c.md, c.kp, c.ki, c.st, c.ut, c.fl, c.og], -9223372036854775808 ≤ x ∧ x ≤ 9223372036854775807)) (v : Vc) (hv : VcIn v) (u : Int) (hu : (Lit.int .i64 u).wf = true) (f : Int) (hf : (Lit.int .i64 f).wf = true) (g : Int) (hg : (Lit.int .i64 g).wf = true) (p : Pa) (hp : PaIn p) (port : Int) (hpo : (Lit.int .i64 port).wf = true) (seq : Int) (hse : (Lit.int .i64 seq).wf = true) (w : World) :
    Calls Try.prog 3 #[.agg (cfL c).toArray, .agg (vcL v).toArray, .agg #[.int .i64 u, .int .i64 f, .int .i64 g], .agg (paL p).toArray, .int .i64 port, .int .i64 seq] w fun e w' => e = .returned (.bool true) ∧ Below w.heap.size w w' :=
  updateAll_from ownOwnP ownFol ownSay ownSam c v hv ⟨u, f, g⟩ p port seq w

theorem updateSays_walk (c : Cf) (hc : ((0 ≤ c.cl ∧ c.cl < 18446744073709551616) ∧ ∀ x ∈ [c.po, c.dm, c.p1, c.p2, c.qc, c.qa, c.qv, c.la, c.ls, c.ld, c.tm, c.md, c.kp, c.ki, c.st, c.ut, c.fl, c.og], -9223372036854775808 ≤ x ∧ x ≤ 9223372036854775807)) (v : Vc) (hv : VcIn v) (u : Int) (hu : (Lit.int .i64 u).wf = true) (f : Int) (hf : (Lit.int .i64 f).wf = true) (g : Int) (hg : (Lit.int .i64 g).wf = true) (port : Int) (hpo : (Lit.int .i64 port).wf = true) (seq : Int) (hse : (Lit.int .i64 seq).wf = true) (w : World) :
    Calls Try.prog 4 #[.agg (cfL c).toArray, .agg (vcL v).toArray, .agg #[.int .i64 u, .int .i64 f, .int .i64 g], .int .i64 port, .int .i64 seq] w fun e w' => e = .returned (.bool true) ∧ Below w.heap.size w w' :=
  updateSays_from ownOwnP ownFol ownSay ownSam c v hv ⟨u, f, g⟩ port seq w

theorem updateLine_walk {w : World} (c : Cf) (hc : ((0 ≤ c.cl ∧ c.cl < 18446744073709551616) ∧ ∀ x ∈ [c.po, c.dm, c.p1, c.p2, c.qc, c.qa, c.qv, c.la, c.ls, c.ld, c.tm, c.md, c.kp, c.ki, c.st, c.ut, c.fl, c.og], -9223372036854775808 ≤ x ∧ x ≤ 9223372036854775807)) (v : Value) (l : List Int) (hI : Ids w v l) (hl : l.length * 8 ≤ 140737488351232 ∧ ∀ z ∈ l, 0 ≤ z ∧ z < 18446744073709551616) :
    Calls Try.prog 5 #[.agg (cfL c).toArray, v] w fun e w' => e = .returned (.bool true) ∧ Below w.heap.size w w' :=
  updateLine_from ownOwnP ownFol ownSay ownSam c v l w hI
end Go.Proofs.Ytdknecekebmkmaa
