/- The walks of chapter 11's laws: from the contracts, and these from the program's own. -/
import Derived.Test.YtkhgkngapgaigaaVecLaws1
import Derived.Test.YtkhgkngapgaigaaVecLaws2
import Derived.Test.YtkhgkngapgaigaaVecLaws3
import Derived.Test.YtkhgkngapgaigaaVecLaws4
import Derived.Test.YtkhgkngapgaigaaVecOwn2
namespace Go.Proofs.Ytkhgkngapgaigaa
open Go.RowKit Go.Proofs
set_option maxRecDepth 50000
set_option linter.unusedVariables false

theorem compareBack_walk (a : Vc) (ha : VcIn a) (b : Vc) (hb : VcIn b) (w : World) :
    Calls Try.prog 3 #[.agg (vcL a).toArray, .agg (vcL b).toArray] w fun e w' => e = .returned (.bool true) ∧ Below w.heap.size w w' :=
  compareBack_from ownGrand ownComp ownOwn ownBest.none a b ha hb w

theorem compareOrder_walk (a : Vc) (ha : VcIn a) (b : Vc) (hb : VcIn b) (c : Vc) (hc : VcIn c) (w : World) :
    Calls Try.prog 4 #[.agg (vcL a).toArray, .agg (vcL b).toArray, .agg (vcL c).toArray] w fun e w' => e = .returned (.bool true) ∧ Below w.heap.size w w' :=
  compareOrder_from ownGrand ownComp ownOwn ownBest.none a b c ha hb hc w

theorem compareSteps_walk (a : Vc) (ha : VcIn a) (more : Int) (hm : (Lit.int .i64 more).wf = true) (c : Int) (hc : (Lit.int .u64 c).wf = true) (p : Int) (hp : (Lit.int .i64 p).wf = true) (w : World) :
    Calls Try.prog 5 #[.agg (vcL a).toArray, .int .i64 more, .agg #[.int .u64 c, .int .i64 p]] w fun e w' => e = .returned (.bool true) ∧ Below w.heap.size w w' :=
  compareSteps_from ownGrand ownComp ownOwn ownBest.none a ha more c p (u64_of_wf hc) (i64_of_wf hp) w

theorem compareRing_walk (a : Vc) (ha : VcIn a) (sc : Int) (h1 : (Lit.int .u64 sc).wf = true) (sp : Int) (h2 : (Lit.int .i64 sp).wf = true) (rc : Int) (h3 : (Lit.int .u64 rc).wf = true) (rp : Int) (h4 : (Lit.int .i64 rp).wf = true) (w : World) :
    Calls Try.prog 8 #[.agg (vcL a).toArray, .agg #[.int .u64 sc, .int .i64 sp], .agg #[.int .u64 rc, .int .i64 rp]] w fun e w' => e = .returned (.bool true) ∧ Below w.heap.size w w' :=
  compareRing_from ownGrand ownComp ownOwn ownBest.none a ha sc sp rc rp ⟨u64_of_wf h1, i64_of_wf h2⟩ ⟨u64_of_wf h3, i64_of_wf h4⟩ w

theorem ownV_in {c : Cf} (h : ((0 ≤ c.cl ∧ c.cl < 18446744073709551616) ∧ ∀ x ∈ [c.po, c.dm, c.p1, c.p2, c.qc, c.qa, c.qv, c.la, c.ls, c.ld, c.tm, c.md, c.kp, c.ki, c.st, c.ut, c.fl, c.og], -9223372036854775808 ≤ x ∧ x ≤ 9223372036854775807)) : VcIn (ownV c) :=
  ⟨h.2 c.p1 (by simp), h.2 c.qc (by simp), h.2 c.qa (by simp), h.2 c.qv (by simp), h.2 c.p2 (by simp), h.1, (by decide : I64 0), h.1, (by decide : I64 0), h.1, (by decide : I64 0)⟩

theorem compareOwn_walk (c : Cf) (hc : ((0 ≤ c.cl ∧ c.cl < 18446744073709551616) ∧ ∀ x ∈ [c.po, c.dm, c.p1, c.p2, c.qc, c.qa, c.qv, c.la, c.ls, c.ld, c.tm, c.md, c.kp, c.ki, c.st, c.ut, c.fl, c.og], -9223372036854775808 ≤ x ∧ x ≤ 9223372036854775807)) (d : Cf) (hd : ((0 ≤ d.cl ∧ d.cl < 18446744073709551616) ∧ ∀ x ∈ [d.po, d.dm, d.p1, d.p2, d.qc, d.qa, d.qv, d.la, d.ls, d.ld, d.tm, d.md, d.kp, d.ki, d.st, d.ut, d.fl, d.og], -9223372036854775808 ≤ x ∧ x ≤ 9223372036854775807)) (w : World) :
    Calls Try.prog 7 #[.agg (cfL c).toArray, .agg (cfL d).toArray] w fun e w' => e = .returned (.bool true) ∧ Below w.heap.size w w' :=
  compareOwn_from ownGrand ownComp ownOwn ownBest.none c d (ownV_in hc) (ownV_in hd) w

theorem compareWins_walk {w : World} (v : Value) (l : List Vc) (hR : vecK.Reads w v l) (hl : l.length * 88 ≤ 140737488351232) (hin : ∀ a ∈ l, VcIn a) :
    Calls Try.prog 6 #[v] w fun e w' => e = .returned (.bool true) ∧ Below w.heap.size w w' :=
  compareWins_from ownComp ownOwn ownBest v l w hR hl hin
end Go.Proofs.Ytkhgkngapgaigaa
