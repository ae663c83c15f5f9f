/- The walks of chapter 22's laws: from the contracts, and these from the program's own (gen_mgmown.py). -/
import Derived.Test.YtgjffmhlehcoiaaMgmLaws1
import Derived.Test.YtgjffmhlehcoiaaMgmLaws2
import Derived.Test.YtgjffmhlehcoiaaMgmLaws3
import Derived.Test.YtgjffmhlehcoiaaMgmLaws4
import Derived.Test.YtgjffmhlehcoiaaMgmLaws5
import Derived.Test.YtgjffmhlehcoiaaMgmLaws6
import Derived.Test.YtgjffmhlehcoiaaMgmOwn5
namespace Go.Proofs.Ytgjffmhlehcoiaa
open Go.RowKit Go.Proofs
set_option maxRecDepth 50000
set_option linter.unusedVariables false
set_option linter.unusedSimpArgs false

theorem mgmtFaults_walk (c : Cf) (hc : ((0 ≤ c.cl ∧ c.cl < 18446744073709551616) ∧ ∀ x ∈ [c.po, c.dm, c.p1, c.p2, c.qc, c.qa, c.qv, c.la, c.ls, c.ld, c.tm, c.md, c.kp, c.ki, c.st, c.ut, c.fl, c.og], -9223372036854775808 ≤ x ∧ x ≤ 9223372036854775807)) (id : Int) (h0 : (Lit.int .i64 id).wf = true) (ac : Int) (h1 : (Lit.int .i64 ac).wf = true) (m : ByteArray) (h2 : m.size ≤ maxLen) (g2 : m.data.toList.length ≤ reachBytes) (w : World) :
    Calls Try.prog 4 #[.agg (cfL c).toArray, .int .i64 id, .int .i64 ac, .string m] w fun e w' => e = .returned (.bool true) ∧ Below w.heap.size w w' := by
  exact mgmtFaults_from ownDef ownAnsM ownKnoM ownPerM c hc id ac m.data.toList w

theorem mgmtQuiet_walk (c : Cf) (hc : ((0 ≤ c.cl ∧ c.cl < 18446744073709551616) ∧ ∀ x ∈ [c.po, c.dm, c.p1, c.p2, c.qc, c.qa, c.qv, c.la, c.ls, c.ld, c.tm, c.md, c.kp, c.ki, c.st, c.ut, c.fl, c.og], -9223372036854775808 ≤ x ∧ x ≤ 9223372036854775807)) (ac : Int) (h0 : (Lit.int .i64 ac).wf = true) (id : Int) (h1 : (Lit.int .i64 id).wf = true) (m : ByteArray) (h2 : m.size ≤ maxLen) (g2 : m.data.toList.length ≤ reachBytes) (w : World) :
    Calls Try.prog 6 #[.agg (cfL c).toArray, .int .i64 ac, .int .i64 id, .string m] w fun e w' => e = .returned (.bool true) ∧ Below w.heap.size w w' := by
  exact mgmtQuiet_from ownDef ownAnsM ownKnoM ownPerM c hc ac id m.data.toList w

theorem mgmtLengths_walk (c : Cf) (hc : ((0 ≤ c.cl ∧ c.cl < 18446744073709551616) ∧ ∀ x ∈ [c.po, c.dm, c.p1, c.p2, c.qc, c.qa, c.qv, c.la, c.ls, c.ld, c.tm, c.md, c.kp, c.ki, c.st, c.ut, c.fl, c.og], -9223372036854775808 ≤ x ∧ x ≤ 9223372036854775807)) (p : Pa) (h0 : PaIn p) (off : Int) (h1 : (Lit.int .i64 off).wf = true) (nw : Int) (h2 : (Lit.int .i64 nw).wf = true) (w : World) :
    Calls Try.prog 5 #[.agg (cfL c).toArray, .agg (paL p).toArray, .int .i64 off, .int .i64 nw] w fun e w' => e = .returned (.bool true) ∧ Below w.heap.size w w' := by
  exact mgmtLengths_from ownDef ownAnsM ownKnoM ownPerM c hc p h0 off h1 nw h2 w

theorem mgmtSets_walk (c : Cf) (hc : ((0 ≤ c.cl ∧ c.cl < 18446744073709551616) ∧ ∀ x ∈ [c.po, c.dm, c.p1, c.p2, c.qc, c.qa, c.qv, c.la, c.ls, c.ld, c.tm, c.md, c.kp, c.ki, c.st, c.ut, c.fl, c.og], -9223372036854775808 ≤ x ∧ x ≤ 9223372036854775807)) (which : Int) (h0 : (Lit.int .i64 which).wf = true) (b : Int) (h1 : (Lit.int .u8 b).wf = true) (s : Int) (h2 : (Lit.int .u8 s).wf = true) (w : World) :
    Calls Try.prog 3 #[.agg (cfL c).toArray, .int .i64 which, .int .u8 b, .int .u8 s] w fun e w' => e = .returned (.bool true) ∧ Below w.heap.size w w' := by
  obtain ⟨b', rfl⟩ := u8_of_wf h1
  obtain ⟨s', rfl⟩ := u8_of_wf h2
  exact mgmtSets_from ownDef ownAnsM ownKnoM ownPerM c hc which b' s' w

theorem mgmtDefaults_walk (c : Cf) (hc : ((0 ≤ c.cl ∧ c.cl < 18446744073709551616) ∧ ∀ x ∈ [c.po, c.dm, c.p1, c.p2, c.qc, c.qa, c.qv, c.la, c.ls, c.ld, c.tm, c.md, c.kp, c.ki, c.st, c.ut, c.fl, c.og], -9223372036854775808 ≤ x ∧ x ≤ 9223372036854775807)) (w : World) :
    Calls Try.prog 7 #[.agg (cfL c).toArray] w fun e w' => e = .returned (.bool true) ∧ Below w.heap.size w w' := by
  exact mgmtDefaults_from ownDef ownAnsM ownKnoM ownPerM c hc w

theorem mgmtTimes_walk (c : Cf) (hc : ((0 ≤ c.cl ∧ c.cl < 18446744073709551616) ∧ ∀ x ∈ [c.po, c.dm, c.p1, c.p2, c.qc, c.qa, c.qv, c.la, c.ls, c.ld, c.tm, c.md, c.kp, c.ki, c.st, c.ut, c.fl, c.og], -9223372036854775808 ≤ x ∧ x ≤ 9223372036854775807)) (p : Pa) (h0 : PaIn p) (off : Int) (h1 : (Lit.int .i64 off).wf = true) (nw : Int) (h2 : (Lit.int .i64 nw).wf = true) (w : World) :
    Calls Try.prog 8 #[.agg (cfL c).toArray, .agg (paL p).toArray, .int .i64 off, .int .i64 nw] w fun e w' => e = .returned (.bool true) ∧ Below w.heap.size w w' := by
  exact mgmtTimes_from ownDef ownAnsM ownKnoM ownPerM c hc p h0 off h1 nw h2 w

end Go.Proofs.Ytgjffmhlehcoiaa
