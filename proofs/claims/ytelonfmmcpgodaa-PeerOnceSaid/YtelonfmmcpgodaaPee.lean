/- A way there and back, to a neighbour (chapter 18): plainly, and the contracts, whatever an exchange looks like inside (gen_peelaws.py). -/
import Derived.Test.YtelonfmmcpgodaaMsK
import Derived.Test.YtelonfmmcpgodaaObj
import Derived.Test.YtelonfmmcpgodaaStamp
import Derived.Test.YtelonfmmcpgodaaBoK
namespace Go.Proofs.Ytelonfmmcpgodaa
open Go.RowKit Go.Proofs
set_option maxRecDepth 50000
set_option linter.unusedVariables false
set_option linter.unusedSimpArgs false

/-- An exchange: who asks; which number is out, when it went; the response that is held, when it came; whether there were two. -/
structure Ps where
  me : Int × Int
  dm : Int
  out : Option Int
  went : Option Int
  held : Option ((Hd × Bd) × Int)
  sp : Bool
def noneP (x : Ps) : Ps := ⟨x.me, x.dm, none, none, none, false⟩
def preqM (x : Ps) (n : Int) : Hd × Bd := (⟨2, x.dm, 0, 0, x.me.1, x.me.2, n % 65536, 127⟩, bd0)
def preqS (x : Ps) (n : Int) : Ps := ⟨x.me, x.dm, some (n % 65536), none, none, false⟩
def psentB (x : Ps) (n : Int) : Bool := match x.out, x.went with
  | some s, none => n == s
  | _, _ => false
def psentS (x : Ps) (n at' : Int) : Ps := if psentB x n then { x with went := some at' } else x
def pmineB (x : Ps) (m : Hd × Bd) : Bool := match x.out, x.went with
  | some s, some _ => m.1.ty == 3 && (m.2.tc == x.me.1 && m.2.tp == x.me.2) && m.1.sq == s
  | _, _ => false
def presB (x : Ps) (m : Hd × Bd) : Bool := pmineB x m && x.held.isNone
def presS (x : Ps) (m : Hd × Bd) (at' : Int) : Ps := if pmineB x m then (if x.held.isNone then { x with held := some (m, at') } else { x with sp := true }) else x
def pfolB (x : Ps) (m : Hd × Bd) : Bool := match x.out, x.went, x.held with
  | some s, some _, some (r, _) => m.1.ty == 10 && (m.2.tc == x.me.1 && m.2.tp == x.me.2) && (!x.sp) && m.1.sq == s && (m.1.sc == r.1.sc && m.1.sp == r.1.sp)
  | _, _, _ => false
def pfolD (x : Ps) (m : Hd × Bd) : Int := match x.went, x.held with
  | some t, some (r, c) => if pfolB x m then wrap64 (wrap64 (wrap64 (c - t) - wrap64 (m.2.st - r.2.st)) - addI r.1.co m.1.co / 65536) / 2 else 0
  | _, _ => 0
def pfolS (x : Ps) (m : Hd × Bd) : Ps := if pfolB x m then noneP x else x
def pansB (m : Hd × Bd) (at' : Int) : Bool := m.1.ty == 2 && mayB at'
def pansM (m : Hd × Bd) (me : Int × Int) (at' : Int) : Hd × Bd := if pansB m at' then (⟨3, m.1.dm, 512, m.1.co, me.1, me.2, m.1.sq, 127⟩, { bd0 with st := at', tc := m.1.sc, tp := m.1.sp }) else zeroM
def pfupM (m : Hd × Bd) (me : Int × Int) (at' : Int) : Hd × Bd := if pansB m at' then (⟨10, m.1.dm, 0, 0, me.1, me.2, m.1.sq, 127⟩, { bd0 with st := at', tc := m.1.sc, tp := m.1.sp }) else zeroM
theorem prT18 : StrT prK 24 := ⟨⟨_, Try.underlying24, rfl⟩, by kernel_rfl⟩
section
variable {x : Ps} {m r : Hd × Bd} {n s t c at' : Int}
theorem psent_yes (h : x.out = some n) (h2 : x.went = none) : psentB x n = true ∧ psentS x n at' = { x with went := some at' } := by simp [psentB, psentS, h, h2]
theorem psent_twice (h2 : x.went = some t) : psentB x n = false ∧ psentS x n at' = x := by
  have : psentB x n = false := by unfold psentB; rw [h2]; cases x.out <;> rfl
  exact ⟨this, by unfold psentS; rw [this]; rfl⟩
theorem pres_unsent (h2 : x.went = none) : presB x m = false ∧ presS x m at' = x := by
  have : pmineB x m = false := by unfold pmineB; rw [h2]; cases x.out <;> rfl
  exact ⟨by unfold presB; rw [this]; rfl, by unfold presS; rw [this]; rfl⟩
theorem pres_yes (h : x.out = some s) (h2 : x.went = some t) (h3 : x.held = none) (h4 : m.1.ty = 3) (h5 : m.2.tc = x.me.1) (h6 : m.2.tp = x.me.2) (h7 : m.1.sq = s) : presB x m = true ∧ presS x m at' = { x with held := some (m, at') } := by
  have : pmineB x m = true := by simp [pmineB, h, h2, h4, h5, h6, h7]
  exact ⟨by unfold presB; rw [this, h3]; rfl, by unfold presS; rw [this, h3]; rfl⟩
theorem pres_no (h : x.out = some s) (h2 : x.went = some t) (h5 : m.2.tc ≠ x.me.1 ∨ m.2.tp ≠ x.me.2 ∨ m.1.sq ≠ s) : presB x m = false ∧ presS x m at' = x := by
  have : pmineB x m = false := by
    unfold pmineB
    rw [h, h2]
    rcases h5 with h5 | h5 | h5 <;> simp [h5]
  exact ⟨by unfold presB; rw [this]; rfl, by unfold presS; rw [this]; rfl⟩
theorem pfol_none (h : x.held = none) : pfolB x m = false ∧ pfolD x m = 0 ∧ pfolS x m = x := by
  have : pfolB x m = false := by unfold pfolB; rw [h]; cases x.out <;> cases x.went <;> rfl
  refine ⟨this, ?_, by unfold pfolS; rw [this]; rfl⟩
  unfold pfolD
  rw [h]
  cases x.went <;> rfl
theorem pfol_yes (h : x.out = some s) (h2 : x.went = some t) (h3 : x.held = some (r, c)) (h4 : m.1.ty = 10) (h5 : m.2.tc = x.me.1) (h6 : m.2.tp = x.me.2) (h7 : x.sp = false) (h8 : m.1.sq = s) (h9 : m.1.sc = r.1.sc) (h10 : m.1.sp = r.1.sp) :
    pfolB x m = true ∧ pfolD x m = wrap64 (wrap64 (wrap64 (c - t) - wrap64 (m.2.st - r.2.st)) - addI r.1.co m.1.co / 65536) / 2 ∧ pfolS x m = noneP x := by
  have : pfolB x m = true := by simp [pfolB, h, h2, h3, h4, h5, h6, h7, h8, h9, h10]
  refine ⟨this, ?_, by unfold pfolS; rw [this]; rfl⟩
  unfold pfolD
  rw [h2, h3]
  show (if pfolB x m then _ else _) = _
  rw [this]
  rfl
theorem pans_yes {me : Int × Int} (h : m.1.ty = 2) (h1 : 0 ≤ at') (h2 : at' ≤ 4000000000000000) : pansB m at' = true ∧ pansM m me at' = (⟨3, m.1.dm, 512, m.1.co, me.1, me.2, m.1.sq, 127⟩, { bd0 with st := at', tc := m.1.sc, tp := m.1.sp }) ∧ pfupM m me at' = (⟨10, m.1.dm, 0, 0, me.1, me.2, m.1.sq, 127⟩, { bd0 with st := at', tc := m.1.sc, tp := m.1.sp }) := by
  have hB : pansB m at' = true := by simp [pansB, h, mayB_true h1 h2]
  exact ⟨hB, by unfold pansM; rw [hB]; rfl, by unfold pfupM; rw [hB]; rfl⟩
theorem hd_okp {h : Hd} (h1 : 0 ≤ h.sc) (h2 : h.sc < 18446744073709551616) (h3 : -9223372036854775808 ≤ h.co) (h4 : h.co ≤ 9223372036854775807) : HdOk h := ⟨h1, h2, h3, h4⟩
end

abbrev PeAt (R : List Value → Ps → Prop) (w : World) (g : Nat) (x : Ps) : Prop := ObAt 47 R w g x
def CNewP (R : List Value → Ps → Prop) : Prop := ∀ (me : Int × Int) (dm : Int) (w : World), 0 ≤ me.1 ∧ me.1 < 18446744073709551616 →
  Calls Try.prog 5 #[.agg (prK.enc me).toArray, .int .i64 dm] w fun e w' => ∃ g, e = .returned (.pointer (some ⟨g, 0, none⟩)) ∧ w.heap.size ≤ g ∧ PeAt R w' g ⟨me, dm, none, none, none, false⟩ ∧ Below w.heap.size w w'
def CReqP (R : List Value → Ps → Prop) : Prop := ∀ (g : Nat) (x : Ps) (n : Int) (w : World), PeAt R w g x → -9223372036854775808 ≤ n ∧ n ≤ 9223372036854775807 →
  Calls Try.prog 7 #[.pointer (some ⟨g, 0, none⟩), .int .i64 n] w fun e w' => e = .returned (.agg (msK.enc (preqM x n)).toArray) ∧ PeAt R w' g (preqS x n) ∧ Only g w w'
def CSentP (R : List Value → Ps → Prop) : Prop := ∀ (g : Nat) (x : Ps) (n at' : Int) (w : World), PeAt R w g x →
  Calls Try.prog 11 #[.pointer (some ⟨g, 0, none⟩), .int .i64 n, .int .i64 at'] w fun e w' => e = .returned (.bool (psentB x n)) ∧ PeAt R w' g (psentS x n at') ∧ Only g w w'
def CResP (R : List Value → Ps → Prop) : Prop := ∀ (g : Nat) (x : Ps) (m : Hd × Bd) (at' : Int) (w : World), PeAt R w g x → HdOk m.1 →
  Calls Try.prog 10 #[.pointer (some ⟨g, 0, none⟩), .agg (msK.enc m).toArray, .int .i64 at'] w fun e w' => e = .returned (.bool (presB x m)) ∧ PeAt R w' g (presS x m at') ∧ Only g w w'
def CFolP (R : List Value → Ps → Prop) : Prop := ∀ (g : Nat) (x : Ps) (m : Hd × Bd) (w : World), PeAt R w g x → HdOk m.1 →
  Calls Try.prog 12 #[.pointer (some ⟨g, 0, none⟩), .agg (msK.enc m).toArray] w fun e w' => e = .returned (.tuple #[.int .i64 (pfolD x m), .bool (pfolB x m)]) ∧ PeAt R w' g (pfolS x m) ∧ Only g w w'
def CAnsP : Prop := ∀ (m : Hd × Bd) (me : Int × Int) (at' : Int) (w : World), HdOk m.1 →
  Calls Try.prog 8 #[.agg (msK.enc m).toArray, .agg (prK.enc me).toArray, .int .i64 at'] w fun e w' => e = .returned (.tuple #[.agg (msK.enc (pansM m me at')).toArray, .bool (pansB m at')]) ∧ Below w.heap.size w w'
def CFupP : Prop := ∀ (m : Hd × Bd) (me : Int × Int) (at' : Int) (w : World), HdOk m.1 →
  Calls Try.prog 9 #[.agg (msK.enc m).toArray, .agg (prK.enc me).toArray, .int .i64 at'] w fun e w' => e = .returned (.tuple #[.agg (msK.enc (pfupM m me at')).toArray, .bool (pansB m at')]) ∧ Below w.heap.size w w'
end Go.Proofs.Ytelonfmmcpgodaa
