/- A way there and back, to a master (chapter 17): plainly, and the contracts, whatever an exchange looks like inside (gen_dellaws.py). -/
import Derived.Test.YtnlmncpiccehjaaMsK
import Derived.Test.YtnlmncpiccehjaaObj
import Derived.Test.YtnlmncpiccehjaaStamp
import Derived.Test.YtnlmncpiccehjaaBoK
namespace Go.Proofs.Ytnlmncpiccehjaa
open Go.RowKit Go.Proofs
set_option maxRecDepth 50000
set_option linter.unusedVariables false
set_option linter.unusedSimpArgs false

/-- An exchange: who asks, in which domain; what is out: its number, and when it went. -/
structure Xs where
  me : Int × Int
  dm : Int
  out : Option (Int × Option Int)
def diffX (at' st co : Int) : Int := wrap64 (wrap64 (at' - st) - co / 65536)
theorem diffX_in {a s c : Int} (ha : 0 ≤ a ∧ a ≤ 4000000000000000) (hs : 0 ≤ s ∧ s ≤ 4000000000000000) (hc : -9223372036854775808 ≤ c ∧ c ≤ 9223372036854775807) : diffX a s c = a - s - c / 65536 := by
  unfold diffX wrap64
  omega
def reqM (x : Xs) (n : Int) : Hd × Bd := (⟨1, x.dm, 0, 0, x.me.1, x.me.2, n % 65536, 127⟩, bd0)
def reqS (x : Xs) (n : Int) : Xs := { x with out := some (n % 65536, none) }
def sentB (x : Xs) (n : Int) : Bool := match x.out with
  | some (s, none) => n == s
  | _ => false
def sentS (x : Xs) (n at' : Int) : Xs := if sentB x n then { x with out := some (n, some at') } else x
def respB (x : Xs) (m : Hd × Bd) : Bool := match x.out with
  | some (s, some _) => m.1.ty == 9 && (m.2.tc == x.me.1 && m.2.tp == x.me.2) && m.1.sq == s
  | _ => false
def respD (x : Xs) (m : Hd × Bd) : Int := match x.out with
  | some (_, some t) => if respB x m then diffX m.2.st t m.1.co else 0
  | _ => 0
def respS (x : Xs) (m : Hd × Bd) : Xs := if respB x m then { x with out := none } else x
def answB (m : Hd × Bd) (at' : Int) : Bool := m.1.ty == 1 && mayB at'
def answM (m : Hd × Bd) (me : Int × Int) (at' log : Int) : Hd × Bd := if answB m at' then (⟨9, m.1.dm, 0, m.1.co, me.1, me.2, m.1.sq, log⟩, { bd0 with st := at', tc := m.1.sc, tp := m.1.sp }) else zeroM
theorem prT : StrT prK 24 := ⟨⟨_, Try.underlying24, rfl⟩, by kernel_rfl⟩
section
variable {x : Xs} {m : Hd × Bd} {n s t at' : Int}
theorem sent_yes (h : x.out = some (n, none)) : sentB x n = true ∧ sentS x n at' = { x with out := some (n, some at') } := by simp [sentB, sentS, h]
theorem sent_twice (h : x.out = some (s, some t)) : sentB x n = false ∧ sentS x n at' = x := by simp [sentB, sentS, h]
theorem sent_none (h : x.out = none) : sentB x n = false ∧ sentS x n at' = x := by simp [sentB, sentS, h]
theorem resp_yes (h : x.out = some (s, some t)) (h1 : m.1.ty = 9) (h2 : m.2.tc = x.me.1) (h3 : m.2.tp = x.me.2) (h4 : m.1.sq = s) : respB x m = true ∧ respD x m = diffX m.2.st t m.1.co ∧ respS x m = { x with out := none } := by simp [respB, respD, respS, h, h1, h2, h3, h4]
theorem resp_no (h : x.out = some (s, some t)) (h1 : m.2.tc ≠ x.me.1 ∨ m.2.tp ≠ x.me.2 ∨ m.1.sq ≠ s) : respB x m = false ∧ respD x m = 0 ∧ respS x m = x := by
  have hB : respB x m = false := by
    unfold respB
    rw [h]
    rcases h1 with h1 | h1 | h1 <;> simp [h1]
  refine ⟨hB, ?_, ?_⟩
  · unfold respD
    rw [h, hB]
    rfl
  · unfold respS
    rw [hB]
    rfl
theorem resp_unsent (h : x.out = some (s, none)) : respB x m = false ∧ respD x m = 0 ∧ respS x m = x := by simp [respB, respD, respS, h]
theorem resp_none (h : x.out = none) : respB x m = false ∧ respD x m = 0 ∧ respS x m = x := by simp [respB, respD, respS, h]
theorem answ_yes {me : Int × Int} {log : Int} (h : m.1.ty = 1) (h1 : 0 ≤ at') (h2 : at' ≤ 4000000000000000) : answB m at' = true ∧ answM m me at' log = (⟨9, m.1.dm, 0, m.1.co, me.1, me.2, m.1.sq, log⟩, { bd0 with st := at', tc := m.1.sc, tp := m.1.sp }) := by
  have hB : answB m at' = true := by simp [answB, h, mayB_true h1 h2]
  exact ⟨hB, by unfold answM; rw [hB]; rfl⟩
theorem hd_okx {h : Hd} (h1 : 0 ≤ h.sc) (h2 : h.sc < 18446744073709551616) (h3 : -9223372036854775808 ≤ h.co) (h4 : h.co ≤ 9223372036854775807) : HdOk h := ⟨h1, h2, h3, h4⟩
end

abbrev XAt (R : List Value → Xs → Prop) (w : World) (g : Nat) (x : Xs) : Prop := ObAt 54 R w g x
def CNewX (R : List Value → Xs → Prop) : Prop := ∀ (me : Int × Int) (dm : Int) (w : World), 0 ≤ me.1 ∧ me.1 < 18446744073709551616 →
  Calls Try.prog 8 #[.agg (prK.enc me).toArray, .int .i64 dm] w fun e w' => ∃ g, e = .returned (.pointer (some ⟨g, 0, none⟩)) ∧ w.heap.size ≤ g ∧ XAt R w' g ⟨me, dm, none⟩ ∧ Below w.heap.size w w'
def CReq (R : List Value → Xs → Prop) : Prop := ∀ (g : Nat) (x : Xs) (n log : Int) (w : World), XAt R w g x → -9223372036854775808 ≤ n ∧ n ≤ 9223372036854775807 →
  Calls Try.prog 12 #[.pointer (some ⟨g, 0, none⟩), .int .i64 n, .int .i64 log] w fun e w' => e = .returned (.agg (msK.enc (reqM x n)).toArray) ∧ XAt R w' g (reqS x n) ∧ Only g w w'
def CSent (R : List Value → Xs → Prop) : Prop := ∀ (g : Nat) (x : Xs) (n at' : Int) (w : World), XAt R w g x →
  Calls Try.prog 14 #[.pointer (some ⟨g, 0, none⟩), .int .i64 n, .int .i64 at'] w fun e w' => e = .returned (.bool (sentB x n)) ∧ XAt R w' g (sentS x n at') ∧ Only g w w'
def CResp (R : List Value → Xs → Prop) : Prop := ∀ (g : Nat) (x : Xs) (m : Hd × Bd) (w : World), XAt R w g x → HdOk m.1 →
  Calls Try.prog 18 #[.pointer (some ⟨g, 0, none⟩), .agg (msK.enc m).toArray] w fun e w' => e = .returned (.tuple #[.int .i64 (respD x m), .bool (respB x m)]) ∧ XAt R w' g (respS x m) ∧ Only g w w'
def CClrX (R : List Value → Xs → Prop) : Prop := ∀ (g : Nat) (x : Xs) (w : World), XAt R w g x →
  Calls Try.prog 16 #[.pointer (some ⟨g, 0, none⟩)] w fun e w' => e = .returned (.tuple #[]) ∧ XAt R w' g { x with out := none } ∧ Only g w w'
def CAns : Prop := ∀ (m : Hd × Bd) (me : Int × Int) (at' log : Int) (w : World), HdOk m.1 →
  Calls Try.prog 9 #[.agg (msK.enc m).toArray, .agg (prK.enc me).toArray, .int .i64 at', .int .i64 log] w fun e w' => e = .returned (.tuple #[.agg (msK.enc (answM m me at' log)).toArray, .bool (answB m at')]) ∧ Below w.heap.size w w'
end Go.Proofs.Ytnlmncpiccehjaa
