/- Numbers of messages, and messages that belong together (chapter 16): plainly, and the contracts, whatever a match looks like inside (gen_seqlaws.py). -/
import Derived.Test.YtnlmncpiccehjaaMsK
import Derived.Test.YtnlmncpiccehjaaObj
import Derived.Test.YtnlmncpiccehjaaStamp
import Derived.Test.YtnlmncpiccehjaaNum
namespace Go.Proofs.Ytnlmncpiccehjaa
open Go.RowKit Go.Proofs
set_option maxRecDepth 50000
set_option linter.unusedVariables false
set_option linter.unusedSimpArgs false

/-- What is held: a Sync with its time, a FollowUp. -/
structure Ms where
  s : Option ((Hd × Bd) × Int)
  f : Option (Hd × Bd)
def noneS : Ms := ⟨none, none⟩
def twoB (fl : Int) : Bool := bits .and .i64 fl 512 != 0
def diffS (at' st co : Int) : Int := wrap64 (wrap64 (at' - st) - co / 65536)
def matchB (y x : Hd × Bd) : Bool := y.1.sq == x.1.sq && (y.1.sc == x.1.sc && y.1.sp == x.1.sp)
def syncS (m : Ms) (x : Hd × Bd) (at' : Int) : Ms :=
  if x.1.ty ≠ 0 then m else if twoB x.1.fl = false then m else match m.f with
    | some y => if matchB y x then noneS else { m with s := some (x, at') }
    | none => { m with s := some (x, at') }
def syncD (m : Ms) (x : Hd × Bd) (at' : Int) : Int :=
  if x.1.ty ≠ 0 then 0 else if twoB x.1.fl = false then diffS at' x.2.st x.1.co else match m.f with
    | some y => if matchB y x then diffS at' y.2.st (addI x.1.co y.1.co) else 0
    | none => 0
def syncB (m : Ms) (x : Hd × Bd) : Bool :=
  if x.1.ty ≠ 0 then false else if twoB x.1.fl = false then true else match m.f with
    | some y => matchB y x
    | none => false
def follS (m : Ms) (x : Hd × Bd) : Ms :=
  if x.1.ty ≠ 8 then m else match m.s with
    | some (y, _) => if matchB y x then noneS else { m with f := some x }
    | none => { m with f := some x }
def follD (m : Ms) (x : Hd × Bd) : Int :=
  if x.1.ty ≠ 8 then 0 else match m.s with
    | some (y, at') => if matchB y x then diffS at' x.2.st (addI y.1.co x.1.co) else 0
    | none => 0
def follB (m : Ms) (x : Hd × Bd) : Bool :=
  if x.1.ty ≠ 8 then false else match m.s with
    | some (y, _) => matchB y x
    | none => false
def nextI (a : Int) : Int := (a + 1) % 65536
def newerB (a b : Int) : Bool := decide (1 ≤ (a - b) % 65536 ∧ (a - b) % 65536 ≤ 32767)
theorem nextI_in (a : Int) : 0 ≤ nextI a ∧ nextI a ≤ 65535 := by unfold nextI; omega
theorem two_yes : twoB 512 = true := by decide
theorem two_no : twoB 0 = false := by decide
theorem diff_in {a s c : Int} (ha : 0 ≤ a ∧ a ≤ 4000000000000000) (hs : 0 ≤ s ∧ s ≤ 4000000000000000) (hc : -9223372036854775808 ≤ c ∧ c ≤ 9223372036854775807) : diffS a s c = a - s - c / 65536 := by
  unfold diffS wrap64
  omega
theorem add_in {a b : Int} (h : -9223372036854775808 ≤ a + b ∧ a + b ≤ 9223372036854775807) : addI a b = a + b := by unfold addI; omega
theorem match_iff {y x : Hd × Bd} : matchB y x = true ↔ y.1.sq = x.1.sq ∧ y.1.sc = x.1.sc ∧ y.1.sp = x.1.sp := by simp [matchB]

theorem hd_ok {h : Hd} (h1 : 0 ≤ h.sc) (h2 : h.sc < 18446744073709551616) (h3 : -9223372036854775808 ≤ h.co) (h4 : h.co ≤ 9223372036854775807) : HdOk h := ⟨h1, h2, h3, h4⟩
section
variable {m : Ms} {x y : Hd × Bd} {at' t : Int}
theorem sync_one (h : x.1.ty = 0) (h2 : twoB x.1.fl = false) : syncS m x at' = m ∧ syncD m x at' = diffS at' x.2.st x.1.co ∧ syncB m x = true := by simp [syncS, syncD, syncB, h, h2]
theorem sync_none (h : x.1.ty = 0) (h2 : twoB x.1.fl = true) (hf : m.f = none) : syncS m x at' = { m with s := some (x, at') } ∧ syncD m x at' = 0 ∧ syncB m x = false := by simp [syncS, syncD, syncB, h, h2, hf]
theorem sync_hit (h : x.1.ty = 0) (h2 : twoB x.1.fl = true) (hf : m.f = some y) (hm : matchB y x = true) : syncS m x at' = noneS ∧ syncD m x at' = diffS at' y.2.st (addI x.1.co y.1.co) ∧ syncB m x = true := by simp [syncS, syncD, syncB, h, h2, hf, hm]
theorem sync_miss (h : x.1.ty = 0) (h2 : twoB x.1.fl = true) (hf : m.f = some y) (hm : matchB y x = false) : syncS m x at' = { m with s := some (x, at') } ∧ syncD m x at' = 0 ∧ syncB m x = false := by simp [syncS, syncD, syncB, h, h2, hf, hm]
theorem foll_none (h : x.1.ty = 8) (hs : m.s = none) : follS m x = { m with f := some x } ∧ follD m x = 0 ∧ follB m x = false := by simp [follS, follD, follB, h, hs]
theorem foll_hit (h : x.1.ty = 8) (hs : m.s = some (y, t)) (hm : matchB y x = true) : follS m x = noneS ∧ follD m x = diffS t x.2.st (addI y.1.co x.1.co) ∧ follB m x = true := by simp [follS, follD, follB, h, hs, hm]
theorem foll_miss (h : x.1.ty = 8) (hs : m.s = some (y, t)) (hm : matchB y x = false) : follS m x = { m with f := some x } ∧ follD m x = 0 ∧ follB m x = false := by simp [follS, follD, follB, h, hs, hm]
end

end Go.Proofs.Ytnlmncpiccehjaa
