/- Whom a port has heard, plainly (chapter 12), and the contracts of the program's own, whatever a table looks like inside. -/
import Derived.Test.YtdkgcggpgombaaaBuild
import Derived.Test.YtdkgcggpgombaaaMsgB
import Derived.Test.YtdkgcggpgombaaaVecRow
import Derived.Test.YtdkgcggpgombaaaVecBest
import Derived.Test.YtdkgcggpgombaaaOnly
namespace Go.Proofs.Ytdkgcggpgombaaa
open Go.RowKit Go.Proofs
set_option maxRecDepth 50000
set_option linter.unusedVariables false
set_option linter.unusedSimpArgs false

/-- A record: what was heard, the time's scale, its number, when the one ahead was heard, when it was. -/
structure Rc where
  v : Vc
  ut : Int
  fl : Int
  og : Int
  sq : Int
  fi : Int
  la : Int
/-- A table. -/
structure Ft where
  own : Int
  port : Int
  win : Int
  l : List Rc

def rcL (r : Rc) : List Value := vcL r.v ++ [.int .i64 r.ut, .int .i64 r.fl, .int .i64 r.og, .int .i64 r.sq, .int .i64 r.fi, .int .i64 r.la]
theorem rcL_length (r : Rc) : (rcL r).length = 17 := rfl
theorem rcL_one (r : Rc) : ∀ v ∈ rcL r, v.oneCell' = true := by
  intro v hv
  unfold rcL at hv
  rcases List.mem_append.1 hv with h | h
  · exact vcL_one _ v h
  · simp only [List.mem_cons, List.mem_nil_iff, or_false] at h
    rcases h with rfl | rfl | rfl | rfl | rfl | rfl <;> rfl
def recK : RowK Rc := ⟨rcL, 17, by decide, rcL_length, rcL_one⟩
def zeroR : Rc := ⟨zeroV, 0, 0, 0, 0, 0, 0⟩

def clampW (x : Int) : Int := if x < 1 then 1 else if 1048576 < x then 1048576 else x
def recF (t : Ft) (h : Hd) (d : Bd) (fi now : Int) : Rc := ⟨⟨d.p1, d.qc, d.qa, d.qv, d.p2, d.gr, d.sr, h.sc, h.sp, t.own, t.port⟩, d.ut, h.fl % 64, d.og, h.sq, fi, now⟩
/-- Not newer, or ahead of the last time. -/
def oldR (r : Rc) (sq now : Int) : Prop := (r.sq - sq) % 65536 ≤ 32767 ∨ now < r.la
instance (r : Rc) (sq now : Int) : Decidable (oldR r sq now) := by unfold oldR; exact inferInstance
def putF (t : Ft) (h : Hd) (d : Bd) (now : Int) : List Rc → Nat → List Rc × Int
  | [], n => if 5 ≤ n then ([], 7) else ([recF t h d (-1) now], 0)
  | r :: rs, n => if r.v.sc = h.sc ∧ r.v.sp = h.sp then (if oldR r h.sq now then (r :: rs, 9) else (recF t h d r.la now :: rs, 0)) else (r :: (putF t h d now rs (n + 1)).1, (putF t h d now rs (n + 1)).2)
def hearE (t : Ft) (h : Hd) (d : Bd) (now : Int) : Int :=
  if h.ty ≠ 11 then 5 else if now < 0 ∨ 1099511627776 < now then 1 else if h.sc = t.own ∨ 255 ≤ d.sr ∨ (h.fl / 256) % 2 = 1 then 11 else (putF t h d now t.l 0).2
def hearT (t : Ft) (h : Hd) (d : Bd) (now : Int) : Ft :=
  if h.ty ≠ 11 then t else if now < 0 ∨ 1099511627776 < now then t else if h.sc = t.own ∨ 255 ≤ d.sr ∨ (h.fl / 256) % 2 = 1 then t else { t with l := (putF t h d now t.l 0).1 }
def withinB (win at' now : Int) : Bool := decide (0 ≤ at' ∧ (now ≤ at' ∨ now - at' < win))
def ageT (t : Ft) (now : Int) : Ft := { t with l := t.l.filter fun r => withinB t.win r.la now }
def qualL (t : Ft) (now : Int) : List Rc := t.l.filter fun r => withinB t.win r.fi now
def bestN (l : List Rc) : Int := bestG (l.map (·.v)) l.length
def bestR (l : List Rc) : Rc := if bestN l < 0 then zeroR else l.getD (bestN l).toNat zeroR

/-- A table stands at g, whatever it looks like inside (R says it). -/
def FAt (R : List Value → Ft → Prop) (w : World) (g : Nat) (t : Ft) : Prop := ∃ xs, Box w g xs 55 ∧ R xs t
variable {R : List Value → Ft → Prop}
theorem FAt.lt {w : World} {g : Nat} {t : Ft} (h : FAt R w g t) : g < w.heap.size := by
  obtain ⟨xs, hB, -⟩ := h
  exact hB.lt
theorem FAt.below {w w' : World} {g : Nat} {t : Ft} (h : FAt R w g t) (hb : Below w.heap.size w w') : FAt R w' g t := by
  obtain ⟨xs, hB, hR⟩ := h
  exact ⟨xs, hB.below hb, hR⟩
theorem FAt.setCell {w : World} {g : Nat} {t : Ft} (h : FAt R w g t) {k : Nat} (hk : g ≠ k) (i : Nat) (v : Value) : FAt R (w.setCell ⟨k, i, none⟩ v) g t := by
  obtain ⟨xs, hB, hR⟩ := h
  exact ⟨xs, hB.other hk i v, hR⟩

/-- What a table and a message hold is told by 64 bits. -/
def MsIn (h : Hd) (d : Bd) : Prop := (-9223372036854775808 ≤ d.sr ∧ d.sr ≤ 9223372036854775807) ∧ (0 ≤ h.sc ∧ h.sc < 18446744073709551616) ∧ (0 ≤ d.gr ∧ d.gr < 18446744073709551616) ∧ (0 ≤ d.tc ∧ d.tc < 18446744073709551616)

def CNewF (R : List Value → Ft → Prop) : Prop := ∀ (own port win : Int) (w : World), 0 ≤ own ∧ own < 18446744073709551616 →
  Calls Try.prog 8 #[.int .u64 own, .int .i64 port, .int .i64 win] w fun e w' => ∃ g, e = .returned (.pointer (some ⟨g, 0, none⟩)) ∧ w.heap.size ≤ g ∧ FAt R w' g ⟨own, port, clampW win, []⟩ ∧ Below w.heap.size w w'
def CHearF (R : List Value → Ft → Prop) : Prop := ∀ (g : Nat) (t : Ft) (h : Hd) (d : Bd) (now : Int) (w : World), FAt R w g t → MsIn h d →
  Calls Try.prog 9 #[.pointer (some ⟨g, 0, none⟩), .agg (msgF h d).toArray, .int .i64 now] w fun e w' => e = .returned (.int .i64 (hearE t h d now)) ∧ FAt R w' g (hearT t h d now) ∧ Only g w w'
def CRecF (R : List Value → Ft → Prop) : Prop := ∀ (g : Nat) (t : Ft) (w : World), FAt R w g t →
  Calls Try.prog 12 #[.pointer (some ⟨g, 0, none⟩)] w fun e w' => ∃ v, e = .returned v ∧ recK.Reads w' v t.l ∧ Below w.heap.size w w'
def CQualF (R : List Value → Ft → Prop) : Prop := ∀ (g : Nat) (t : Ft) (now : Int) (w : World), FAt R w g t →
  Calls Try.prog 10 #[.pointer (some ⟨g, 0, none⟩), .int .i64 now] w fun e w' => ∃ v, e = .returned v ∧ recK.Reads w' v (qualL t now) ∧ Below w.heap.size w w'
def CAgeF (R : List Value → Ft → Prop) : Prop := ∀ (g : Nat) (t : Ft) (now : Int) (w : World), FAt R w g t →
  Calls Try.prog 11 #[.pointer (some ⟨g, 0, none⟩), .int .i64 now] w fun e w' => e = .returned (.tuple #[]) ∧ FAt R w' g (ageT t now) ∧ Only g w w'
def CBestF (R : List Value → Ft → Prop) : Prop := ∀ (g : Nat) (t : Ft) (now : Int) (w : World), FAt R w g t →
  Calls Try.prog 14 #[.pointer (some ⟨g, 0, none⟩), .int .i64 now] w fun e w' => e = .returned (.tuple #[.agg (rcL (bestR (qualL t now))).toArray, .bool (decide (0 ≤ bestN (qualL t now)))]) ∧ Below w.heap.size w w'
def CClearF (R : List Value → Ft → Prop) : Prop := ∀ (g : Nat) (t : Ft) (w : World), FAt R w g t →
  Calls Try.prog 15 #[.pointer (some ⟨g, 0, none⟩)] w fun e w' => e = .returned (.tuple #[]) ∧ FAt R w' g { t with l := [] } ∧ Only g w w'

end Go.Proofs.Ytdkgcggpgombaaa
