/- Package body: the parts of a type's body, how many bytes; the document's own. -/
import Derived.Test.YtohgpnlihfcecaaMsg2
import Derived.Test.YtohgpnlihfcecaaB3
import Derived.Test.YtohgpnlihfcecaaB5
namespace Go.Proofs.Ytohgpnlihfcecaa
open Go.RowKit Go.Proofs
set_option maxRecDepth 50000
set_option linter.unusedVariables false
set_option linter.unusedSimpArgs false

/-- Whether a type's body has a stamp, a target; how many bytes are its own. -/
def stB (t : Int) : Bool := decide (t = 0 ∨ t = 1 ∨ t = 8 ∨ t = 9 ∨ t = 3 ∨ t = 10 ∨ t = 2 ∨ t = 11)
def tgB (t : Int) : Bool := decide (t = 9 ∨ t = 3 ∨ t = 10 ∨ t = 12 ∨ t = 13)
def ownI (t : Int) : Int := if t = 2 then 10 else if t = 11 then 20 else if t = 13 then 4 else 0

def lenI (t : Int) : Int := (if stB t then 10 else 0) + (if tgB t then 10 else 0) + ownI t

theorem ownI_in (t : Int) : 0 ≤ ownI t ∧ ownI t ≤ 20 := by unfold ownI; repeat' split <;> omega

theorem lenI_in (t : Int) : 0 ≤ lenI t ∧ lenI t ≤ 40 := by
  have := ownI_in t
  unfold lenI
  repeat' split <;> omega

/-- A type's parts as a value. -/
abbrev partsV (t : Int) : Value := .agg #[.bool (stB t), .bool (tgB t), .int .i64 (ownI t)]

theorem parts_none {t : Int} (h : knownB t = false) : stB t = false ∧ tgB t = false ∧ ownI t = 0 := by
  unfold knownB at h
  rw [decide_eq_false_iff_not] at h
  refine ⟨?_, ?_, ?_⟩
  · unfold stB; rw [decide_eq_false_iff_not]; omega
  · unfold tgB; rw [decide_eq_false_iff_not]; omega
  · unfold ownI; rw [if_neg (by omega), if_neg (by omega), if_neg (by omega)]

set_option maxHeartbeats 1600000 in
theorem partsOf_any (t : Int) (w : World) :
    Calls Try.prog 59 #[.int .i64 t] w fun e w' => e = .returned (partsV t) ∧ Below w.heap.size w w' := by
  cases h : knownB t
  · obtain ⟨e1, e2, e3⟩ := parts_none h
    obtain ⟨hc, h0, h1, h2, h3, h8, h9, h10, h11, h12, h13⟩ := known_no h
    unfold partsV
    rw [e1, e2, e3]
    clear h hc e1 e2 e3
    go_enter Try.func59, Try.ntmps59
    go_wp2
    exact bodyPost_ret (v := .agg #[.bool _, .bool _, .int .i64 _]) (by simp [results, Try.results59, go_sem]) rfl ⟨rfl, bnew _ _⟩
  · rcases known_or h with rfl | rfl | rfl | rfl | rfl | rfl | rfl | rfl | rfl | rfl
    all_goals
      clear h
      go_enter Try.func59, Try.ntmps59
      go_wp2
      exact bodyPost_ret (v := .agg #[.bool _, .bool _, .int .i64 _]) (by simp [results, Try.results59, go_sem]; decide) rfl ⟨rfl, bnew _ _⟩

set_option maxHeartbeats 1600000 in
theorem len_any (t : Int) (w : World) :
    Calls Try.prog 60 #[.int .i64 t] w fun e w' => e = .returned (.int .i64 (lenI t)) ∧ Below w.heap.size w w' := by
  have h := ownI_in t
  obtain ⟨h0, h1⟩ := h
  have HL : Hid (lenI t = (if stB t then 10 else 0) + (if tgB t then 10 else 0) + ownI t) := hid rfl
  generalize lenI t = L at *
  go_enter Try.func60, Try.ntmps60
  go_wp2_with fail
  refine (partsOf_any t _).mono ?_
  rintro e w1 ⟨rfl, hb1⟩
  unfold partsV
  cases hs : stB t <;> cases hg : tgB t <;> rw [hs, hg] at HL <;> clear hs hg
  all_goals
    go_wp2_with fail
    go_ret
    refine ⟨ret_int ?_, ?_⟩
    · rw [HL.out]
      simp
      try omega
    · exact bnext hb1 (bnew _ _)

set_option maxHeartbeats 1600000 in
theorem refLen_any (t : Int) (w : World) :
    Calls Try.prog 25 #[.int .i64 t] w fun e w' => e = .returned (.int .i64 (lenI t)) ∧ w = w' := by
  cases h : knownB t
  · obtain ⟨e1, e2, e3⟩ := parts_none h
    obtain ⟨hc, h0, h1, h2, h3, h8, h9, h10, h11, h12, h13⟩ := known_no h
    rw [show lenI t = 0 by unfold lenI; rw [e1, e2, e3]; rfl]
    clear h hc e1 e2 e3
    go_enter Try.func25, Try.ntmps25
    go_wp2
    go_ret
    exact ⟨rfl, rfl⟩
  · rcases known_or h with rfl | rfl | rfl | rfl | rfl | rfl | rfl | rfl | rfl | rfl
    all_goals
      clear h
      go_enter Try.func25, Try.ntmps25
      go_wp2
      go_ret
      exact ⟨rfl, rfl⟩

set_option maxHeartbeats 1600000 in
theorem stamped_known (t : Int) (w : World) (h : knownB t = true) :
    Calls Try.prog 47 #[.int .i64 t] w fun e w' => e = .returned (.bool (stB t)) ∧ w = w' := by
  rcases known_or h with rfl | rfl | rfl | rfl | rfl | rfl | rfl | rfl | rfl | rfl
  all_goals
    clear h
    go_enter Try.func47, Try.ntmps47
    go_wp2
    go_ret
    exact ⟨rfl, rfl⟩

set_option maxHeartbeats 1600000 in
theorem targeted_known (t : Int) (w : World) (h : knownB t = true) :
    Calls Try.prog 49 #[.int .i64 t] w fun e w' => e = .returned (.bool (tgB t)) ∧ w = w' := by
  rcases known_or h with rfl | rfl | rfl | rfl | rfl | rfl | rfl | rfl | rfl | rfl
  all_goals
    clear h
    go_enter Try.func49, Try.ntmps49
    go_wp2
    go_ret
    exact ⟨rfl, rfl⟩

/-- The kinds of bodies: none, a stamp, a stamp and a target, an announce's, a target, a management's. -/
theorem kinds (t : Int) : (stB t = false ∧ tgB t = false ∧ t ≠ 11 ∧ t ≠ 13) ∨ (stB t = true ∧ tgB t = false ∧ t ≠ 11 ∧ t ≠ 13) ∨ (stB t = true ∧ tgB t = true ∧ t ≠ 11 ∧ t ≠ 13) ∨ t = 11 ∨ (stB t = false ∧ tgB t = true ∧ t ≠ 11 ∧ t ≠ 13) ∨ t = 13 := by
  by_cases h11 : t = 11
  · exact .inr (.inr (.inr (.inl h11)))
  by_cases h13 : t = 13
  · exact .inr (.inr (.inr (.inr (.inr h13))))
  cases stB t <;> cases tgB t <;> simp [h11, h13]

/-- A body without what its type has not. -/
def ofB (t : Int) (d : Bd) : Bd :=
  ⟨if stB t then d.st else 0, if tgB t then d.tc else 0, if tgB t then d.tp else 0, if t = 11 then d.ut else 0, if t = 11 then d.p1 else 0, if t = 11 then d.qc else 0, if t = 11 then d.qa else 0, if t = 11 then d.qv else 0,
    if t = 11 then d.p2 else 0, if t = 11 then d.gr else 0, if t = 11 then d.sr else 0, if t = 11 then d.og else 0, if t = 13 then d.sh else 0, if t = 13 then d.hp else 0, if t = 13 then d.ac else 0⟩
end Go.Proofs.Ytohgpnlihfcecaa
