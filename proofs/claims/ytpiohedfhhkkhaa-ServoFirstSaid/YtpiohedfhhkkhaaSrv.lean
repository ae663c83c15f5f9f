/- A servo (chapter 20): plainly, and the contracts, whatever it looks like inside (gen_srvlaws.py). -/
import Derived.Test.YtpiohedfhhkkhaaObj
import Derived.Test.YtpiohedfhhkkhaaPlace
import Derived.Test.YtpiohedfhhkkhaaCut
namespace Go.Proofs.Ytpiohedfhhkkhaa
open Go.RowKit Go.Proofs
set_option maxRecDepth 50000
set_option linter.unusedVariables false
set_option linter.unusedSimpArgs false

structure Sv where
  kp : Int
  ki : Int
  sp : Int
  st : Int
  fq : Int
  dr : Int
  cm : Int
def newSv (kp ki sp : Int) : Sv := ⟨cutI kp 0 2000, cutI ki 0 2000, cutI sp 0 1000000000, 0, 0, 0, 0⟩
def InSv (s : Sv) : Prop := (0 ≤ s.kp ∧ s.kp ≤ 2000) ∧ (0 ≤ s.ki ∧ s.ki ≤ 2000) ∧ (0 ≤ s.sp ∧ s.sp ≤ 1000000000) ∧ (0 ≤ s.st ∧ s.st ≤ 2) ∧ (-512000 ≤ s.fq ∧ s.fq ≤ 512000) ∧ (-512000 ≤ s.dr ∧ s.dr ≤ 512000) ∧ (0 ≤ s.cm ∧ s.cm ≤ 4611686018427387904)
theorem newSv_in (kp ki sp : Int) : InSv (newSv kp ki sp) := by
  have h1 := cutI_range (v := kp) (a := 0) (b := 2000) (by decide)
  have h2 := cutI_range (v := ki) (a := 0) (b := 2000) (by decide)
  have h3 := cutI_range (v := sp) (a := 0) (b := 1000000000) (by decide)
  exact ⟨h1, h2, h3, by show (0 : Int) ≤ 0 ∧ (0 : Int) ≤ 2; decide, by show (-512000 : Int) ≤ 0 ∧ (0 : Int) ≤ 512000; decide, by show (-512000 : Int) ≤ 0 ∧ (0 : Int) ≤ 512000; decide, by show (0 : Int) ≤ 0 ∧ (0 : Int) ≤ 4611686018427387904; decide⟩
def ocV (o : Int) : Int := cutI o (-4000000000000000) 4000000000000000
def icV (i : Int) : Int := cutI i 1 16000000000
def setV (s : Sv) (o : Int) : Bool := s.st == 0 || s.sp == 0 || decide (s.sp < ocV o) || decide (ocV o < -s.sp)
def rtV (o i : Int) : Int := cutI ((ocV o * 1000000000).tdiv (icV i)) (-512000000) 512000000
def ndV (s : Sv) (o i : Int) : Int := cutI (s.dr + (s.ki * rtV o i).tdiv 1000) (-512000) 512000
def rfV (s : Sv) (o i : Int) : Int := -((s.kp * rtV o i).tdiv 1000) - ndV s o i
def frV (s : Sv) (o i : Int) : Int := if setV s o then s.fq else cutI (rfV s o i) (-512000) 512000
def byV (s : Sv) (o : Int) : Int := if setV s o then -ocV o else 0
def smB (o : Int) : Bool := decide (-100 ≤ ocV o ∧ ocV o ≤ 100)
def grB (o : Int) : Bool := decide (1000 < ocV o ∨ ocV o < -1000)
def nxV (s : Sv) (o i : Int) : Sv := if setV s o then { s with st := 1, cm := 0 } else
  { s with fq := cutI (rfV s o i) (-512000) 512000
           dr := if rfV s o i < -512000 ∨ 512000 < rfV s o i then s.dr else ndV s o i
           cm := if smB o then s.cm + 1 else 0
           st := if grB o then 1 else if smB o ∧ 3 ≤ s.cm + 1 then 2 else s.st }
def rstV (s : Sv) : Sv := { s with st := 0, fq := 0, dr := 0, cm := 0 }
section
variable {s : Sv} {o i : Int}
theorem nxV_in (h : InSv s) (hc : s.cm < 4611686018427387904) : InSv (nxV s o i) := by
  obtain ⟨h1, h2, h3, h4, h5, h6, h7⟩ := h
  unfold nxV
  cases setV s o
  · refine ⟨h1, h2, h3, ?_, cutI_range (by decide), ?_, ?_⟩
    · show 0 ≤ (if grB o then (1 : Int) else if smB o ∧ 3 ≤ s.cm + 1 then 2 else s.st) ∧ (if grB o then (1 : Int) else if smB o ∧ 3 ≤ s.cm + 1 then 2 else s.st) ≤ 2
      split
      · decide
      · split
        · decide
        · exact h4
    · show -512000 ≤ (if rfV s o i < -512000 ∨ 512000 < rfV s o i then s.dr else ndV s o i) ∧ (if rfV s o i < -512000 ∨ 512000 < rfV s o i then s.dr else ndV s o i) ≤ 512000
      split
      · exact h6
      · exact cutI_range (by decide)
    · show 0 ≤ (if smB o then s.cm + 1 else 0) ∧ (if smB o then s.cm + 1 else 0) ≤ 4611686018427387904
      split <;> omega
  · exact ⟨h1, h2, h3, by show (0 : Int) ≤ 1 ∧ (1 : Int) ≤ 2; decide, h5, h6, by show (0 : Int) ≤ 0 ∧ (0 : Int) ≤ 4611686018427387904; decide⟩
theorem nxV_cm : (nxV s o i).cm ≤ s.cm + 1 ∨ (nxV s o i).cm ≤ 0 := by
  unfold nxV
  cases setV s o
  · show (if smB o then s.cm + 1 else 0) ≤ s.cm + 1 ∨ (if smB o then s.cm + 1 else 0) ≤ 0
    split <;> omega
  · right; exact Int.le_refl 0
theorem nxV_st (h : s.st = 0 ∨ s.st = 1 ∨ s.st = 2) : (nxV s o i).st = 1 ∨ (nxV s o i).st = 2 := by
  unfold nxV
  cases hs : setV s o
  · have h0 : s.st ≠ 0 := by intro h0; simp [setV, h0] at hs
    show (if grB o then (1 : Int) else if smB o ∧ 3 ≤ s.cm + 1 then 2 else s.st) = 1 ∨ (if grB o then (1 : Int) else if smB o ∧ 3 ≤ s.cm + 1 then 2 else s.st) = 2
    split
    · exact .inl rfl
    · split
      · exact .inr rfl
      · omega
  · exact .inl rfl
theorem nxV_set (h : setV s o = true) : nxV s o i = { s with st := 1, cm := 0 } ∧ byV s o = -ocV o ∧ frV s o i = s.fq := by simp [nxV, byV, frV, h]
theorem nxV_not (h : setV s o = false) : (nxV s o i).fq = frV s o i ∧ byV s o = 0 := by simp [nxV, byV, frV, h]
theorem nxV_kp : (nxV s o i).kp = s.kp ∧ (nxV s o i).ki = s.ki ∧ (nxV s o i).sp = s.sp := by unfold nxV; cases setV s o <;> exact ⟨rfl, rfl, rfl⟩
theorem nxV_fq : (nxV s o i).fq = frV s o i := by
  cases h : setV s o
  · exact (nxV_not h).1
  · rw [(nxV_set h).1, (nxV_set (i := i) h).2.2]
theorem frV_in (h : InSv s) : -512000 ≤ frV s o i ∧ frV s o i ≤ 512000 := by
  unfold frV
  split
  · exact h.2.2.2.2.1
  · exact cutI_range (by decide)
theorem rst_new (kp ki sp : Int) (h : s.kp = cutI kp 0 2000 ∧ s.ki = cutI ki 0 2000 ∧ s.sp = cutI sp 0 1000000000) : rstV s = newSv kp ki sp := by
  unfold rstV newSv
  rw [h.1, h.2.1, h.2.2]
end

abbrev SvAt (R : List Value → Sv → Prop) (w : World) (g : Nat) (s : Sv) : Prop := ObAt 37 R w g s
def CNewV (R : List Value → Sv → Prop) : Prop := ∀ (kp ki sp : Int) (w : World),
  Calls Try.prog 9 #[.int .i64 kp, .int .i64 ki, .int .i64 sp] w fun e w' => ∃ g, e = .returned (.pointer (some ⟨g, 0, none⟩)) ∧ w.heap.size ≤ g ∧ SvAt R w' g (newSv kp ki sp) ∧ Below w.heap.size w w'
def CSamp (R : List Value → Sv → Prop) : Prop := ∀ (g : Nat) (s : Sv) (o i : Int) (w : World), SvAt R w g s → InSv s → -9223372036854775808 ≤ o ∧ o ≤ 9223372036854775807 → -9223372036854775808 ≤ i ∧ i ≤ 9223372036854775807 →
  Calls Try.prog 11 #[.pointer (some ⟨g, 0, none⟩), .int .i64 o, .int .i64 i] w fun e w' => e = .returned (.tuple #[.int .i64 (byV s o), .bool (setV s o), .int .i64 (frV s o i)]) ∧ SvAt R w' g (nxV s o i) ∧ Only g w w'
def CStaV (R : List Value → Sv → Prop) : Prop := ∀ (g : Nat) (s : Sv) (w : World), SvAt R w g s → Calls Try.prog 14 #[.pointer (some ⟨g, 0, none⟩)] w fun e w' => e = .returned (.int .i64 s.st) ∧ Below w.heap.size w w'
def CFreV (R : List Value → Sv → Prop) : Prop := ∀ (g : Nat) (s : Sv) (w : World), SvAt R w g s → Calls Try.prog 12 #[.pointer (some ⟨g, 0, none⟩)] w fun e w' => e = .returned (.int .i64 s.fq) ∧ Below w.heap.size w w'
def CDriV (R : List Value → Sv → Prop) : Prop := ∀ (g : Nat) (s : Sv) (w : World), SvAt R w g s → Calls Try.prog 13 #[.pointer (some ⟨g, 0, none⟩)] w fun e w' => e = .returned (.int .i64 s.dr) ∧ Below w.heap.size w w'
def CRstV (R : List Value → Sv → Prop) : Prop := ∀ (g : Nat) (s : Sv) (w : World), SvAt R w g s → Calls Try.prog 16 #[.pointer (some ⟨g, 0, none⟩)] w fun e w' => e = .returned (.tuple #[]) ∧ SvAt R w' g (rstV s) ∧ Only g w w'
end Go.Proofs.Ytpiohedfhhkkhaa
