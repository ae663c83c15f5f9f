/- Package quality, the calls with bytes: Put, Get. -/
import Derived.Test.YtgjffmhlehcoiaaQualb
import Derived.Test.YtgjffmhlehcoiaaOctb
namespace Go.Proofs.Ytgjffmhlehcoiaa
open Go.RowKit Go.Proofs
set_option maxRecDepth 50000
set_option linter.unusedVariables false
set_option linter.unusedSimpArgs false

/-- What a quality is in bytes. -/
def qualS (c a v : Int) : List UInt8 := putS c 1 ++ putS a 1 ++ putS v 2

theorem putS1 (x : Int) : (putS x 1).length = 1 := putS_length x 1 (by decide) (by decide)
theorem putS2 (x : Int) : (putS x 2).length = 2 := putS_length x 2 (by decide) (by decide)

theorem qualS_length (c a v : Int) : (qualS c a v).length = 4 := by
  unfold qualS
  rw [List.length_append, List.length_append, putS1, putS1, putS2]

set_option maxHeartbeats 800000 in
theorem qualPut_any (v : Value) (l : List UInt8) (c a q : Int) (w : World) (hB : Bytes w v l) (hl : l.length ≤ 140737488355320) :
    Calls Try.prog 45 #[v, qualV c a q] w (NewBytes w (l ++ qualS c a q)) := by
  have HB := hid fun (w' : World) (h : Below w.heap.size w w') => hB.below h
  have Hl := hid hl
  clear hB hl
  go_enter Try.func45, Try.ntmps45
  go_wp2_with fail
  obtain ⟨W, hWe, hbw, HX, HY, HZ⟩ := qbox1 w c a q
  rw [← hWe]
  clear hWe
  refine (put_any _ l c 1 _ (HB.out _ hbw) (by have := Hl.out; omega)).mono ?_
  rintro e w1 ⟨x1, rfl, own1, hb1⟩
  have cY := HY.out _ hb1
  go_wp2_with fail
  refine (put_any _ (l ++ putS c 1) a 1 _ own1.bytes (by have := Hl.out; rw [List.length_append, putS1]; omega)).mono ?_
  rintro e w2 ⟨x2, rfl, own2, hb2⟩
  have hb := bnext hb1 hb2
  have cZ := HZ.out _ hb
  clear cY
  go_wp2_with fail
  refine (put_any _ (l ++ putS c 1 ++ putS a 1) q 2 _ own2.bytes (by have := Hl.out; rw [List.length_append, List.length_append, putS1, putS1]; omega)).mono ?_
  rintro e w3 ⟨x3, rfl, own3, hb3⟩
  go_wp2_with fail
  go_ret
  refine ⟨x3, rfl, ?_, bnext hbw (bnext hb hb3)⟩
  unfold qualS
  rw [← List.append_assoc, ← List.append_assoc]
  exact own3.mono (Nat.le_trans hbw.size hb.size)

def gotQB (l : List UInt8) (at' : Int) : Bool := standB l.length at' 4
def gotQC (l : List UInt8) (at' : Int) : Int := if standB l.length at' 4 then ((numAt l at'.toNat 1 : Nat) : Int) else 0
def gotQA (l : List UInt8) (at' : Int) : Int := if standB l.length at' 4 then ((numAt l (at'.toNat + 1) 1 : Nat) : Int) else 0
def gotQV (l : List UInt8) (at' : Int) : Int := if standB l.length at' 4 then ((numAt l (at'.toNat + 2) 2 : Nat) : Int) else 0

theorem gotQ_yes {l : List UInt8} {at' : Int} (h : standB l.length at' 4 = true) : gotQB l at' = true ∧ gotQC l at' = (numAt l at'.toNat 1 : Nat) ∧ gotQA l at' = (numAt l (at'.toNat + 1) 1 : Nat) ∧ gotQV l at' = (numAt l (at'.toNat + 2) 2 : Nat) :=
  ⟨h, if_pos h, if_pos h, if_pos h⟩
theorem gotQ_no {l : List UInt8} {at' : Int} (h : standB l.length at' 4 = false) : gotQB l at' = false ∧ gotQC l at' = 0 ∧ gotQA l at' = 0 ∧ gotQV l at' = 0 := by
  unfold gotQB gotQC gotQA gotQV
  rw [h]
  exact ⟨rfl, rfl, rfl, rfl⟩

theorem bnew2c (w : World) (o o' : Obj) : Below w.heap.size w ((w.alloc o).alloc o') := (bnew w o).alloc (bnew w o).size _
end Go.Proofs.Ytgjffmhlehcoiaa
