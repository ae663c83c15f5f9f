/- Package ident, the calls with bytes: FromMac, Put, Get. -/
import Derived.Test.YtgjffmhlehcoiaaIdent
import Derived.Test.YtgjffmhlehcoiaaOctb
namespace Go.Proofs.Ytgjffmhlehcoiaa
open Go.RowKit Go.Proofs
set_option maxRecDepth 50000
set_option linter.unusedVariables false
set_option linter.unusedSimpArgs false

/-- The number that a card's address makes. -/
def macN (l : List UInt8) : Nat := numAt l 0 3 * 1099511627776 + 1099478073344 + numAt l 3 3

def macV (l : List UInt8) : Int := if l.length = 6 then (macN l : Int) else 0

def macB (l : List UInt8) : Bool := decide (l.length = 6)

theorem macV_yes {l : List UInt8} (h : l.length = 6) : macV l = (macN l : Int) := if_pos h
theorem macV_no {l : List UInt8} (h : l.length ≠ 6) : macV l = 0 := if_neg h
theorem macB_yes {l : List UInt8} (h : l.length = 6) : macB l = true := decide_eq_true h
theorem macB_no {l : List UInt8} (h : l.length ≠ 6) : macB l = false := decide_eq_false h

theorem numAt3_lt (l : List UInt8) (A : Nat) : numAt l A 3 < 16777216 := by
  unfold numAt
  refine Nat.lt_of_lt_of_le (num_small _) ?_
  refine Nat.le_trans (Nat.pow_le_pow_right (by decide) (show _ ≤ 3 from ?_)) (by decide)
  rw [List.length_take]
  omega

/-- Bits that lie below those of another number are added. -/
theorem or_add (a b j : Nat) (hb : b < 2 ^ j) (hlt : 2 ^ j * a + b < 18446744073709551616) : bits .or .u64 ((2 ^ j * a : Nat) : Int) (b : Int) = ((2 ^ j * a + b : Nat) : Int) := by
  have h1 : (BitVec.ofInt 64 ((2 ^ j * a : Nat) : Int)).toNat = 2 ^ j * a := by
    rw [BitVec.toNat_ofInt, Int.emod_eq_of_lt (by omega) (by have h := Int.ofNat_le.2 (Nat.le_refl (2 ^ j * a)); omega), Int.toNat_natCast]
  have h2 : (BitVec.ofInt 64 (b : Int)).toNat = b := by
    rw [BitVec.toNat_ofInt, Int.emod_eq_of_lt (by omega) (by omega), Int.toNat_natCast]
  show IntKind.u64.wrap ((BitVec.ofInt 64 ((2 ^ j * a : Nat) : Int) ||| BitVec.ofInt 64 (b : Int)).toNat : Nat) = _
  rw [BitVec.toNat_or, h1, h2, ← Nat.two_pow_add_eq_or_of_lt hb a, IntKind.wrap_u64]
  generalize 2 ^ j * a + b = s at *
  omega

theorem or_mac (A B : Nat) (hA : A < 16777216) (hB : B < 16777216) :
    bits BinOp.or IntKind.u64 (bits BinOp.or IntKind.u64 ((A : Int) * 1099511627776) 1099478073344) (B : Int) = ((A * 1099511627776 + 1099478073344 + B : Nat) : Int) := by
  have h1 := or_add A 1099478073344 40 (by decide) (by omega)
  have e1 : ((2 ^ 40 * A : Nat) : Int) = (A : Int) * 1099511627776 := by omega
  rw [e1] at h1
  have h2 := or_add (A * 65536 + 65534) B 24 (by omega) (by omega)
  have e2 : ((2 ^ 40 * A + 1099478073344 : Nat) : Int) = ((2 ^ 24 * (A * 65536 + 65534) : Nat) : Int) := by omega
  rw [show bits BinOp.or IntKind.u64 ((A : Int) * 1099511627776) 1099478073344 = _ from h1, e2, h2]
  omega

/-- What a port's identity is in bytes. -/
def portS (c p : Int) : List UInt8 := putN c.toNat 8 ++ putS p 2

theorem portS_length (c p : Int) : (portS c p).length = 10 := by
  unfold portS
  rw [List.length_append, putN_length, putS_length _ 2 (by decide) (by decide)]
  rfl

def gotB (l : List UInt8) (at' : Int) : Bool := standB l.length at' 10
def gotC (l : List UInt8) (at' : Int) : Int := if standB l.length at' 10 then ((numAt l at'.toNat 8 : Nat) : Int) else 0
def gotP (l : List UInt8) (at' : Int) : Int := if standB l.length at' 10 then ((numAt l (at'.toNat + 8) 2 : Nat) : Int) else 0

theorem gotC_yes {l : List UInt8} {at' : Int} (h : standB l.length at' 10 = true) : gotC l at' = (numAt l at'.toNat 8 : Nat) := if_pos h
theorem gotC_no {l : List UInt8} {at' : Int} (h : standB l.length at' 10 = false) : gotC l at' = 0 := by unfold gotC; rw [h]; rfl
theorem gotP_yes {l : List UInt8} {at' : Int} (h : standB l.length at' 10 = true) : gotP l at' = (numAt l (at'.toNat + 8) 2 : Nat) := if_pos h
theorem gotP_no {l : List UInt8} {at' : Int} (h : standB l.length at' 10 = false) : gotP l at' = 0 := by unfold gotP; rw [h]; rfl

theorem box2 (w : World) (x y : Value) (t : TypeId) :
    (∀ wx, Below (w.alloc (Obj.cells #[x, y] t)).heap.size (w.alloc (Obj.cells #[x, y] t)) wx → wx.cell? ⟨w.heap.size, 0, none⟩ = some x) ∧
    (∀ wx, Below (w.alloc (Obj.cells #[x, y] t)).heap.size (w.alloc (Obj.cells #[x, y] t)) wx → wx.cell? ⟨w.heap.size, 1, none⟩ = some y) := by
  constructor <;> intro wx h <;> rw [h.cell (by simp)] <;> simp only [World.cell?] <;> rw [heap_alloc_new] <;> rfl

set_option maxHeartbeats 400000 in
theorem identPut_any (v : Value) (l : List UInt8) (c p : Int) (w : World) (hB : Bytes w v l) (hl : l.length ≤ 140737488355318) (hc : 0 ≤ c) :
    Calls Try.prog 48 #[v, portV c p] w (NewBytes w (l ++ portS c p)) := by
  have HB := hid fun (w' : World) (h : Below w.heap.size w w') => hB.below h
  clear hB
  go_enter Try.func48, Try.ntmps48
  go_wp2_with fail
  have hBW := HB.out _ (bnew w (Obj.cells #[Value.int IntKind.u64 c, Value.int IntKind.i64 p] 37))
  obtain ⟨hX, hY⟩ := box2 w (Value.int IntKind.u64 c) (Value.int IntKind.i64 p) 37
  have HX := hid hX
  have HY := hid hY
  have hbw := bnew w (Obj.cells #[Value.int IntKind.u64 c, Value.int IntKind.i64 p] 37)
  clear hX hY HB
  generalize (w.alloc (Obj.cells #[Value.int IntKind.u64 c, Value.int IntKind.i64 p] 37)) = W at *
  -- REGION put
  refine wp_region_held_drew (S := fun w' => Below W.drew.heap.size W.drew w') (by kernel_rfl) (Below.refl _ _) ?_
  intro hHeld
  have hbW := Below.drew (Below.refl W.heap.size W)
  generalize W.drew = wd at *
  have hcX := fun wx h => HX.out wx (bnext hbW h)
  have hcY := fun wx h => HY.out wx (bnext hbW h)
  refine rtake 0 rfl (by rfl) (by kernel_rfl) (by kernel_rfl) (by kernel_rfl) (fun _ _ _ h => h) hHeld (fun wx hwx => by go_simp; try with_reducible rfl) ?_
  try simp only [Act.put, List.setIfInBounds_toArray, List.set_cons_zero, List.set_cons_succ]
  refine rtake 1 rfl (by rfl) (by kernel_rfl) (by kernel_rfl) (by kernel_rfl) (fun _ _ _ h => h) hHeld (fun wx hwx => by go_simp; try with_reducible rfl) ?_
  try simp only [Act.put, List.setIfInBounds_toArray, List.set_cons_zero, List.set_cons_succ]
  refine rtake 2 rfl (by rfl) (by kernel_rfl) (by kernel_rfl) (by kernel_rfl) (fun _ _ _ h => h) hHeld (fun wx hwx => by go_simp; try with_reducible rfl) ?_
  try simp only [Act.put, List.setIfInBounds_toArray, List.set_cons_zero, List.set_cons_succ]
  refine rtake 4 rfl (by rfl) (by kernel_rfl) (by kernel_rfl) (by kernel_rfl) (fun _ _ _ h => h) hHeld (fun wx hwx => by go_simp; try with_reducible rfl) ?_
  try simp only [Act.put, List.setIfInBounds_toArray, List.set_cons_zero, List.set_cons_succ]
  refine rtake 5 rfl (by rfl) (by kernel_rfl) (by kernel_rfl) (by kernel_rfl) (fun _ _ _ h => h) hHeld (fun wx hwx => by go_simp; try with_reducible rfl) ?_
  try simp only [Act.put, List.setIfInBounds_toArray, List.set_cons_zero, List.set_cons_succ]
  -- CALL 3: some 8 := Op.call { callee := Callee.value (Operand.func 29), args := #[Operand.tmp 5, Operand.tmp 7], argTypes := #[22, 23] }
  refine rcall 3 rfl (by kernel_rfl) (by rfl) (fun K hK => ?_)
  go_simp
  refine (putId_any _ l _ _ (hBW.below hbW) (by omega) hc).mono ?_
  rintro e wx3 ⟨x3, rfl, own3, hbel⟩
  have hst3 := own3.bytes.strs
  refine hK.out _ _ hbel ?_
  clear hK K
  refine wpAnyH_mono (S' := fun w' => Below wx3.heap.size wx3 w') (fun w' h => bnext hbel h) _ _ _ _ ?_
  have hH := Below.refl wx3.heap.size wx3
  have hW := bnext hbW hbel
  clear hbel hbW hHeld
  have hHeld := hH
  have hbW := hW
  clear hH hW
  have hsz3 := hbW.size
  replace hcX := fun wx h => HX.out wx (bnext hbW h)
  replace hcY := fun wx h => HY.out wx (bnext hbW h)
  try simp only [Act.put, List.setIfInBounds_toArray, List.set_cons_zero, List.set_cons_succ]
  -- CALL 6: some 11 := Op.call { callee := Callee.value (Operand.func 28), args := #[Operand.tmp 8, Operand.tmp 10, Operand.const (Value.int IntKind.i64 2)], argTypes := #[22, 3, 3] }
  refine rcall 6 rfl (by kernel_rfl) (by rfl) (fun K hK => ?_)
  go_simp
  refine (put_any _ (l ++ putN c.toNat 8) _ _ _ own3.bytes (by rw [List.length_append, putN_length]; omega)).mono ?_
  rintro e wx6 ⟨x6, rfl, own6, hbel⟩
  have hst6 := own6.bytes.strs
  refine hK.out _ _ hbel ?_
  clear hK K
  refine wpAnyH_mono (S' := fun w' => Below wx6.heap.size wx6 w') (fun w' h => bnext hbel h) _ _ _ _ ?_
  have hH := Below.refl wx6.heap.size wx6
  have hW := bnext hbW hbel
  clear hbel hbW hHeld
  have hHeld := hH
  have hbW := hW
  clear hH hW
  have hsz6 := hbW.size
  replace hcX := fun wx h => HX.out wx (bnext hbW h)
  replace hcY := fun wx h => HY.out wx (bnext hbW h)
  try simp only [Act.put, List.setIfInBounds_toArray, List.set_cons_zero, List.set_cons_succ]
  refine rtake 7 rfl (by rfl) (by kernel_rfl) (by kernel_rfl) (by kernel_rfl) (fun _ _ _ h => h) hHeld (fun wx hwx => by go_simp; try with_reducible rfl) ?_
  try simp only [Act.put, List.setIfInBounds_toArray, List.set_cons_zero, List.set_cons_succ]
  refine wpAnyH_done (by kernel_rfl) ?_ _
  -- END REGION put
  go_wp2_with fail
  go_ret
  refine ⟨x6, rfl, ?_, bnext hbw hbW⟩
  unfold portS
  rw [← List.append_assoc]
  exact own6.mono (Nat.le_trans hbw.size hsz3)
end Go.Proofs.Ytgjffmhlehcoiaa
