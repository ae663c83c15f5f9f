/- Cmp, Ident, Identb, IdentRef, IdentRefb in one. -/
import Derived.Test.YtohgpnlihfcecaaB1
import Derived.OwnWalk
import Derived.Test.YtohgpnlihfcecaaB2
namespace Go.Proofs.Ytohgpnlihfcecaa
section
open Go.RowKit Go.Proofs
set_option maxRecDepth 50000
set_option linter.unusedVariables false
set_option linter.unusedSimpArgs false

/-- -1, 0, 1 of two numbers. -/
def cmpI (a b : Int) : Int := if a < b then -1 else if b < a then 1 else 0

theorem cmpI_lt {a b : Int} (h : a < b) : cmpI a b = -1 := if_pos h
theorem cmpI_gt {a b : Int} (h : b < a) : cmpI a b = 1 := by unfold cmpI; rw [if_neg (by omega), if_pos h]
theorem cmpI_eq {a b : Int} (h : a = b) : cmpI a b = 0 := by unfold cmpI; rw [if_neg (by omega), if_neg (by omega)]



end

section
open Go.RowKit Go.Proofs
set_option maxRecDepth 50000
set_option linter.unusedVariables false
set_option linter.unusedSimpArgs false

/-- A port's identity as a value. -/
abbrev portV (c p : Int) : Value := .agg #[.int .u64 c, .int .i64 p]

/-- .. of two ports: the clock, then the port. -/
def cmpP (a a' b b' : Int) : Int := if a = b then cmpI a' b' else cmpI a b

theorem cmpP_same {a a' b b' : Int} (h : a = b) : cmpP a a' b b' = cmpI a' b' := if_pos h
theorem cmpP_other {a a' b b' : Int} (h : a ≠ b) : cmpP a a' b b' = cmpI a b := if_neg h

def mayP (p : Int) : Bool := decide (0 ≤ p ∧ p ≤ 65535)

/-- Whether a target (t, t') means a port (p, p'). -/
def meantB (t t' p p' : Int) : Bool := (decide (t = 18446744073709551615) || decide (t = p)) && (decide (t' = 65535) || decide (t' = p'))

set_option maxHeartbeats 400000 in
theorem identMay_any (c p : Int) (w : World) :
    Calls Try.prog 76 #[portV c p] w fun e w' => e = .returned (.bool (mayP p)) ∧ Below w.heap.size w w' := by
  by_cases h : 0 ≤ p
  · go_enter Try.func76, Try.ntmps76
    go_wp2
    go_ret
    exact ⟨ret_bool (by unfold mayP; first | (simp [h]; done) | (symm; rw [decide_eq_false_iff_not]; omega)), bnew _ _⟩
  · go_enter Try.func76, Try.ntmps76
    go_wp2
    go_ret
    exact ⟨ret_bool (by unfold mayP; first | (simp [h]; done) | (symm; rw [decide_eq_false_iff_not]; omega)), bnew _ _⟩

set_option maxHeartbeats 400000 in
theorem refIdentMay_any (c p : Int) (w : World) :
    Calls Try.prog 50 #[portV c p] w fun e w' => e = .returned (.bool (mayP p)) ∧ Below w.heap.size w w' := by
  by_cases h : 0 ≤ p
  · go_enter Try.func50, Try.ntmps50
    go_wp2
    go_ret
    exact ⟨ret_bool (by unfold mayP; first | (simp [h]; done) | (symm; rw [decide_eq_false_iff_not]; omega)), bnew _ _⟩
  · go_enter Try.func50, Try.ntmps50
    go_wp2
    go_ret
    exact ⟨ret_bool (by unfold mayP; first | (simp [h]; done) | (symm; rw [decide_eq_false_iff_not]; omega)), bnew _ _⟩

theorem bnew2 (w : World) (o o' : Obj) : Below w.heap.size w ((w.alloc o).alloc o') := (bnew w o).alloc (bnew w o).size _

theorem decide_beq (a b : Int) : (a == b) = decide (a = b) := by rw [Bool.eq_iff_iff, beq_iff_eq, decide_eq_true_iff]

theorem meantB_all {t' p p' : Int} : meantB 18446744073709551615 t' p p' = (decide (t' = 65535) || decide (t' = p')) := by unfold meantB; simp
theorem meantB_no {t t' p p' : Int} (h : t ≠ 18446744073709551615) (h' : t ≠ p) : meantB t t' p p' = false := by unfold meantB; simp [h, h']
theorem meantB_one {t' p p' : Int} : meantB p t' p p' = (decide (t' = 65535) || decide (t' = p')) := by unfold meantB; simp


end

section
open Go.RowKit Go.Proofs
set_option maxRecDepth 50000
set_option linter.unusedVariables false
set_option linter.unusedSimpArgs false

/-- The number that a card's address makes. -/
def macN (l : List UInt8) : Nat := numAt l 0 3 * 1099511627776 + 1099478073344 + numAt l 3 3

def macV (l : List UInt8) : Int := if l.length = 6 then (macN l : Int) else 0

def macB (l : List UInt8) : Bool := decide (l.length = 6)

theorem macV_yes {l : List UInt8} (h : l.length = 6) : macV l = (macN l : Int) := if_pos h
theorem macV_no {l : List UInt8} (h : l.length ≠ 6) : macV l = 0 := if_neg h
theorem macB_yes {l : List UInt8} (h : l.length = 6) : macB l = true := decide_eq_true h
theorem macB_no {l : List UInt8} (h : l.length ≠ 6) : macB l = false := decide_eq_false h

theorem numAt3_lt (l : List UInt8) (A : Nat) : numAt l A 3 < 16777216 := by
  unfold numAt
  refine Nat.lt_of_lt_of_le (num_small _) ?_
  refine Nat.le_trans (Nat.pow_le_pow_right (by decide) (show _ ≤ 3 from ?_)) (by decide)
  rw [List.length_take]
  omega

/-- Bits that lie below those of another number are added. -/
theorem or_add (a b j : Nat) (hb : b < 2 ^ j) (hlt : 2 ^ j * a + b < 18446744073709551616) : bits .or .u64 ((2 ^ j * a : Nat) : Int) (b : Int) = ((2 ^ j * a + b : Nat) : Int) := by
  have h1 : (BitVec.ofInt 64 ((2 ^ j * a : Nat) : Int)).toNat = 2 ^ j * a := by
    rw [BitVec.toNat_ofInt, Int.emod_eq_of_lt (by omega) (by have h := Int.ofNat_le.2 (Nat.le_refl (2 ^ j * a)); omega), Int.toNat_natCast]
  have h2 : (BitVec.ofInt 64 (b : Int)).toNat = b := by
    rw [BitVec.toNat_ofInt, Int.emod_eq_of_lt (by omega) (by omega), Int.toNat_natCast]
  show IntKind.u64.wrap ((BitVec.ofInt 64 ((2 ^ j * a : Nat) : Int) ||| BitVec.ofInt 64 (b : Int)).toNat : Nat) = _
  rw [BitVec.toNat_or, h1, h2, ← Nat.two_pow_add_eq_or_of_lt hb a, IntKind.wrap_u64]
  generalize 2 ^ j * a + b = s at *
  omega

theorem or_mac (A B : Nat) (hA : A < 16777216) (hB : B < 16777216) :
    bits BinOp.or IntKind.u64 (bits BinOp.or IntKind.u64 ((A : Int) * 1099511627776) 1099478073344) (B : Int) = ((A * 1099511627776 + 1099478073344 + B : Nat) : Int) := by
  have h1 := or_add A 1099478073344 40 (by decide) (by omega)
  have e1 : ((2 ^ 40 * A : Nat) : Int) = (A : Int) * 1099511627776 := by omega
  rw [e1] at h1
  have h2 := or_add (A * 65536 + 65534) B 24 (by omega) (by omega)
  have e2 : ((2 ^ 40 * A + 1099478073344 : Nat) : Int) = ((2 ^ 24 * (A * 65536 + 65534) : Nat) : Int) := by omega
  rw [show bits BinOp.or IntKind.u64 ((A : Int) * 1099511627776) 1099478073344 = _ from h1, e2, h2]
  omega

/-- What a port's identity is in bytes. -/
def portS (c p : Int) : List UInt8 := putN c.toNat 8 ++ putS p 2

theorem portS_length (c p : Int) : (portS c p).length = 10 := by
  unfold portS
  rw [List.length_append, putN_length, putS_length _ 2 (by decide) (by decide)]
  rfl

def gotB (l : List UInt8) (at' : Int) : Bool := standB l.length at' 10
def gotC (l : List UInt8) (at' : Int) : Int := if standB l.length at' 10 then ((numAt l at'.toNat 8 : Nat) : Int) else 0
def gotP (l : List UInt8) (at' : Int) : Int := if standB l.length at' 10 then ((numAt l (at'.toNat + 8) 2 : Nat) : Int) else 0

theorem gotC_yes {l : List UInt8} {at' : Int} (h : standB l.length at' 10 = true) : gotC l at' = (numAt l at'.toNat 8 : Nat) := if_pos h
theorem gotC_no {l : List UInt8} {at' : Int} (h : standB l.length at' 10 = false) : gotC l at' = 0 := by unfold gotC; rw [h]; rfl
theorem gotP_yes {l : List UInt8} {at' : Int} (h : standB l.length at' 10 = true) : gotP l at' = (numAt l (at'.toNat + 8) 2 : Nat) := if_pos h
theorem gotP_no {l : List UInt8} {at' : Int} (h : standB l.length at' 10 = false) : gotP l at' = 0 := by unfold gotP; rw [h]; rfl

set_option maxHeartbeats 800000 in
theorem identGet_any (v : Value) (l : List UInt8) (at' : Int) (w : World) (hB : Bytes w v l) (hl : l.length ≤ 140737488355328) (hat : at' ≤ 9223372036854775807) :
    Calls Try.prog 62 #[v, .int .i64 at'] w fun e w' => e = .returned (.tuple #[portV (gotC l at') (gotP l at'), .bool (gotB l at')]) ∧ Below w.heap.size w w' := by
  have HB := hid fun (w' : World) (h : Below w.heap.size w w') => hB.below h
  cases h8 : standB l.length at' 8
  · have h10 : standB l.length at' 10 = false := by
      refine standB_false fun h => ?_
      rw [standB_true h.1 (by decide) (by omega)] at h8
      cases h8
    rw [gotC_no h10, gotP_no h10, show gotB l at' = false from h10]
    have H8 := hid h8
    clear h8 h10 hB
    go_enter Try.func62, Try.ntmps62
    go_wp2_with fail
    refine (getId_no _ l _ _ (HB.out _ (bnew _ _)) hl hat H8.out).mono ?_
    rintro e w' ⟨rfl, rfl⟩
    go_wp2_with fail
    exact bodyPost_ret (v := .tuple #[portV _ _, .bool _]) (by simp [results, Try.results62, go_sem]) rfl ⟨rfl, bnew _ _⟩
  have hs8 := standB_iff.1 h8
  cases h10 : standB l.length at' 10
  · rw [gotC_no h10, gotP_no h10, show gotB l at' = false from h10]
    have H8 := hid h8
    have h2 : standB l.length (at' + 8) 2 = false := by
      refine standB_false fun h => ?_
      rw [standB_true hs8.1 (by decide) (by omega)] at h10
      cases h10
    have H2 := hid h2
    clear h8 h10 h2 hB
    go_enter Try.func62, Try.ntmps62
    go_wp2_with fail
    refine (getId_ok _ l _ _ (HB.out _ (bnew _ _)) hl hat H8.out).mono ?_
    rintro e w' ⟨rfl, rfl⟩
    go_wp2_with fail
    refine (get_no _ l _ _ _ (HB.out _ (bnew _ _)) hl (by omega) (.inr H2.out)).mono ?_
    rintro e w' ⟨rfl, rfl⟩
    go_wp2_with fail
    exact bodyPost_ret (v := .tuple #[portV _ _, .bool _]) (by simp [results, Try.results62, go_sem]) rfl ⟨rfl, bnew _ _⟩
  · rw [gotC_yes h10, gotP_yes h10, show gotB l at' = true from h10]
    have hs10 := standB_iff.1 h10
    have h2 : standB l.length (at' + 8) 2 = true := standB_true (by omega) (by decide) (by omega)
    have H8 := hid h8
    have H2 := hid h2
    have e8 : (at' + 8).toNat = at'.toNat + 8 := by omega
    have E8 := hid e8
    clear h8 h10 h2 hB e8
    go_enter Try.func62, Try.ntmps62
    go_wp2_with fail
    refine (getId_ok _ l _ _ (HB.out _ (bnew _ _)) hl hat H8.out).mono ?_
    rintro e w' ⟨rfl, rfl⟩
    go_wp2_with fail
    refine (get_ok _ l _ _ _ (HB.out _ (bnew _ _)) hl (by omega) (by decide) (by decide) H2.out).mono ?_
    rintro e w' ⟨rfl, rfl⟩
    rw [E8.out, show (2 : Int).toNat = 2 by decide]
    go_wp2_with fail
    exact bodyPost_ret (v := .tuple #[portV _ _, .bool _]) (by simp [results, Try.results62, go_sem]) rfl ⟨rfl, bnew _ _⟩

theorem box2 (w : World) (x y : Value) (t : TypeId) :
    (∀ wx, Below (w.alloc (Obj.cells #[x, y] t)).heap.size (w.alloc (Obj.cells #[x, y] t)) wx → wx.cell? ⟨w.heap.size, 0, none⟩ = some x) ∧
    (∀ wx, Below (w.alloc (Obj.cells #[x, y] t)).heap.size (w.alloc (Obj.cells #[x, y] t)) wx → wx.cell? ⟨w.heap.size, 1, none⟩ = some y) := by
  constructor <;> intro wx h <;> rw [h.cell (by simp)] <;> simp only [World.cell?] <;> rw [heap_alloc_new] <;> rfl

set_option maxHeartbeats 400000 in
theorem identPut_any (v : Value) (l : List UInt8) (c p : Int) (w : World) (hB : Bytes w v l) (hl : l.length ≤ 140737488355318) (hc : 0 ≤ c) :
    Calls Try.prog 43 #[v, portV c p] w (NewBytes w (l ++ portS c p)) := by
  have HB := hid fun (w' : World) (h : Below w.heap.size w w') => hB.below h
  clear hB
  go_enter Try.func43, Try.ntmps43
  go_wp2_with fail
  have hBW := HB.out _ (bnew w (Obj.cells #[Value.int IntKind.u64 c, Value.int IntKind.i64 p] 24))
  obtain ⟨hX, hY⟩ := box2 w (Value.int IntKind.u64 c) (Value.int IntKind.i64 p) 24
  have HX := hid hX
  have HY := hid hY
  have hbw := bnew w (Obj.cells #[Value.int IntKind.u64 c, Value.int IntKind.i64 p] 24)
  clear hX hY HB
  generalize (w.alloc (Obj.cells #[Value.int IntKind.u64 c, Value.int IntKind.i64 p] 24)) = W at *
  -- REGION put
  refine wp_region_held_drew (S := fun w' => Below W.drew.heap.size W.drew w') (by kernel_rfl) (Below.refl _ _) ?_
  intro hHeld
  have hbW := Below.drew (Below.refl W.heap.size W)
  generalize W.drew = wd at *
  have hcX := fun wx h => HX.out wx (bnext hbW h)
  have hcY := fun wx h => HY.out wx (bnext hbW h)
  refine rtake 0 rfl (by rfl) (by kernel_rfl) (by kernel_rfl) (by kernel_rfl) (fun _ _ _ h => h) hHeld (fun wx hwx => by go_simp; try with_reducible rfl) ?_
  try simp only [Act.put, List.setIfInBounds_toArray, List.set_cons_zero, List.set_cons_succ]
  refine rtake 1 rfl (by rfl) (by kernel_rfl) (by kernel_rfl) (by kernel_rfl) (fun _ _ _ h => h) hHeld (fun wx hwx => by go_simp; try with_reducible rfl) ?_
  try simp only [Act.put, List.setIfInBounds_toArray, List.set_cons_zero, List.set_cons_succ]
  refine rtake 2 rfl (by rfl) (by kernel_rfl) (by kernel_rfl) (by kernel_rfl) (fun _ _ _ h => h) hHeld (fun wx hwx => by go_simp; try with_reducible rfl) ?_
  try simp only [Act.put, List.setIfInBounds_toArray, List.set_cons_zero, List.set_cons_succ]
  refine rtake 4 rfl (by rfl) (by kernel_rfl) (by kernel_rfl) (by kernel_rfl) (fun _ _ _ h => h) hHeld (fun wx hwx => by go_simp; try with_reducible rfl) ?_
  try simp only [Act.put, List.setIfInBounds_toArray, List.set_cons_zero, List.set_cons_succ]
  refine rtake 5 rfl (by rfl) (by kernel_rfl) (by kernel_rfl) (by kernel_rfl) (fun _ _ _ h => h) hHeld (fun wx hwx => by go_simp; try with_reducible rfl) ?_
  try simp only [Act.put, List.setIfInBounds_toArray, List.set_cons_zero, List.set_cons_succ]
  -- CALL 3: some 8 := Op.call { callee := Callee.value (Operand.func 29), args := #[Operand.tmp 5, Operand.tmp 7], argTypes := #[22, 23] }
  refine rcall 3 rfl (by kernel_rfl) (by rfl) (fun K hK => ?_)
  go_simp
  refine (putId_any _ l _ _ (hBW.below hbW) (by omega) hc).mono ?_
  rintro e wx3 ⟨x3, rfl, own3, hbel⟩
  have hst3 := own3.bytes.strs
  refine hK.out _ _ hbel ?_
  clear hK K
  refine wpAnyH_mono (S' := fun w' => Below wx3.heap.size wx3 w') (fun w' h => bnext hbel h) _ _ _ _ ?_
  have hH := Below.refl wx3.heap.size wx3
  have hW := bnext hbW hbel
  clear hbel hbW hHeld
  have hHeld := hH
  have hbW := hW
  clear hH hW
  have hsz3 := hbW.size
  replace hcX := fun wx h => HX.out wx (bnext hbW h)
  replace hcY := fun wx h => HY.out wx (bnext hbW h)
  try simp only [Act.put, List.setIfInBounds_toArray, List.set_cons_zero, List.set_cons_succ]
  -- CALL 6: some 11 := Op.call { callee := Callee.value (Operand.func 28), args := #[Operand.tmp 8, Operand.tmp 10, Operand.const (Value.int IntKind.i64 2)], argTypes := #[22, 3, 3] }
  refine rcall 6 rfl (by kernel_rfl) (by rfl) (fun K hK => ?_)
  go_simp
  refine (put_any _ (l ++ putN c.toNat 8) _ _ _ own3.bytes (by rw [List.length_append, putN_length]; omega)).mono ?_
  rintro e wx6 ⟨x6, rfl, own6, hbel⟩
  have hst6 := own6.bytes.strs
  refine hK.out _ _ hbel ?_
  clear hK K
  refine wpAnyH_mono (S' := fun w' => Below wx6.heap.size wx6 w') (fun w' h => bnext hbel h) _ _ _ _ ?_
  have hH := Below.refl wx6.heap.size wx6
  have hW := bnext hbW hbel
  clear hbel hbW hHeld
  have hHeld := hH
  have hbW := hW
  clear hH hW
  have hsz6 := hbW.size
  replace hcX := fun wx h => HX.out wx (bnext hbW h)
  replace hcY := fun wx h => HY.out wx (bnext hbW h)
  try simp only [Act.put, List.setIfInBounds_toArray, List.set_cons_zero, List.set_cons_succ]
  refine rtake 7 rfl (by rfl) (by kernel_rfl) (by kernel_rfl) (by kernel_rfl) (fun _ _ _ h => h) hHeld (fun wx hwx => by go_simp; try with_reducible rfl) ?_
  try simp only [Act.put, List.setIfInBounds_toArray, List.set_cons_zero, List.set_cons_succ]
  refine wpAnyH_done (by kernel_rfl) ?_ _
  -- END REGION put
  go_wp2_with fail
  go_ret
  refine ⟨x6, rfl, ?_, bnext hbw hbW⟩
  unfold portS
  rw [← List.append_assoc]
  exact own6.mono (Nat.le_trans hbw.size hsz3)
end

section
open Go.RowKit Go.Proofs
set_option maxRecDepth 50000
set_option linter.unusedVariables false
set_option linter.unusedSimpArgs false

theorem num_take_wrap (l : List UInt8) (A k : Nat) (h : A + k < l.length) : num ((l.drop A).take (k + 1)) = (256 * num ((l.drop A).take k) + l[A + k].toNat) % 18446744073709551616 := by
  have h1 : (l.drop A).take (k + 1) = (l.drop A).take k ++ [l[A + k]] := by
    rw [take_snoc _ k (by rw [List.length_drop]; omega), List.getElem_drop]
  rw [h1, num_snoc, Nat.mul_comm]

set_option maxHeartbeats 800000 in
theorem refId_ok (v : Value) (l : List UInt8) (at' : Int) (w : World) (hB : Bytes w v l) (hl : l.length ≤ 140737488355328) (hat : at' ≤ 9223372036854775807) (hn : standB l.length at' 8 = true) :
    Calls Try.prog 73 #[v, .int .i64 at'] w fun e w' => e = .returned (.tuple #[.int .u64 (numAt l at'.toNat 8), .bool true]) ∧ w = w' := by
  obtain ⟨p, cap, rfl, hcap, hmax, hpat⟩ := hB
  have hs := standB_iff.1 hn
  obtain ⟨ha0, hn0, hfit⟩ := hs
  obtain ⟨A, rfl⟩ := Int.eq_ofNat_of_zero_le ha0
  rw [Int.toNat_natCast]
  obtain ⟨b, off, rfl, hlt, hc⟩ := hpat.pos (by omega)
  have Hc := hid hc
  have Hn := hid hn
  unfold maxLen at hmax
  clear hc hn hpat
  go_enter Try.func73, Try.ntmps73
  go_wp2_with fail
  refine (fits_any _ _ _ _ _ _ (by omega) hat (by decide)).mono ?_
  rintro e w' ⟨rfl, rfl⟩
  rw [Hn.out]
  go_wp2_with fail
  go_loop [6, 7] (fun v i => ∃ (k : Nat) (X : Int), k ≤ 8 ∧ i = .int .i64 k ∧ v = .int .u64 X ∧ 0 ≤ X ∧ X < 18446744073709551616 ∧ Hid (X = (num ((l.drop A).take k) : Nat))) (fun _ i => 8 - (intOf i).toNat)
  case atStart => exact ⟨0, 0, Nat.zero_le _, rfl, rfl, by decide, by decide, hid (by simp [num])⟩
  case round =>
    obtain ⟨k, X, hk, rfl, rfl, hX0, hXlt, hX⟩ := hrel
    by_cases hlt : k < 8
    · have hcell := Hc.out (A + k) (by omega)
      have hb : l[A + k].toNat < 256 := l[A + k].toNat_lt
      go_wp2_with fail
      go_round
      case rel =>
        have h1 := num_take_wrap l A k (by omega)
        have h2 := hX.out
        refine ⟨k + 1, ((256 * X + (l[A + k].toNat : Nat)) % 18446744073709551616 : Int), by omega, by go_num, ?_, by omega, by omega, hid (by omega)⟩
        congr 1
        try rw [IntKind.wrap_u64]
        try rw [IntKind.wrap_u64]
        omega
      case measure => simp [intOf]; omega
    · obtain rfl : k = 8 := by omega
      go_wp2_with fail
      go_ret2
      exact ⟨ret_int_bool hX.out rfl, rfl⟩

set_option maxHeartbeats 400000 in
theorem refId_no (v : Value) (l : List UInt8) (at' : Int) (w : World) (hB : Bytes w v l) (hl : l.length ≤ 140737488355328) (hat : at' ≤ 9223372036854775807) (hn : standB l.length at' 8 = false) :
    Calls Try.prog 73 #[v, .int .i64 at'] w fun e w' => e = .returned (.tuple #[.int .u64 0, .bool false]) ∧ w = w' := by
  obtain ⟨p, cap, rfl, hcap, hmax, hpat⟩ := hB
  have Hn := hid hn
  clear hn
  go_enter Try.func73, Try.ntmps73
  go_wp2_with fail
  refine (fits_any _ _ _ _ _ _ (by omega) hat (by decide)).mono ?_
  rintro e w' ⟨rfl, rfl⟩
  rw [Hn.out]
  go_wp2_with fail
  go_ret2
  exact ⟨rfl, rfl⟩

set_option maxHeartbeats 800000 in
theorem refIdentGet_any (v : Value) (l : List UInt8) (at' : Int) (w : World) (hB : Bytes w v l) (hl : l.length ≤ 140737488355328) (hat : at' ≤ 9223372036854775807) :
    Calls Try.prog 70 #[v, .int .i64 at'] w fun e w' => e = .returned (.tuple #[portV (gotC l at') (gotP l at'), .bool (gotB l at')]) ∧ Below w.heap.size w w' := by
  have HB := hid fun (w' : World) (h : Below w.heap.size w w') => hB.below h
  cases h8 : standB l.length at' 8
  · have h10 : standB l.length at' 10 = false := by
      refine standB_false fun h => ?_
      rw [standB_true h.1 (by decide) (by omega)] at h8
      cases h8
    rw [gotC_no h10, gotP_no h10, show gotB l at' = false from h10]
    have H8 := hid h8
    clear h8 h10 hB
    go_enter Try.func70, Try.ntmps70
    go_wp2_with fail
    refine (refId_no _ l _ _ (HB.out _ (bnew _ _)) hl hat H8.out).mono ?_
    rintro e w' ⟨rfl, rfl⟩
    go_wp2_with fail
    exact bodyPost_ret (v := .tuple #[portV _ _, .bool _]) (by simp [results, Try.results70, go_sem]) rfl ⟨rfl, bnew _ _⟩
  have hs8 := standB_iff.1 h8
  obtain ⟨p, cap, rfl, hcap, hmax, hpat⟩ := hB
  cases h10 : standB l.length at' 10
  · rw [gotC_no h10, gotP_no h10, show gotB l at' = false from h10]
    have H8 := hid h8
    have hgt : (l.length : Int) - 10 < at' := by
      rcases Int.lt_or_le ((l.length : Int) - 10) at' with h | h
      · exact h
      · rw [standB_true hs8.1 (by decide) (by omega)] at h10
        cases h10
    clear h8 h10 hpat
    go_enter Try.func70, Try.ntmps70
    go_wp2_with fail
    refine (refId_ok _ l _ _ (HB.out _ (bnew _ _)) hl hat H8.out).mono ?_
    rintro e w' ⟨rfl, rfl⟩
    go_wp2_with fail
    exact bodyPost_ret (v := .tuple #[portV _ _, .bool _]) (by simp [results, Try.results70, go_sem]) rfl ⟨rfl, bnew _ _⟩
  · rw [gotC_yes h10, gotP_yes h10, show gotB l at' = true from h10]
    have hs10 := standB_iff.1 h10
    have h2 : standB l.length (at' + 8) 2 = true := standB_true (by omega) (by decide) (by omega)
    have H8 := hid h8
    have H2 := hid h2
    have e8 : (at' + 8).toNat = at'.toNat + 8 := by omega
    have E8 := hid e8
    clear h8 h10 h2 hpat e8
    go_enter Try.func70, Try.ntmps70
    go_wp2_with fail
    refine (refId_ok _ l _ _ (HB.out _ (bnew _ _)) hl hat H8.out).mono ?_
    rintro e w' ⟨rfl, rfl⟩
    go_wp2_with fail
    refine (refGet_ok _ l _ _ _ (HB.out _ (bnew _ _)) hl (by omega) (by decide) (by decide) H2.out).mono ?_
    rintro e w' ⟨rfl, rfl⟩
    rw [E8.out, show (2 : Int).toNat = 2 by decide]
    go_wp2_with fail
    exact bodyPost_ret (v := .tuple #[portV _ _, .bool _]) (by simp [results, Try.results70, go_sem]) rfl ⟨rfl, bnew _ _⟩
end

section
open Go.RowKit Go.Proofs
set_option maxRecDepth 50000
set_option linter.unusedVariables false
set_option linter.unusedSimpArgs false

set_option maxHeartbeats 800000 in
theorem refIdentPut_any (c p : Int) (w : World) (hc : 0 ≤ c) (hc2 : c < 18446744073709551616) :
    Calls Try.prog 53 #[portV c p] w (NewBytes w (portS c p)) := by
  have HC := hid hc2
  clear hc2
  go_enter Try.func53, Try.ntmps53
  go_wp2_with fail
  obtain ⟨hX, hY⟩ := box2 w (Value.int IntKind.u64 c) (Value.int IntKind.i64 p) 24
  have HX := hid hX
  have HY := hid hY
  have hbw := bnew w (Obj.cells #[Value.int IntKind.u64 c, Value.int IntKind.i64 p] 24)
  clear hX hY
  generalize (w.alloc (Obj.cells #[Value.int IntKind.u64 c, Value.int IntKind.i64 p] 24)) = W at *
  -- REGION refput
  refine wp_region_held_drew (S := fun w' => Below W.drew.heap.size W.drew w') (by kernel_rfl) (Below.refl _ _) ?_
  intro hHeld
  have hbW := Below.drew (Below.refl W.heap.size W)
  generalize W.drew = wd at *
  have hcX := fun wx h => HX.out wx (bnext hbW h)
  have hcY := fun wx h => HY.out wx (bnext hbW h)
  refine rtake 0 rfl (by rfl) (by kernel_rfl) (by kernel_rfl) (by kernel_rfl) (fun _ _ _ h => h) hHeld (fun wx hwx => by go_simp; try with_reducible rfl) ?_
  try simp only [Act.put, List.setIfInBounds_toArray, List.set_cons_zero, List.set_cons_succ]
  refine rtake 1 rfl (by rfl) (by kernel_rfl) (by kernel_rfl) (by kernel_rfl) (fun _ _ _ h => h) hHeld (fun wx hwx => by go_simp; try with_reducible rfl) ?_
  try simp only [Act.put, List.setIfInBounds_toArray, List.set_cons_zero, List.set_cons_succ]
  refine rtake 3 rfl (by rfl) (by kernel_rfl) (by kernel_rfl) (by kernel_rfl) (fun _ _ _ h => h) hHeld (fun wx hwx => by go_simp; try with_reducible rfl) ?_
  try simp only [Act.put, List.setIfInBounds_toArray, List.set_cons_zero, List.set_cons_succ]
  refine rtake 4 rfl (by rfl) (by kernel_rfl) (by kernel_rfl) (by kernel_rfl) (fun _ _ _ h => h) hHeld (fun wx hwx => by go_simp; try with_reducible rfl) ?_
  try simp only [Act.put, List.setIfInBounds_toArray, List.set_cons_zero, List.set_cons_succ]
  -- CALL 2: some 5 := Op.call { callee := Callee.value (Operand.func 30), args := #[Operand.tmp 4], argTypes := #[23] }
  refine rcall 2 rfl (by kernel_rfl) (by rfl) (fun K hK => ?_)
  go_simp
  refine (refPutId_any _ _ hc HC.out).mono ?_
  rintro e wx2 ⟨x2, rfl, own2, hbel2⟩
  have hH := bnext hHeld hbel2
  refine hK.out _ _ hH ?_
  clear hK K hHeld
  have hHeld := hH
  clear hH
  try simp only [Act.put, List.setIfInBounds_toArray, List.set_cons_zero, List.set_cons_succ]
  -- CALL 5: some 8 := Op.call { callee := Callee.value (Operand.func 31), args := #[Operand.tmp 7, Operand.const (Value.int IntKind.i64 2)], argTypes := #[3, 3] }
  refine rcall 5 rfl (by kernel_rfl) (by rfl) (fun K hK => ?_)
  go_simp
  refine (refPut_any _ _ _).mono ?_
  rintro e wx5 ⟨x5, rfl, own5, hbel5⟩
  have own2b := own2.below hbel5
  have hH := bnext hHeld hbel5
  refine hK.out _ _ hH ?_
  clear hK K hHeld
  have hHeld := hH
  clear hH
  try simp only [Act.put, List.setIfInBounds_toArray, List.set_cons_zero, List.set_cons_succ]
  -- CALL 6: some 9 := Op.call { callee := Callee.builtin Builtin.append, args := #[Operand.tmp 5, Operand.tmp 8], argTypes := #[22, 22] }
  refine rcall 6 rfl (by kernel_rfl) (by rfl) (fun K hK => ?_)
  refine op_append_bytes (o := ⟨some 9, _, _, _, _, _⟩) _ _ rfl rfl wd.heap.size _ _ _ _ rfl rfl own2b own5.bytes (by rw [putN_length, putS_length _ 2 (by decide) (by decide)]; decide) hHeld.size ?_
  intro x6 wx6 own6 hbel6
  have hH := hHeld.trans hbel6
  refine hK.out _ _ hH ?_
  clear hK K hHeld
  have hHeld := hH
  clear hH
  try simp only [Act.put, List.setIfInBounds_toArray, List.set_cons_zero, List.set_cons_succ]
  refine rtake 7 rfl (by rfl) (by kernel_rfl) (by kernel_rfl) (by kernel_rfl) (fun _ _ _ h => h) hHeld (fun wx hwx => by go_simp; try with_reducible rfl) ?_
  try simp only [Act.put, List.setIfInBounds_toArray, List.set_cons_zero, List.set_cons_succ]
  refine wpAnyH_done (by kernel_rfl) ?_ _
  -- END REGION refput
  go_wp2_with fail
  go_ret
  refine ⟨x6, rfl, ?_, bnext hbw (bnext hbW hHeld)⟩
  unfold portS
  exact own6.mono (Nat.le_trans hbw.size hbW.size)

theorem mac_num (l : List UInt8) (h : l.length = 6) : numAt (l.take 3 ++ [255, 254] ++ l.drop 3) (Int.toNat 0) 8 = macN l := by
  match l, h with
  | [a, b, c, d, e, f], _ =>
    have ha := a.toNat_lt
    have hb := b.toNat_lt
    have hc := c.toNat_lt
    have hd := d.toNat_lt
    have he := e.toNat_lt
    have hf := f.toNat_lt
    simp [numAt, num, macN]
    omega

end
end Go.Proofs.Ytohgpnlihfcecaa
