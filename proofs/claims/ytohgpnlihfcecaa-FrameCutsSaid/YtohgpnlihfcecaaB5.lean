/- Ord, Qual, Qualb, Qualc, QualRef in one. -/
import Derived.Test.YtohgpnlihfcecaaB1
import Derived.Test.YtohgpnlihfcecaaB4
import Derived.Test.YtohgpnlihfcecaaB2
namespace Go.Proofs.Ytohgpnlihfcecaa
section
open Go.RowKit Go.Proofs
set_option maxRecDepth 50000
set_option linter.unusedVariables false
set_option linter.unusedSimpArgs false

theorem less_app : ∀ (a b c d : List UInt8), a.length = b.length → Op.bytesLess (a ++ c) (b ++ d) = (Op.bytesLess a b || (a == b && Op.bytesLess c d))
  | [], [], c, d, _ => by simp [Op.bytesLess]
  | x :: a, y :: b, c, d, h => by
    have ih := less_app a b c d (by simpa using h)
    have e0 : (x :: a == y :: b) = (x == y && a == b) := rfl
    rw [List.cons_append, List.cons_append, Op.bytesLess, Op.bytesLess, ih, e0]
    cases decide (x < y) <;> cases (x == y) <;> cases Op.bytesLess a b <;> simp

theorem same_app : ∀ (a b c d : List UInt8), a.length = b.length → (a ++ c == b ++ d) = (a == b && c == d)
  | [], [], c, d, _ => by simp
  | x :: a, y :: b, c, d, h => by
    have ih := same_app a b c d (by simpa using h)
    have e0 : (x :: a == y :: b) = (x == y && a == b) := rfl
    have e1 : (x :: (a ++ c) == y :: (b ++ d)) = (x == y && (a ++ c == b ++ d)) := rfl
    rw [List.cons_append, List.cons_append, e1, ih, e0, Bool.and_assoc]

end

section
open Go.RowKit Go.Proofs
set_option maxRecDepth 50000
set_option linter.unusedVariables false
set_option linter.unusedSimpArgs false

/-- A quality as a value. -/
abbrev qualV (c a v : Int) : Value := .agg #[.int .i64 c, .int .i64 a, .int .i64 v]

/-- The first one that is not 0. -/
def orI : List Int → Int
  | [] => 0
  | z :: zs => if z = 0 then orI zs else z

theorem orI_drop (zs : List Int) : ∀ (k : Nat) (h : k < zs.length), orI (zs.drop k) = if zs[k] = 0 then orI (zs.drop (k + 1)) else zs[k] := by
  intro k h
  rw [List.drop_eq_getElem_cons h]
  rfl

/-- -1, 0, 1 of two qualities. -/
def cmpQ (c a v c' a' v' : Int) : Int := if c = c' then (if a = a' then cmpI v v' else cmpI a a') else cmpI c c'

theorem cmpI_zero {a b : Int} : cmpI a b = 0 ↔ a = b := by
  unfold cmpI
  split
  · omega
  · split <;> omega

theorem orI_three (c a v c' a' v' : Int) : orI [cmpI c c', cmpI a a', cmpI v v'] = cmpQ c a v c' a' v' := by
  unfold cmpQ
  simp only [orI, cmpI_zero]
  by_cases h1 : c = c'
  · rw [if_pos h1, if_pos h1]
    by_cases h2 : a = a'
    · rw [if_pos h2, if_pos h2]
      by_cases h3 : v = v'
      · rw [if_pos h3, cmpI_zero.2 h3]
      · rw [if_neg h3]
    · rw [if_neg h2, if_neg h2]
  · rw [if_neg h1, if_neg h1]

def in1 (x : Int) : Bool := decide (0 ≤ x ∧ x < 256)
def in2 (x : Int) : Bool := decide (0 ≤ x ∧ x < 65536)
def mayQ (c a v : Int) : Bool := in1 c && in1 a && in2 v

theorem in1_iff {x : Int} : in1 x = true ↔ 0 ≤ x ∧ x < 256 := by simp [in1]
theorem in2_iff {x : Int} : in2 x = true ↔ 0 ≤ x ∧ x < 65536 := by simp [in2]
theorem mayQ_iff {c a v : Int} : mayQ c a v = true ↔ in1 c = true ∧ in1 a = true ∧ in2 v = true := by simp [mayQ, and_assoc]

set_option maxHeartbeats 400000 in
theorem fits1_any (x : Int) (w : World) :
    Calls Try.prog 94 #[.int .i64 x, .int .i64 1] w fun e w' => e = .returned (.bool (in1 x)) ∧ w = w' := by
  by_cases h : 0 ≤ x
  · go_enter Try.func94, Try.ntmps94
    go_wp2
    go_ret
    exact ⟨ret_bool (by unfold in1; first | (simp [h]; done) | (symm; rw [decide_eq_false_iff_not]; omega)), rfl⟩
  · go_enter Try.func94, Try.ntmps94
    go_wp2
    go_ret
    exact ⟨ret_bool (by unfold in1; symm; rw [decide_eq_false_iff_not]; omega), rfl⟩

set_option maxHeartbeats 400000 in
theorem fits2_any (x : Int) (w : World) :
    Calls Try.prog 94 #[.int .i64 x, .int .i64 2] w fun e w' => e = .returned (.bool (in2 x)) ∧ w = w' := by
  by_cases h : 0 ≤ x
  · go_enter Try.func94, Try.ntmps94
    go_wp2
    go_ret
    exact ⟨ret_bool (by unfold in2; first | (simp [h]; done) | (symm; rw [decide_eq_false_iff_not]; omega)), rfl⟩
  · go_enter Try.func94, Try.ntmps94
    go_wp2
    go_ret
    exact ⟨ret_bool (by unfold in2; symm; rw [decide_eq_false_iff_not]; omega), rfl⟩

set_option maxHeartbeats 800000 in
theorem mayQ_any (c a v : Int) (w : World) :
    Calls Try.prog 78 #[qualV c a v] w fun e w' => e = .returned (.bool (mayQ c a v)) ∧ Below w.heap.size w w' := by
  unfold mayQ
  cases h1 : in1 c
  · have H1 := hid h1
    clear h1
    go_enter Try.func78, Try.ntmps78
    go_wp2_with fail
    refine (fits1_any _ _).mono ?_
    rintro e w' ⟨rfl, rfl⟩
    rw [H1.out]
    go_wp2_with fail
    go_ret
    exact ⟨rfl, bnew _ _⟩
  cases h2 : in1 a
  · have H1 := hid h1
    have H2 := hid h2
    clear h1 h2
    go_enter Try.func78, Try.ntmps78
    go_wp2_with fail
    refine (fits1_any _ _).mono ?_
    rintro e w' ⟨rfl, rfl⟩
    rw [H1.out]
    go_wp2_with fail
    refine (fits1_any _ _).mono ?_
    rintro e w' ⟨rfl, rfl⟩
    rw [H2.out]
    go_wp2_with fail
    go_ret
    exact ⟨rfl, bnew _ _⟩
  have H1 := hid h1
  have H2 := hid h2
  clear h1 h2
  go_enter Try.func78, Try.ntmps78
  go_wp2_with fail
  refine (fits1_any _ _).mono ?_
  rintro e w' ⟨rfl, rfl⟩
  rw [H1.out]
  go_wp2_with fail
  refine (fits1_any _ _).mono ?_
  rintro e w' ⟨rfl, rfl⟩
  rw [H2.out]
  go_wp2_with fail
  refine (fits2_any _ _).mono ?_
  rintro e w' ⟨rfl, rfl⟩
  go_wp2_with fail
  go_ret
  exact ⟨rfl, bnew _ _⟩

set_option maxHeartbeats 400000 in
theorem refIn_any (x f t : Int) (w : World) :
    Calls Try.prog 51 #[.int .i64 x, .int .i64 f, .int .i64 t] w fun e w' => e = .returned (.bool (decide (f ≤ x ∧ x ≤ t))) ∧ w = w' := by
  by_cases h : f ≤ x
  · go_enter Try.func51, Try.ntmps51
    go_wp2
    go_ret
    exact ⟨ret_bool (by simp [h]), rfl⟩
  · go_enter Try.func51, Try.ntmps51
    go_wp2
    go_ret
    exact ⟨ret_bool (by simp; omega), rfl⟩

theorem in1_le (x : Int) : decide (0 ≤ x ∧ x ≤ 255) = in1 x := by unfold in1; rw [decide_eq_decide]; omega
theorem in2_le (x : Int) : decide (0 ≤ x ∧ x ≤ 65535) = in2 x := by unfold in2; rw [decide_eq_decide]; omega

set_option maxHeartbeats 800000 in
theorem refMayQ_any (c a v : Int) (w : World) :
    Calls Try.prog 52 #[qualV c a v] w fun e w' => e = .returned (.bool (mayQ c a v)) ∧ Below w.heap.size w w' := by
  unfold mayQ
  cases h1 : in1 c
  · have H1 := hid h1
    clear h1
    go_enter Try.func52, Try.ntmps52
    go_wp2_with fail
    refine (refIn_any _ _ _ _).mono ?_
    rintro e w' ⟨rfl, rfl⟩
    rw [in1_le, H1.out]
    go_wp2_with fail
    go_ret
    exact ⟨rfl, bnew _ _⟩
  cases h2 : in1 a
  · have H1 := hid h1
    have H2 := hid h2
    clear h1 h2
    go_enter Try.func52, Try.ntmps52
    go_wp2_with fail
    refine (refIn_any _ _ _ _).mono ?_
    rintro e w' ⟨rfl, rfl⟩
    rw [in1_le, H1.out]
    go_wp2_with fail
    refine (refIn_any _ _ _ _).mono ?_
    rintro e w' ⟨rfl, rfl⟩
    rw [in1_le, H2.out]
    go_wp2_with fail
    go_ret
    exact ⟨rfl, bnew _ _⟩
  have H1 := hid h1
  have H2 := hid h2
  clear h1 h2
  go_enter Try.func52, Try.ntmps52
  go_wp2_with fail
  refine (refIn_any _ _ _ _).mono ?_
  rintro e w' ⟨rfl, rfl⟩
  rw [in1_le, H1.out]
  go_wp2_with fail
  refine (refIn_any _ _ _ _).mono ?_
  rintro e w' ⟨rfl, rfl⟩
  rw [in1_le, H2.out]
  go_wp2_with fail
  refine (refIn_any _ _ _ _).mono ?_
  rintro e w' ⟨rfl, rfl⟩
  rw [in2_le]
  go_wp2_with fail
  go_ret
  exact ⟨rfl, bnew _ _⟩

end

section
open Go.RowKit Go.Proofs
set_option maxRecDepth 50000
set_option linter.unusedVariables false
set_option linter.unusedSimpArgs false

theorem boxAt (w : World) (cs : Array Value) (t : TypeId) (i : Nat) (v : Value) (h : cs[i]? = some v) :
    ∀ wx, Below (w.alloc (Obj.cells cs t)).heap.size (w.alloc (Obj.cells cs t)) wx → wx.cell? ⟨w.heap.size, i, none⟩ = some v := by
  intro wx hb
  rw [hb.cell (by simp)]
  simp only [World.cell?]
  rw [heap_alloc_new]
  exact h

/-- A quality in a box. -/
abbrev qCells (c a v : Int) : Obj := Obj.cells #[.int .i64 c, .int .i64 a, .int .i64 v] 26

theorem qbox1 (w : World) (c a v : Int) : ∃ W, W = w.alloc (qCells c a v) ∧ Below w.heap.size w W ∧
    Hid (∀ wx, Below W.heap.size W wx → wx.cell? ⟨w.heap.size, 0, none⟩ = some (.int .i64 c)) ∧ Hid (∀ wx, Below W.heap.size W wx → wx.cell? ⟨w.heap.size, 1, none⟩ = some (.int .i64 a)) ∧
    Hid (∀ wx, Below W.heap.size W wx → wx.cell? ⟨w.heap.size, 2, none⟩ = some (.int .i64 v)) :=
  ⟨_, rfl, bnew _ _, hid (boxAt _ _ _ 0 _ rfl), hid (boxAt _ _ _ 1 _ rfl), hid (boxAt _ _ _ 2 _ rfl)⟩

theorem qbox2 (w : World) (c a v c' a' v' : Int) : ∃ W, W = (w.alloc (qCells c a v)).alloc (qCells c' a' v') ∧ Below w.heap.size w W ∧
    Hid (∀ wx, Below W.heap.size W wx → wx.cell? ⟨w.heap.size, 0, none⟩ = some (.int .i64 c)) ∧ Hid (∀ wx, Below W.heap.size W wx → wx.cell? ⟨w.heap.size, 1, none⟩ = some (.int .i64 a)) ∧
    Hid (∀ wx, Below W.heap.size W wx → wx.cell? ⟨w.heap.size, 2, none⟩ = some (.int .i64 v)) ∧
    Hid (∀ wx, Below W.heap.size W wx → wx.cell? ⟨w.heap.size + 1, 0, none⟩ = some (.int .i64 c')) ∧ Hid (∀ wx, Below W.heap.size W wx → wx.cell? ⟨w.heap.size + 1, 1, none⟩ = some (.int .i64 a')) ∧
    Hid (∀ wx, Below W.heap.size W wx → wx.cell? ⟨w.heap.size + 1, 2, none⟩ = some (.int .i64 v')) := by
  obtain ⟨W, hW, hb, h0, h1, h2⟩ := qbox1 w c a v
  have hs : W.heap.size = w.heap.size + 1 := by rw [hW]; simp
  obtain ⟨W', hW', hb', h3, h4, h5⟩ := qbox1 W c' a' v'
  rw [hs] at h3 h4 h5
  subst hW hW'
  exact ⟨_, rfl, bnext hb hb', hid fun wx h => h0.out wx (bnext hb' h), hid fun wx h => h1.out wx (bnext hb' h), hid fun wx h => h2.out wx (bnext hb' h), h3, h4, h5⟩

theorem qbox3 (w : World) (c a v c' a' v' c'' a'' v'' : Int) : ∃ W, W = ((w.alloc (qCells c a v)).alloc (qCells c' a' v')).alloc (qCells c'' a'' v'') ∧ Below w.heap.size w W ∧
    Hid (∀ wx, Below W.heap.size W wx → wx.cell? ⟨w.heap.size, 0, none⟩ = some (.int .i64 c)) ∧ Hid (∀ wx, Below W.heap.size W wx → wx.cell? ⟨w.heap.size, 1, none⟩ = some (.int .i64 a)) ∧
    Hid (∀ wx, Below W.heap.size W wx → wx.cell? ⟨w.heap.size, 2, none⟩ = some (.int .i64 v)) ∧
    Hid (∀ wx, Below W.heap.size W wx → wx.cell? ⟨w.heap.size + 1, 0, none⟩ = some (.int .i64 c')) ∧ Hid (∀ wx, Below W.heap.size W wx → wx.cell? ⟨w.heap.size + 1, 1, none⟩ = some (.int .i64 a')) ∧
    Hid (∀ wx, Below W.heap.size W wx → wx.cell? ⟨w.heap.size + 1, 2, none⟩ = some (.int .i64 v')) ∧
    Hid (∀ wx, Below W.heap.size W wx → wx.cell? ⟨w.heap.size + 1 + 1, 0, none⟩ = some (.int .i64 c'')) ∧ Hid (∀ wx, Below W.heap.size W wx → wx.cell? ⟨w.heap.size + 1 + 1, 1, none⟩ = some (.int .i64 a'')) ∧
    Hid (∀ wx, Below W.heap.size W wx → wx.cell? ⟨w.heap.size + 1 + 1, 2, none⟩ = some (.int .i64 v'')) := by
  obtain ⟨W, hW, hb, h0, h1, h2, h3, h4, h5⟩ := qbox2 w c a v c' a' v'
  have hs : W.heap.size = w.heap.size + 1 + 1 := by rw [hW]; simp
  obtain ⟨W', hW', hb', h6, h7, h8⟩ := qbox1 W c'' a'' v''
  rw [hs] at h6 h7 h8
  subst hW hW'
  exact ⟨_, rfl, bnext hb hb', hid fun wx h => h0.out wx (bnext hb' h), hid fun wx h => h1.out wx (bnext hb' h), hid fun wx h => h2.out wx (bnext hb' h), hid fun wx h => h3.out wx (bnext hb' h),
    hid fun wx h => h4.out wx (bnext hb' h), hid fun wx h => h5.out wx (bnext hb' h), h6, h7, h8⟩

theorem ints_new (w : World) (x y z : Int) : Ints (w.alloc (Obj.cells #[.int .i64 x, .int .i64 y, .int .i64 z] 3)) (.slice (some ⟨w.heap.size, 0, none⟩) 3 3) [x, y, z] := by
  refine ⟨_, 3, rfl, Nat.le_refl _, by simp [maxLen], .inr ⟨w.heap.size, 0, rfl, by simp, fun i hi => ?_⟩⟩
  rw [Nat.zero_add]
  match i, hi with
  | 0, _ => exact boxAt w _ _ 0 _ rfl _ (Below.refl _ _)
  | 1, _ => exact boxAt w _ _ 1 _ rfl _ (Below.refl _ _)
  | 2, _ => exact boxAt w _ _ 2 _ rfl _ (Below.refl _ _)
end

section
open Go.RowKit Go.Proofs
set_option maxRecDepth 50000
set_option linter.unusedVariables false
set_option linter.unusedSimpArgs false

/-- What a quality is in bytes. -/
def qualS (c a v : Int) : List UInt8 := putS c 1 ++ putS a 1 ++ putS v 2

theorem putS1 (x : Int) : (putS x 1).length = 1 := putS_length x 1 (by decide) (by decide)
theorem putS2 (x : Int) : (putS x 2).length = 2 := putS_length x 2 (by decide) (by decide)

theorem qualS_length (c a v : Int) : (qualS c a v).length = 4 := by
  unfold qualS
  rw [List.length_append, List.length_append, putS1, putS1, putS2]

set_option maxHeartbeats 800000 in
theorem qualPut_any (v : Value) (l : List UInt8) (c a q : Int) (w : World) (hB : Bytes w v l) (hl : l.length ≤ 140737488355320) :
    Calls Try.prog 95 #[v, qualV c a q] w (NewBytes w (l ++ qualS c a q)) := by
  have HB := hid fun (w' : World) (h : Below w.heap.size w w') => hB.below h
  have Hl := hid hl
  clear hB hl
  go_enter Try.func95, Try.ntmps95
  go_wp2_with fail
  obtain ⟨W, hWe, hbw, HX, HY, HZ⟩ := qbox1 w c a q
  rw [← hWe]
  clear hWe
  refine (put_any _ l c 1 _ (HB.out _ hbw) (by have := Hl.out; omega)).mono ?_
  rintro e w1 ⟨x1, rfl, own1, hb1⟩
  have cY := HY.out _ hb1
  go_wp2_with fail
  refine (put_any _ (l ++ putS c 1) a 1 _ own1.bytes (by have := Hl.out; rw [List.length_append, putS1]; omega)).mono ?_
  rintro e w2 ⟨x2, rfl, own2, hb2⟩
  have hb := bnext hb1 hb2
  have cZ := HZ.out _ hb
  clear cY
  go_wp2_with fail
  refine (put_any _ (l ++ putS c 1 ++ putS a 1) q 2 _ own2.bytes (by have := Hl.out; rw [List.length_append, List.length_append, putS1, putS1]; omega)).mono ?_
  rintro e w3 ⟨x3, rfl, own3, hb3⟩
  go_wp2_with fail
  go_ret
  refine ⟨x3, rfl, ?_, bnext hbw (bnext hb hb3)⟩
  unfold qualS
  rw [← List.append_assoc, ← List.append_assoc]
  exact own3.mono (Nat.le_trans hbw.size hb.size)

def gotQB (l : List UInt8) (at' : Int) : Bool := standB l.length at' 4
def gotQC (l : List UInt8) (at' : Int) : Int := if standB l.length at' 4 then ((numAt l at'.toNat 1 : Nat) : Int) else 0
def gotQA (l : List UInt8) (at' : Int) : Int := if standB l.length at' 4 then ((numAt l (at'.toNat + 1) 1 : Nat) : Int) else 0
def gotQV (l : List UInt8) (at' : Int) : Int := if standB l.length at' 4 then ((numAt l (at'.toNat + 2) 2 : Nat) : Int) else 0

theorem gotQ_yes {l : List UInt8} {at' : Int} (h : standB l.length at' 4 = true) : gotQB l at' = true ∧ gotQC l at' = (numAt l at'.toNat 1 : Nat) ∧ gotQA l at' = (numAt l (at'.toNat + 1) 1 : Nat) ∧ gotQV l at' = (numAt l (at'.toNat + 2) 2 : Nat) :=
  ⟨h, if_pos h, if_pos h, if_pos h⟩
theorem gotQ_no {l : List UInt8} {at' : Int} (h : standB l.length at' 4 = false) : gotQB l at' = false ∧ gotQC l at' = 0 ∧ gotQA l at' = 0 ∧ gotQV l at' = 0 := by
  unfold gotQB gotQC gotQA gotQV
  rw [h]
  exact ⟨rfl, rfl, rfl, rfl⟩

theorem bnew2c (w : World) (o o' : Obj) : Below w.heap.size w ((w.alloc o).alloc o') := (bnew w o).alloc (bnew w o).size _

set_option maxHeartbeats 1600000 in
theorem qualGet_any (v : Value) (l : List UInt8) (at' : Int) (w : World) (hB : Bytes w v l) (hl : l.length ≤ 140737488355328) (hat : at' ≤ 9223372036854775807) :
    Calls Try.prog 90 #[v, .int .i64 at'] w fun e w' => e = .returned (.tuple #[qualV (gotQC l at') (gotQA l at') (gotQV l at'), .bool (gotQB l at')]) ∧ Below w.heap.size w w' := by
  have HB := hid fun (w' : World) (h : Below w.heap.size w w') => hB.below h
  cases h4 : standB l.length at' 4
  · obtain ⟨e1, e2, e3, e4⟩ := gotQ_no h4
    rw [e1, e2, e3, e4]
    have H4 := hid h4
    clear h4 e1 e2 e3 e4 hB
    go_enter Try.func90, Try.ntmps90
    go_wp2_with fail
    refine (get_no _ l _ _ _ (HB.out _ (bnew _ _)) hl hat (.inr H4.out)).mono ?_
    rintro e w' ⟨rfl, rfl⟩
    go_wp2_with fail
    exact bodyPost_ret (v := .tuple #[qualV _ _ _, .bool _]) (by simp [results, Try.results90, go_sem]) rfl ⟨rfl, bnew _ _⟩
  · obtain ⟨e1, e2, e3, e4⟩ := gotQ_yes h4
    rw [e1, e2, e3, e4]
    obtain ⟨h0, h1, h2⟩ := standB_iff.1 h4
    have H4 := hid h4
    have HC : Hid (standB l.length at' 1 = true) := hid (standB_true h0 (by decide) (by omega))
    have HA : Hid (standB l.length (at' + 1) 1 = true) := hid (standB_true (by omega) (by decide) (by omega))
    have HV : Hid (standB l.length (at' + 1 + 1) 2 = true) := hid (standB_true (by omega) (by decide) (by omega))
    have EA : Hid ((at' + 1).toNat = at'.toNat + 1) := hid (by omega)
    have EV : Hid ((at' + 1 + 1).toNat = at'.toNat + 2) := hid (by omega)
    clear h4 e1 e2 e3 e4 hB
    go_enter Try.func90, Try.ntmps90
    go_wp2_with fail
    refine (get_ok _ l _ _ _ (HB.out _ (bnew _ _)) hl hat (by decide) (by decide) H4.out).mono ?_
    rintro e w' ⟨rfl, rfl⟩
    go_wp2_with fail
    refine (get_ok _ l _ _ _ (HB.out _ (bnew2c _ _ _)) hl hat (by decide) (by decide) HC.out).mono ?_
    rintro e w' ⟨rfl, rfl⟩
    rw [show (1 : Int).toNat = 1 by decide]
    go_wp2_with fail
    refine (get_ok _ l _ _ _ (HB.out _ (bnew2c _ _ _)) hl (by omega) (by decide) (by decide) HA.out).mono ?_
    rintro e w' ⟨rfl, rfl⟩
    rw [EA.out, show (1 : Int).toNat = 1 by decide]
    go_wp2_with fail
    refine (get_ok _ l _ _ _ (HB.out _ (bnew2c _ _ _)) hl (by omega) (by decide) (by decide) HV.out).mono ?_
    rintro e w' ⟨rfl, rfl⟩
    rw [EV.out, show (2 : Int).toNat = 2 by decide]
    go_wp2_with fail
    exact bodyPost_ret (v := .tuple #[qualV _ _ _, .bool _]) (by simp [results, Try.results90, go_sem]) rfl ⟨rfl, bnew2c _ _ _⟩
end

section
open Go.RowKit Go.Proofs
set_option maxRecDepth 50000
set_option linter.unusedVariables false
set_option linter.unusedSimpArgs false

set_option maxHeartbeats 1600000 in
theorem refQualPut_any (c a q : Int) (w : World) :
    Calls Try.prog 55 #[qualV c a q] w (NewBytes w (qualS c a q)) := by
  go_enter Try.func55, Try.ntmps55
  go_wp2_with fail
  obtain ⟨W, hWe, hbw, HX, HY, HZ⟩ := qbox1 w c a q
  rw [← hWe]
  clear hWe
  -- REGION refput
  refine wp_region_held_drew (S := fun w' => Below W.drew.heap.size W.drew w') (by kernel_rfl) (Below.refl _ _) ?_
  intro hHeld
  have hbW := Below.drew (Below.refl W.heap.size W)
  generalize W.drew = wd at *
  have hcX := fun wx h => HX.out wx (bnext hbW h)
  have hcY := fun wx h => HY.out wx (bnext hbW h)
  have hcZ := fun wx h => HZ.out wx (bnext hbW h)
  refine rtake 0 rfl (by rfl) (by kernel_rfl) (by kernel_rfl) (by kernel_rfl) (fun _ _ _ h => h) hHeld (fun wx hwx => by go_simp; try with_reducible rfl) ?_
  try simp only [Act.put, List.setIfInBounds_toArray, List.set_cons_zero, List.set_cons_succ]
  refine rtake 1 rfl (by rfl) (by kernel_rfl) (by kernel_rfl) (by kernel_rfl) (fun _ _ _ h => h) hHeld (fun wx hwx => by go_simp; try with_reducible rfl) ?_
  try simp only [Act.put, List.setIfInBounds_toArray, List.set_cons_zero, List.set_cons_succ]
  refine rtake 3 rfl (by rfl) (by kernel_rfl) (by kernel_rfl) (by kernel_rfl) (fun _ _ _ h => h) hHeld (fun wx hwx => by go_simp; try with_reducible rfl) ?_
  try simp only [Act.put, List.setIfInBounds_toArray, List.set_cons_zero, List.set_cons_succ]
  refine rtake 4 rfl (by rfl) (by kernel_rfl) (by kernel_rfl) (by kernel_rfl) (fun _ _ _ h => h) hHeld (fun wx hwx => by go_simp; try with_reducible rfl) ?_
  try simp only [Act.put, List.setIfInBounds_toArray, List.set_cons_zero, List.set_cons_succ]
  refine rtake 7 rfl (by rfl) (by kernel_rfl) (by kernel_rfl) (by kernel_rfl) (fun _ _ _ h => h) hHeld (fun wx hwx => by go_simp; try with_reducible rfl) ?_
  try simp only [Act.put, List.setIfInBounds_toArray, List.set_cons_zero, List.set_cons_succ]
  refine rtake 8 rfl (by rfl) (by kernel_rfl) (by kernel_rfl) (by kernel_rfl) (fun _ _ _ h => h) hHeld (fun wx hwx => by go_simp; try with_reducible rfl) ?_
  try simp only [Act.put, List.setIfInBounds_toArray, List.set_cons_zero, List.set_cons_succ]
  -- CALL 2: some 5 := Op.call { callee := Callee.value (Operand.func 22), args := #[Operand.tmp 4, Operand.const (Value.int IntKind.i64 1)], argTypes := #[3, 3] }
  refine rcall 2 rfl (by kernel_rfl) (by rfl) (fun K hK => ?_)
  go_simp
  refine (refPut_any _ _ _).mono ?_
  rintro e wx2 ⟨x2, rfl, own2, hbel2⟩
  have hH := bnext hHeld hbel2
  refine hK.out _ _ hH ?_
  clear hK K hHeld
  have hHeld := hH
  clear hH
  try simp only [Act.put, List.setIfInBounds_toArray, List.set_cons_zero, List.set_cons_succ]
  -- CALL 5: some 8 := Op.call { callee := Callee.value (Operand.func 22), args := #[Operand.tmp 7, Operand.const (Value.int IntKind.i64 1)], argTypes := #[3, 3] }
  refine rcall 5 rfl (by kernel_rfl) (by rfl) (fun K hK => ?_)
  go_simp
  refine (refPut_any _ _ _).mono ?_
  rintro e wx5 ⟨x5, rfl, own5, hbel5⟩
  have own2b := own2.below hbel5
  have hH := bnext hHeld hbel5
  refine hK.out _ _ hH ?_
  clear hK K hHeld
  have hHeld := hH
  clear hH
  try simp only [Act.put, List.setIfInBounds_toArray, List.set_cons_zero, List.set_cons_succ]
  -- CALL 6: some 9 := Op.call { callee := Callee.builtin Builtin.append, args := #[Operand.tmp 5, Operand.tmp 8], argTypes := #[22, 22] }
  refine rcall 6 rfl (by kernel_rfl) (by rfl) (fun K hK => ?_)
  refine op_append_bytes (o := ⟨some 9, _, _, _, _, _⟩) _ _ rfl rfl wd.heap.size _ _ _ _ rfl rfl own2b own5.bytes (by rw [putS1, putS1]; decide) hHeld.size ?_
  intro x6 wx6 own6 hbel6
  have hH := hHeld.trans hbel6
  refine hK.out _ _ hH ?_
  clear hK K hHeld
  have hHeld := hH
  clear hH
  try simp only [Act.put, List.setIfInBounds_toArray, List.set_cons_zero, List.set_cons_succ]
  -- CALL 9: some 12 := Op.call { callee := Callee.value (Operand.func 22), args := #[Operand.tmp 11, Operand.const (Value.int IntKind.i64 2)], argTypes := #[3, 3] }
  refine rcall 9 rfl (by kernel_rfl) (by rfl) (fun K hK => ?_)
  go_simp
  refine (refPut_any _ _ _).mono ?_
  rintro e wx9 ⟨x9, rfl, own9, hbel9⟩
  have own6b := own6.below hbel9
  have hH := bnext hHeld hbel9
  refine hK.out _ _ hH ?_
  clear hK K hHeld
  have hHeld := hH
  clear hH
  try simp only [Act.put, List.setIfInBounds_toArray, List.set_cons_zero, List.set_cons_succ]
  -- CALL 10: some 13 := Op.call { callee := Callee.builtin Builtin.append, args := #[Operand.tmp 9, Operand.tmp 12], argTypes := #[22, 22] }
  refine rcall 10 rfl (by kernel_rfl) (by rfl) (fun K hK => ?_)
  refine op_append_bytes (o := ⟨some 13, _, _, _, _, _⟩) _ _ rfl rfl wd.heap.size _ _ _ _ rfl rfl own6b own9.bytes (by rw [List.length_append, putS1, putS1, putS2]; decide) hHeld.size ?_
  intro xE wxE ownE hbelE
  have hH := hHeld.trans hbelE
  refine hK.out _ _ hH ?_
  clear hK K hHeld
  have hHeld := hH
  clear hH
  try simp only [Act.put, List.setIfInBounds_toArray, List.set_cons_zero, List.set_cons_succ]
  refine rtake 11 rfl (by rfl) (by kernel_rfl) (by kernel_rfl) (by kernel_rfl) (fun _ _ _ h => h) hHeld (fun wx hwx => by go_simp; try with_reducible rfl) ?_
  try simp only [Act.put, List.setIfInBounds_toArray, List.set_cons_zero, List.set_cons_succ]
  refine wpAnyH_done (by kernel_rfl) ?_ _
  -- END REGION refput
  go_wp2_with fail
  go_ret
  refine ⟨xE, rfl, ?_, bnext hbw (bnext hbW hHeld)⟩
  unfold qualS
  exact ownE.mono (Nat.le_trans hbw.size hbW.size)

theorem parts_of (l : List UInt8) (A : Nat) (h : A + 4 ≤ l.length) :
    numAt l A 4 < 4294967296 ∧ numAt l A 4 / 16777216 = numAt l A 1 ∧ numAt l A 4 / 65536 % 256 = numAt l (A + 1) 1 ∧ numAt l A 4 % 65536 = numAt l (A + 2) 2 := by
  have e : ∀ k, (l.drop (A + k)) = (l.drop A).drop k := fun k => by rw [List.drop_drop]
  unfold numAt
  rw [e 1, e 2]
  have hl : 4 ≤ (l.drop A).length := by rw [List.length_drop]; omega
  generalize l.drop A = m at *
  match m, hl with
  | x :: y :: z :: u :: r, _ =>
    have hx := x.toNat_lt
    have hy := y.toNat_lt
    have hz := z.toNat_lt
    have hu := u.toNat_lt
    simp [num]
    omega

set_option maxHeartbeats 1600000 in
theorem refQualGet_any (v : Value) (l : List UInt8) (at' : Int) (w : World) (hB : Bytes w v l) (hl : l.length ≤ 140737488355328) (hat : at' ≤ 9223372036854775807) :
    Calls Try.prog 72 #[v, .int .i64 at'] w fun e w' => e = .returned (.tuple #[qualV (gotQC l at') (gotQA l at') (gotQV l at'), .bool (gotQB l at')]) ∧ Below w.heap.size w w' := by
  have HB := hid fun (w' : World) (h : Below w.heap.size w w') => hB.below h
  cases h4 : standB l.length at' 4
  · obtain ⟨e1, e2, e3, e4⟩ := gotQ_no h4
    rw [e1, e2, e3, e4]
    have H4 := hid h4
    clear h4 e1 e2 e3 e4 hB
    go_enter Try.func72, Try.ntmps72
    go_wp2_with fail
    refine (refGet_no _ l _ _ _ (HB.out _ (bnew _ _)) hl hat (.inr H4.out)).mono ?_
    rintro e w' ⟨rfl, rfl⟩
    go_wp2_with fail
    exact bodyPost_ret (v := .tuple #[qualV _ _ _, .bool _]) (by simp [results, Try.results72, go_sem]) rfl ⟨rfl, bnew _ _⟩
  · obtain ⟨e1, e2, e3, e4⟩ := gotQ_yes h4
    rw [e1, e2, e3, e4]
    obtain ⟨h0, h1, h2⟩ := standB_iff.1 h4
    obtain ⟨p0, p1, p2, p3⟩ := parts_of l at'.toNat (by omega)
    have H4 := hid h4
    have HE : Hid (((numAt l at'.toNat 4 : Nat) : Int) / 16777216 = (numAt l at'.toNat 1 : Nat) ∧ ((numAt l at'.toNat 4 : Nat) : Int) / 65536 % 256 = (numAt l (at'.toNat + 1) 1 : Nat) ∧ ((numAt l at'.toNat 4 : Nat) : Int) % 65536 = (numAt l (at'.toNat + 2) 2 : Nat)) := hid (by omega)
    generalize numAt l (at'.toNat + 1) 1 = A at *
    generalize numAt l (at'.toNat + 2) 2 = V at *
    generalize numAt l at'.toNat 1 = C at *
    clear h4 e1 e2 e3 e4 hB p1 p2 p3
    go_enter Try.func72, Try.ntmps72
    go_wp2_with fail
    refine (refGet_ok _ l _ _ _ (HB.out _ (bnew _ _)) hl hat (by decide) (by decide) H4.out).mono ?_
    rintro e w' ⟨rfl, rfl⟩
    rw [show (4 : Int).toNat = 4 by decide]
    generalize numAt l at'.toNat 4 = N at *
    go_wp2_with fail
    obtain ⟨q1, q2, q3⟩ := HE.out
    rw [q1, q2, q3]
    exact bodyPost_ret (v := .tuple #[qualV _ _ _, .bool _]) (by simp [results, Try.results72, go_sem]) rfl ⟨rfl, bnew _ _⟩
end
end Go.Proofs.Ytohgpnlihfcecaa
