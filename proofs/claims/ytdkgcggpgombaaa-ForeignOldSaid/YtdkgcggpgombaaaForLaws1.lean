/- carillonlaw12: awake, Twice, Old, from contracts of the program's own (gen_forlaws.py). -/
import Derived.Test.YtdkgcggpgombaaaFor
import Derived.Test.YtdkgcggpgombaaaPlace
namespace Go.Proofs.Ytdkgcggpgombaaa
open Go.RowKit Go.Proofs
set_option maxRecDepth 50000
set_option linter.unusedVariables false
set_option linter.unusedSimpArgs false

def hA5 : Hd := ⟨11, 0, 0, 0, 2, 1, 5, 0⟩
def hA6 : Hd := ⟨11, 0, 0, 0, 2, 1, 6, 0⟩
def fA0 : Ft := ⟨1, 1, 10, []⟩
def fA1 : Ft := hearT fA0 hA5 bd0 3
def fA2 : Ft := hearT fA1 hA6 bd0 5
theorem awake_facts : hearE fA0 hA5 bd0 3 = 0 ∧ (qualL fA1 3).length = 0 ∧ hearE fA1 hA6 bd0 5 = 0 ∧ decide (0 ≤ bestN (qualL fA2 5)) = true ∧ fA2.l.length = 1 := by decide

theorem info_rec : (Try.prog.info? 46).map (·.size) = some 17 := by kernel_rfl
theorem wpList_store_rec {ops : Array Oper} {rest : List Oper} {op : Oper} {a : Act} {w : World} {Q : Exit → Act → World → Prop} (hgd : op.guard = none) (x y : Operand) (ho : op.op = .store 46 x y)
    (g : Nat) (c old : Rc) (t : TypeId) (hx : a.eval x = .pointer (some ⟨g, 0, none⟩)) (hy : a.eval y = .agg (rcL c).toArray) (hB : Box w g (rcL old) t)
    (h : wpList Try.prog ops Q rest (a.put op.dst undef) (w.setRow g (rcL c).toArray)) : wpList Try.prog ops Q (op :: rest) a w :=
  wpList_store_row hgd _ x y ho g (rcL c).toArray hx hy t (rcL old).toArray hB (by rw [info_rec]; rfl) rfl (all_oneCell_toArray (rcL_one c)) h

set_option maxRecDepth 100000 in
set_option maxHeartbeats 8000000 in
theorem awake12_from {R : List Value → Ft → Prop} (HNew : CNewF R) (HH : CHearF R) (HQ : CQualF R) (HBst : CBestF R) (HRec : CRecF R) (w : World) :
    Calls Try.prog 13 #[] w fun e w' => e = .returned (.bool true) ∧ Below w.heap.size w w' := by
  obtain ⟨a1, a2, a3, a4, a5⟩ := awake_facts
  replace a1 := hid a1
  replace a2 := hid a2
  replace a3 := hid a3
  replace a4 := hid a4
  replace a5 := hid a5
  go_enter Try.func13, Try.ntmps13
  go_wp2_with fail
  refine (HNew 1 1 10 w (by decide)).mono ?_
  rintro e w1 ⟨gt, rfl, hg, FA, hb⟩
  rw [show clampW 10 = 10 by decide] at FA
  change FAt R w1 gt fA0 at FA
  have N := Box.new w1 (msgF hd0 bd0) 31
  have nb := bnew w1 (Obj.cells (msgF hd0 bd0).toArray 31)
  go_upto_region 5 with (first | (guard_target =~ wpList _ _ _ (⟨some 12, _, _, _, _, _⟩ :: _) _ _; refine wpList_build_any (op := ⟨some 12, .build _ _, _, _, _, _⟩) (by rfl) _ _ (by rfl) _ (by rfl) (msgF hA5 bd0).toArray (by kernel_rfl) ?_) | (guard_target =~ wpList _ _ _ (⟨none, _, _, _, _, _⟩ :: _) _ _; refine wpList_store_msg (op := ⟨none, .store _ _ _, _, _, _, _⟩) (by rfl) _ _ (by rfl) w1.heap.size (msgF hA5 bd0) (msgF hd0 bd0) _ (by rfl) (by rfl) N (by rfl) (by rfl) (msgL_one _ _ (bdL_one _)) ?_))
  have B := N.row (msgF hA5 bd0)
  replace nb := below_setRow nb (Nat.le_refl _) (msgF hA5 bd0).toArray
  change Code.wp _ _ _ _ ((w1.alloc (Obj.cells (msgF hd0 bd0).toArray 31)).setRow w1.heap.size (msgF hA5 bd0).toArray)
  generalize ((w1.alloc (Obj.cells (msgF hd0 bd0).toArray 31)).setRow w1.heap.size (msgF hA5 bd0).toArray) = W1 at *
  have hgm : w1.heap.size < W1.heap.size := B.lt
  have hgl := FA.lt
  have hsz := hb.size
  replace FA := FA.below nb
  have hne : w1.heap.size ≠ gt := by omega
  replace hb := bnext hb nb
  obtain ⟨gm, hgme⟩ : ∃ gm, w1.heap.size = gm := ⟨_, rfl⟩
  simp only [hgme] at *
  have hgm0 : w.heap.size ≤ gm := by omega
  clear N nb hgme hgl hsz
  go_wp2_with (guard_target =~ wpList _ _ _ (⟨some 14, _, _, _, _, _⟩ :: _) _ _; refine wpList_load_msg (op := ⟨some 14, .load _ _, _, _, _, _⟩) (by rfl) _ (by rfl) gm (by rfl) (msgF hA5 bd0) _ B rfl ?_)
  refine (HH gt fA0 hA5 bd0 3 W1 FA (by first |  (unfold MsIn; decide) | exact ⟨⟨of_decide_eq_true rfl, of_decide_eq_true rfl⟩, ⟨by show (0 : Int) ≤ 1; decide, by show (1 : Int) < _; decide⟩, ⟨by show (0 : Int) ≤ 0; decide, by show (0 : Int) < _; decide⟩, by show (0 : Int) ≤ 0; decide, by show (0 : Int) < _; decide⟩)).mono ?_
  rintro e w2 ⟨rfl, FA2, o2⟩
  replace FA := FA2
  have hlt := B.lt
  replace hb := Only.below hb o2 hg (Nat.le_of_lt (Nat.lt_of_le_of_lt hgm0 hlt))
  replace B := B.only o2 hne
  clear FA2 o2 hlt
  change FAt R w2 gt fA1 at FA
  rw [a1.out]
  go_wp2_with fail
  refine (HQ gt fA1 3 w2 FA).mono ?_
  rintro e w3 ⟨v3, rfl, r3, b3⟩
  obtain ⟨p3, cap3, rfl, -, -, -⟩ := r3
  rw [a2.out]
  replace FA := FA.below b3
  replace B := B.below b3
  replace hb := bnext hb b3
  clear b3
  have hcell := B.cell 6 _ rfl
  have hfree := B.free 6
  have hset : Box (w3.setCell ⟨gm, 6, none⟩ (.int .i64 6)) gm (msgF hA6 bd0) 31 := B.set 6 (.int .i64 6)
  have hFs := FA.setCell (Ne.symm hne) 6 (.int .i64 6)
  have hbs := hb.setCell (p := ⟨gm, 6, none⟩) hgm0 (.int .i64 6)
  go_upto_region 8 with fail
  generalize w3.setCell ⟨gm, 6, none⟩ (.int .i64 6) = w4 at *
  replace B := hset
  replace FA := hFs
  replace hb := hbs
  clear hcell hfree hset hFs hbs
  go_wp2_with (guard_target =~ wpList _ _ _ (⟨some 21, _, _, _, _, _⟩ :: _) _ _; refine wpList_load_msg (op := ⟨some 21, .load _ _, _, _, _, _⟩) (by rfl) _ (by rfl) gm (by rfl) (msgF hA6 bd0) _ B rfl ?_)
  refine (HH gt fA1 hA6 bd0 5 w4 FA (by first |  (unfold MsIn; decide) | exact ⟨⟨of_decide_eq_true rfl, of_decide_eq_true rfl⟩, ⟨by show (0 : Int) ≤ 1; decide, by show (1 : Int) < _; decide⟩, ⟨by show (0 : Int) ≤ 0; decide, by show (0 : Int) < _; decide⟩, by show (0 : Int) ≤ 0; decide, by show (0 : Int) < _; decide⟩)).mono ?_
  rintro e w5 ⟨rfl, FA2, o2⟩
  replace FA := FA2
  have hlt := B.lt
  replace hb := Only.below hb o2 hg (Nat.le_of_lt (Nat.lt_of_le_of_lt hgm0 hlt))
  replace B := B.only o2 hne
  clear FA2 o2 hlt
  change FAt R w5 gt fA2 at FA
  rw [a3.out]
  go_wp2_with fail
  refine (HBst gt fA2 5 w5 FA).mono ?_
  rintro e w6 ⟨rfl, b6⟩
  rw [a4.out]
  replace FA := FA.below b6
  replace hb := bnext hb b6
  clear b6
  generalize bestR (qualL fA2 5) = RR at *
  have N := Box.new w6 (rcL zeroR) 46
  have nb := bnew w6 (Obj.cells (rcL zeroR).toArray 46)
  go_upto_region 10 with (guard_target =~ wpList _ _ _ (⟨none, _, _, _, _, _⟩ :: _) _ _; refine wpList_store_rec (op := ⟨none, .store _ _ _, _, _, _, _⟩) (by rfl) _ _ (by rfl) w6.heap.size RR zeroR _ (by rfl) (by rfl) N ?_)
  replace nb := below_setRow nb (Nat.le_refl _) (rcL RR).toArray
  change Code.wp _ _ _ _ ((w6.alloc (Obj.cells (rcL zeroR).toArray 46)).setRow w6.heap.size (rcL RR).toArray)
  generalize ((w6.alloc (Obj.cells (rcL zeroR).toArray 46)).setRow w6.heap.size (rcL RR).toArray) = w7 at *
  replace FA := FA.below nb
  replace hb := bnext hb nb
  clear N nb
  go_wp2_with fail
  refine (HRec gt fA2 w7 FA).mono ?_
  rintro e w8 ⟨v8, rfl, r8, b8⟩
  obtain ⟨p8, cap8, rfl, -, -, -⟩ := r8
  rw [a5.out]
  go_wp2_with fail
  go_ret
  exact ⟨rfl, bnext hb b8⟩

def hS (s : Int) : Hd := ⟨11, 0, 0, 0, 2, 1, s, 0⟩
def rS (s f l : Int) : Rc := ⟨⟨0, 0, 0, 0, 0, 0, 0, 2, 1, 1, 1⟩, 0, 0, 0, s, f, l⟩
theorem clamp_in {x : Int} (h1 : 1 ≤ x) (h2 : x ≤ 1048576) : clampW x = x := by
  unfold clampW
  rw [if_neg (by omega), if_neg (by omega)]
theorem twice_first (W a : Int) (ha : 0 ≤ a) (ha2 : a < 1000) : hearE ⟨1, 1, W, []⟩ (hS 0) bd0 a = 0 ∧ hearT ⟨1, 1, W, []⟩ (hS 0) bd0 a = ⟨1, 1, W, [rS 0 (-1) a]⟩ ∧ (qualL ⟨1, 1, W, [rS 0 (-1) a]⟩ a).length = 0 := by
  have e1 : ¬ (a < 0 ∨ 1099511627776 < a) := by omega
  refine ⟨?_, ?_, rfl⟩
  · simp [hearE, hS, e1, bd0, putF]
  · simp [hearT, hS, e1, bd0, putF, recF, rS]
theorem twice_second (W a b : Int) (ha : 0 ≤ a) (hab : a ≤ b) (hb : b < 2000) : hearE ⟨1, 1, W, [rS 0 (-1) a]⟩ (hS 1) bd0 b = 0 ∧ hearT ⟨1, 1, W, [rS 0 (-1) a]⟩ (hS 1) bd0 b = ⟨1, 1, W, [rS 1 a b]⟩ := by
  have e1 : ¬ (b < 0 ∨ 1099511627776 < b) := by omega
  have e2 : ¬ oldR (rS 0 (-1) a) 1 b := by unfold oldR rS; simp; omega
  have e3 : ¬ oldR ⟨⟨0, 0, 0, 0, 0, 0, 0, 2, 1, 1, 1⟩, 0, 0, 0, 0, -1, a⟩ 1 b := e2
  refine ⟨?_, ?_⟩
  · simp [hearE, hS, e1, bd0, putF, rS, e3]
  · simp [hearT, hS, e1, bd0, putF, recF, rS, e3]
theorem filter_one {α : Type} (p : α → Bool) (x : α) : (([x].filter p).length : Int) = if p x = true then 1 else 0 := by
  by_cases h : p x = true
  · simp [h]
  · simp [h]
theorem len_one {P : Prop} [Decidable P] {n : Int} (h : n = if P then 1 else 0) : (n == 1) = decide P := by
  subst h
  by_cases hp : P
  · simp [hp]
  · simp [hp]
theorem within_iff (W f now : Int) (h : 0 ≤ f) (hW : 1 ≤ W) : (withinB W f now = true) ↔ now - f < W := by
  unfold withinB
  rw [decide_eq_true_eq]
  constructor
  · rintro ⟨-, h | h⟩ <;> omega
  · intro h2
    exact ⟨h, .inr h2⟩
theorem twice_qual (W a b c : Int) (ha : 0 ≤ a) (hW : 1 ≤ W) : (((qualL ⟨1, 1, W, [rS 1 a b]⟩ c).length : Int) == 1) = decide (c - a < W) := by
  refine len_one ((filter_one _ _).trans ?_)
  have := within_iff W a c ha hW
  by_cases h : c - a < W
  · rw [if_pos h]
    exact if_pos (this.2 h)
  · rw [if_neg h]
    exact if_neg (fun hh => h (this.1 hh))
theorem twice_age (W a b c : Int) (hb : 0 ≤ b) (hW : 1 ≤ W) : (((ageT ⟨1, 1, W, [rS 1 a b]⟩ c).l.length : Int) == 1) = decide (c - b < W) := by
  refine len_one ?_
  show (([rS 1 a b].filter fun r => withinB W r.la c).length : Int) = _
  refine (filter_one _ _).trans ?_
  have := within_iff W b c hb hW
  by_cases h : c - b < W
  · rw [if_pos h]
    exact if_pos (this.2 h)
  · rw [if_neg h]
    exact if_neg (fun hh => h (this.1 hh))

set_option maxRecDepth 100000 in
set_option maxHeartbeats 8000000 in
theorem foreignTwice_from {R : List Value → Ft → Prop} (HNew : CNewF R) (HH : CHearF R) (HQ : CQualF R) (HBst : CBestF R) (HRec : CRecF R) (HAge : CAgeF R) (win first gap later : Int) (w : World) :
    Calls Try.prog 3 #[.int .i64 win, .int .i64 first, .int .i64 gap, .int .i64 later] w fun e w' => e = .returned (.bool true) ∧ Below w.heap.size w w' := by
  go_enter Try.func3, Try.ntmps3
  go_wp2_with fail
  refine (place_in win 200 w (by decide) (by decide)).mono ?_
  rintro e w' ⟨y, rfl, hy0, hy1, -, rfl⟩
  obtain ⟨W, hWy⟩ : ∃ W : Int, 2 + y = W := ⟨_, rfl⟩
  have hW2 : 2 ≤ W := by omega
  have hW201 : W ≤ 201 := by omega
  go_wp2_with fail
  clear hWy hy0 hy1
  refine (HNew 1 1 W w (by decide)).mono ?_
  rintro e w1 ⟨gt, rfl, hg, FA, hb⟩
  rw [clamp_in (by omega) (by omega)] at FA
  go_wp2_with fail
  refine (place_in first 1000 w1 (by decide) (by decide)).mono ?_
  rintro e w' ⟨a, rfl, ha0, ha1, -, rfl⟩
  go_wp2_with fail
  refine (place_in gap (2 * W) w1 (by omega) (by omega)).mono ?_
  rintro e w' ⟨z, rfl, hz0, hz1, -, rfl⟩
  obtain ⟨b, hab⟩ : ∃ b : Int, a + z = b := ⟨_, rfl⟩
  have hab0 : a ≤ b := by omega
  have hb1 : b < 2000 := by omega
  have hb0 : 0 ≤ b := by omega
  obtain ⟨f1, f2, f3⟩ := twice_first W a ha0 ha1
  obtain ⟨f4, f5⟩ := twice_second W a b ha0 hab0 hb1
  replace f1 := hid f1
  replace f2 := hid f2
  replace f3 := hid f3
  replace f4 := hid f4
  replace f5 := hid f5
  have N := Box.new w1 (msgF hd0 bd0) 31
  have nb := bnew w1 (Obj.cells (msgF hd0 bd0).toArray 31)
  go_upto_region 8 with (first | (guard_target =~ wpList _ _ _ (⟨some 31, _, _, _, _, _⟩ :: _) _ _; refine wpList_build_any (op := ⟨some 31, .build _ _, _, _, _, _⟩) (by rfl) _ _ (by rfl) _ (by rfl) (msgF (hS 0) bd0).toArray (by kernel_rfl) ?_) | (guard_target =~ wpList _ _ _ (⟨none, _, _, _, _, _⟩ :: _) _ _; refine wpList_store_msg (op := ⟨none, .store _ _ _, _, _, _, _⟩) (by rfl) _ _ (by rfl) w1.heap.size (msgF (hS 0) bd0) (msgF hd0 bd0) _ (by rfl) (by rfl) N (by rfl) (by rfl) (msgL_one _ _ (bdL_one _)) ?_))
  have B := N.row (msgF (hS 0) bd0)
  replace nb := below_setRow nb (Nat.le_refl _) (msgF (hS 0) bd0).toArray
  change Code.wp _ _ _ _ ((w1.alloc (Obj.cells (msgF hd0 bd0).toArray 31)).setRow w1.heap.size (msgF (hS 0) bd0).toArray)
  generalize ((w1.alloc (Obj.cells (msgF hd0 bd0).toArray 31)).setRow w1.heap.size (msgF (hS 0) bd0).toArray) = W1 at *
  have hgm : w1.heap.size < W1.heap.size := B.lt
  have hgl := FA.lt
  have hsz := hb.size
  replace FA := FA.below nb
  have hne : w1.heap.size ≠ gt := by omega
  replace hb := bnext hb nb
  obtain ⟨gm, hgme⟩ : ∃ gm, w1.heap.size = gm := ⟨_, rfl⟩
  simp only [hgme] at *
  have hgm0 : w.heap.size ≤ gm := by omega
  clear N nb hgme hgl hsz
  clear hab hz0 hz1
  go_wp2_with (guard_target =~ wpList _ _ _ (⟨some 33, _, _, _, _, _⟩ :: _) _ _; refine wpList_load_msg (op := ⟨some 33, .load _ _, _, _, _, _⟩) (by rfl) _ (by rfl) gm (by rfl) (msgF (hS 0) bd0) _ B rfl ?_)
  refine (HH gt ⟨1, 1, W, []⟩ (hS 0) bd0 a W1 FA (by first |  (unfold MsIn; decide) | exact ⟨⟨of_decide_eq_true rfl, of_decide_eq_true rfl⟩, ⟨by show (0 : Int) ≤ 1; decide, by show (1 : Int) < _; decide⟩, ⟨by show (0 : Int) ≤ 0; decide, by show (0 : Int) < _; decide⟩, by show (0 : Int) ≤ 0; decide, by show (0 : Int) < _; decide⟩)).mono ?_
  rintro e w2 ⟨rfl, FA2, o2⟩
  replace FA := FA2
  have hlt := B.lt
  replace hb := Only.below hb o2 hg (Nat.le_of_lt (Nat.lt_of_le_of_lt hgm0 hlt))
  replace B := B.only o2 hne
  clear FA2 o2 hlt
  rw [f2.out] at FA
  rw [f1.out]
  go_wp2_with fail
  refine (HQ gt ⟨1, 1, W, [rS 0 (-1) a]⟩ a w2 FA).mono ?_
  rintro e w3 ⟨v3, rfl, r3, b3⟩
  obtain ⟨p3, cap3, rfl, -, -, -⟩ := r3
  replace FA := FA.below b3
  replace B := B.below b3
  replace hb := bnext hb b3
  clear b3
  rw [f3.out]
  have hcell := B.cell 6 _ rfl
  have hfree := B.free 6
  have hset : Box (w3.setCell ⟨gm, 6, none⟩ (.int .i64 1)) gm (msgF (hS 1) bd0) 31 := B.set 6 (.int .i64 1)
  have hFs := FA.setCell (Ne.symm hne) 6 (.int .i64 1)
  have hbs := hb.setCell (p := ⟨gm, 6, none⟩) hgm0 (.int .i64 1)
  go_upto_region 11 with fail
  generalize w3.setCell ⟨gm, 6, none⟩ (.int .i64 1) = w4 at *
  replace B := hset
  replace FA := hFs
  replace hb := hbs
  clear hcell hfree hset hFs hbs
  go_wp2_with (guard_target =~ wpList _ _ _ (⟨some 46, _, _, _, _, _⟩ :: _) _ _; refine wpList_load_msg (op := ⟨some 46, .load _ _, _, _, _, _⟩) (by rfl) _ (by rfl) gm (by rfl) (msgF (hS 1) bd0) _ B rfl ?_)
  refine (HH gt ⟨1, 1, W, [rS 0 (-1) a]⟩ (hS 1) bd0 b w4 FA (by first |  (unfold MsIn; decide) | exact ⟨⟨of_decide_eq_true rfl, of_decide_eq_true rfl⟩, ⟨by show (0 : Int) ≤ 1; decide, by show (1 : Int) < _; decide⟩, ⟨by show (0 : Int) ≤ 0; decide, by show (0 : Int) < _; decide⟩, by show (0 : Int) ≤ 0; decide, by show (0 : Int) < _; decide⟩)).mono ?_
  rintro e w5 ⟨rfl, FA2, o2⟩
  replace FA := FA2
  have hlt := B.lt
  replace hb := Only.below hb o2 hg (Nat.le_of_lt (Nat.lt_of_le_of_lt hgm0 hlt))
  replace B := B.only o2 hne
  clear FA2 o2 hlt
  rw [f5.out] at FA
  rw [f4.out]
  go_wp2_with fail
  refine (HQ gt ⟨1, 1, W, [rS 1 a b]⟩ b w5 FA).mono ?_
  rintro e w6 ⟨v6, rfl, r6, b6⟩
  obtain ⟨p6, cap6, rfl, -, -, -⟩ := r6
  replace FA := FA.below b6
  replace B := B.below b6
  replace hb := bnext hb b6
  clear b6
  have q1 := twice_qual W a b b ha0 (by omega)
  generalize ((qualL ⟨1, 1, W, [rS 1 a b]⟩ b).length) = n1 at *
  go_wp2_with fail
  clear q1
  refine (place_in later (2 * W) w6 (by omega) (by omega)).mono ?_
  rintro e w' ⟨u, rfl, hu0, hu1, -, rfl⟩
  obtain ⟨c, hbc⟩ : ∃ c : Int, b + u = c := ⟨_, rfl⟩
  have hbc0 : b ≤ c := by omega
  have hc1 : c < 3000 := by omega
  go_wp2_with fail
  refine (HQ gt ⟨1, 1, W, [rS 1 a b]⟩ c w6 FA).mono ?_
  rintro e w7 ⟨v7, rfl, r7, b7⟩
  obtain ⟨p7, cap7, rfl, -, -, -⟩ := r7
  replace FA := FA.below b7
  replace B := B.below b7
  replace hb := bnext hb b7
  clear b7
  clear hbc hu0 hu1
  have q2 := twice_qual W a b c ha0 (by omega)
  generalize ((qualL ⟨1, 1, W, [rS 1 a b]⟩ c).length) = n2 at *
  go_wp2_with fail
  clear q2
  refine (HAge gt ⟨1, 1, W, [rS 1 a b]⟩ c w7 FA).mono ?_
  rintro e w8 ⟨rfl, FA2, o2⟩
  replace FA := FA2
  replace hb := Only.below hb o2 hg (Nat.le_of_lt (Nat.lt_of_le_of_lt hgm0 B.lt))
  clear FA2 o2
  go_wp2_with fail
  refine (HRec gt (ageT ⟨1, 1, W, [rS 1 a b]⟩ c) w8 FA).mono ?_
  rintro e w9 ⟨v9, rfl, r9, b9⟩
  obtain ⟨p9, cap9, rfl, -, -, -⟩ := r9
  have q3 := twice_age W a b c hb0 (by omega)
  generalize ((ageT ⟨1, 1, W, [rS 1 a b]⟩ c).l.length) = n3 at *
  replace hb := bnext hb b9
  go_wp2_with fail
  refine (awake12_from HNew HH HQ HBst HRec _).mono ?_
  rintro e w10 ⟨rfl, b10⟩
  go_wp2_with fail
  go_ret
  exact ⟨rfl, bnext hb b10⟩

end Go.Proofs.Ytdkgcggpgombaaa
