/- carillonlaw12: Old, from contracts of the program's own (gen_forlaws.py). -/
import Derived.Test.YtdkgcggpgombaaaForLaws1
import Derived.Test.YtdkgcggpgombaaaNum
namespace Go.Proofs.Ytdkgcggpgombaaa
open Go.RowKit Go.Proofs
set_option maxRecDepth 50000
set_option linter.unusedVariables false
set_option linter.unusedSimpArgs false

def hO (s : Int) : Hd := ⟨11, 0, 0, 0, 1, 1, s, 0⟩
def dO (k : Int) : Bd := ⟨0, 0, 0, 0, 0, 0, 0, 0, 0, 0, k, 0, 0, 0, 0⟩
def rO (s n : Int) : Rc := ⟨⟨0, 0, 0, 0, 0, 0, 3, 1, 1, 99, 1⟩, 0, 0, 0, s, -1, n⟩
theorem old_first (s n : Int) (hn : 0 ≤ n) (hn2 : n < 1024) : hearE ⟨99, 1, 50, []⟩ (hO s) (dO 3) n = 0 ∧ hearT ⟨99, 1, 50, []⟩ (hO s) (dO 3) n = ⟨99, 1, 50, [rO s n]⟩ := by
  have e1 : ¬ (n < 0 ∨ 1099511627776 < n) := by omega
  refine ⟨?_, ?_⟩
  · simp [hearE, hO, dO, e1, putF]
  · simp [hearT, hO, dO, e1, putF, recF, rO]
/-- One that is not newer, or comes ahead of the last time, turns nothing. -/
theorem old_says (s n q now : Int) (hq : oldR (rO s n) q now) : hearE ⟨99, 1, 50, [rO s n]⟩ (hO q) (dO 4) now = (if now < 0 ∨ 1099511627776 < now then 1 else 9) ∧ hearT ⟨99, 1, 50, [rO s n]⟩ (hO q) (dO 4) now = ⟨99, 1, 50, [rO s n]⟩ := by
  have e3 : oldR ⟨⟨0, 0, 0, 0, 0, 0, 3, 1, 1, 99, 1⟩, 0, 0, 0, s, -1, n⟩ q now := hq
  by_cases e1 : now < 0 ∨ 1099511627776 < now
  · refine ⟨?_, ?_⟩
    · simp only [hearE, hO, dO, e1, if_true]
      simp
    · simp only [hearT, hO, dO, e1, if_true]
      simp
  · refine ⟨?_, ?_⟩
    · simp [hearE, hO, dO, e1, putF, rO, e3]
    · simp [hearT, hO, dO, e1, putF, rO, e3]
theorem old_by (s k n now : Int) (hk : 0 ≤ k) (hk2 : k ≤ 32767) : oldR (rO s n) ((s - k) % 65536) now := by
  left
  show (s - (s - k) % 65536) % 65536 ≤ 32767
  omega

set_option maxRecDepth 100000 in
set_option maxHeartbeats 8000000 in
theorem foreignOld_from {R : List Value → Ft → Prop} (HNew : CNewF R) (HH : CHearF R) (HQ : CQualF R) (HBst : CBestF R) (HRec : CRecF R) (seq back now : Int) (w : World) :
    Calls Try.prog 6 #[.int .i64 seq, .int .i64 back, .int .i64 now] w fun e w' => e = .returned (.bool true) ∧ Below w.heap.size w w' := by
  have m16 : ∀ n : Int, bits BinOp.and IntKind.i64 n 65535 = n % 65536 := fun n => and_mask n 16 (by decide)
  have m15 : ∀ n : Int, bits BinOp.and IntKind.i64 n 32767 = n % 32768 := fun n => and_mask n 15 (by decide)
  have m10 : ∀ n : Int, bits BinOp.and IntKind.i64 n 1023 = n % 1024 := fun n => and_mask n 10 (by decide)
  obtain ⟨s, hs⟩ : ∃ s : Int, seq % 65536 = s := ⟨_, rfl⟩
  obtain ⟨k, hk⟩ : ∃ k : Int, back % 32768 = k := ⟨_, rfl⟩
  obtain ⟨n, hn⟩ : ∃ n : Int, now % 1024 = n := ⟨_, rfl⟩
  have hs0 : 0 ≤ s := by omega
  have hs1 : s < 65536 := by omega
  have hk0 : 0 ≤ k := by omega
  have hk1 : k ≤ 32767 := by omega
  have hn0 : 0 ≤ n := by omega
  have hn1 : n < 1024 := by omega
  obtain ⟨f1, f2⟩ := old_first s n hn0 hn1
  obtain ⟨f3, f4⟩ := old_says s n ((s - k) % 65536) (n + 1) (old_by s k n (n + 1) hk0 hk1)
  rw [if_neg (by omega)] at f3
  obtain ⟨f5, f6⟩ := old_says s n ((s + 1) % 65536) (n - 1) (.inr (by show n - 1 < n; omega))
  obtain ⟨q1, hq1⟩ : ∃ q : Int, (s - k) % 65536 = q := ⟨_, rfl⟩
  obtain ⟨q2, hq2⟩ : ∃ q : Int, (s + 1) % 65536 = q := ⟨_, rfl⟩
  rw [hq1] at f3 f4
  rw [hq2] at f5 f6
  replace f1 := hid f1
  replace f2 := hid f2
  replace f3 := hid f3
  replace f4 := hid f4
  replace f5 := hid f5
  replace f6 := hid f6
  go_enter Try.func6, Try.ntmps6
  go_wp2_with fail
  refine (HNew 99 1 50 w (by decide)).mono ?_
  rintro e w1 ⟨gt, rfl, hg, FA, hb⟩
  rw [show clampW 50 = 50 by decide] at FA
  have N := Box.new w1 (msgF hd0 bd0) 31
  have nb := bnew w1 (Obj.cells (msgF hd0 bd0).toArray 31)
  go_upto_region 6 with (first | (guard_target =~ wpList _ _ _ (⟨some 22, _, _, _, _, _⟩ :: _) _ _; refine wpList_build_any (op := ⟨some 22, .build _ _, _, _, _, _⟩) (by rfl) _ _ (by rfl) _ (by rfl) (msgF (hO s) (dO 3)).toArray (by kernel_rfl) ?_) | (guard_target =~ wpList _ _ _ (⟨none, _, _, _, _, _⟩ :: _) _ _; refine wpList_store_msg (op := ⟨none, .store _ _ _, _, _, _, _⟩) (by rfl) _ _ (by rfl) w1.heap.size (msgF (hO s) (dO 3)) (msgF hd0 bd0) _ (by rfl) (by rfl) N (by rfl) (by rfl) (msgL_one _ _ (bdL_one _)) ?_))
  have B := N.row (msgF (hO s) (dO 3))
  replace nb := below_setRow nb (Nat.le_refl _) (msgF (hO s) (dO 3)).toArray
  change Code.wp _ _ _ _ ((w1.alloc (Obj.cells (msgF hd0 bd0).toArray 31)).setRow w1.heap.size (msgF (hO s) (dO 3)).toArray)
  generalize ((w1.alloc (Obj.cells (msgF hd0 bd0).toArray 31)).setRow w1.heap.size (msgF (hO s) (dO 3)).toArray) = W1 at *
  have hgm : w1.heap.size < W1.heap.size := B.lt
  have hgl := FA.lt
  have hsz := hb.size
  replace FA := FA.below nb
  have hne : w1.heap.size ≠ gt := by omega
  replace hb := bnext hb nb
  obtain ⟨gm, hgme⟩ : ∃ gm, w1.heap.size = gm := ⟨_, rfl⟩
  simp only [hgme] at *
  have hgm0 : w.heap.size ≤ gm := by omega
  clear N nb hgme hgl hsz
  clear hs
  go_wp2_with (guard_target =~ wpList _ _ _ (⟨some 26, _, _, _, _, _⟩ :: _) _ _; refine wpList_load_msg (op := ⟨some 26, .load _ _, _, _, _, _⟩) (by rfl) _ (by rfl) gm (by rfl) (msgF (hO s) (dO 3)) _ B rfl ?_)
  refine (HH gt ⟨99, 1, 50, []⟩ (hO s) (dO 3) n W1 FA (by first |  (unfold MsIn; decide) | exact ⟨⟨of_decide_eq_true rfl, of_decide_eq_true rfl⟩, ⟨by show (0 : Int) ≤ 1; decide, by show (1 : Int) < _; decide⟩, ⟨by show (0 : Int) ≤ 0; decide, by show (0 : Int) < _; decide⟩, by show (0 : Int) ≤ 0; decide, by show (0 : Int) < _; decide⟩)).mono ?_
  rintro e w2 ⟨rfl, FA2, o2⟩
  replace FA := FA2
  have hlt := B.lt
  replace hb := Only.below hb o2 hg (Nat.le_of_lt (Nat.lt_of_le_of_lt hgm0 hlt))
  replace B := B.only o2 hne
  clear FA2 o2 hlt
  rw [f2.out] at FA
  rw [f1.out]
  have hcell := B.cell 6 _ rfl
  have hfree := B.free 6
  have hset : Box (w2.setCell ⟨gm, 6, none⟩ (.int .i64 q1)) gm (msgF (hO q1) (dO 3)) 31 := B.set 6 (.int .i64 q1)
  have hFs := FA.setCell (Ne.symm hne) 6 (.int .i64 q1)
  have hbs := hb.setCell (p := ⟨gm, 6, none⟩) hgm0 (.int .i64 q1)
  go_upto_region 10 with fail
  generalize w2.setCell ⟨gm, 6, none⟩ (.int .i64 q1) = w3 at *
  replace B := hset
  replace FA := hFs
  replace hb := hbs
  clear hcell hfree hset hFs hbs
  have hcell := B.cell 18 _ rfl
  have hfree := B.free 18
  have hset : Box (w3.setCell ⟨gm, 18, none⟩ (.int .i64 4)) gm (msgF (hO q1) (dO 4)) 31 := B.set 18 (.int .i64 4)
  have hFs := FA.setCell (Ne.symm hne) 18 (.int .i64 4)
  have hbs := hb.setCell (p := ⟨gm, 18, none⟩) hgm0 (.int .i64 4)
  go_upto_region 11 with fail
  generalize w3.setCell ⟨gm, 18, none⟩ (.int .i64 4) = w4 at *
  replace B := hset
  replace FA := hFs
  replace hb := hbs
  clear hcell hfree hset hFs hbs
  clear hk hn hq1
  go_wp2_with (guard_target =~ wpList _ _ _ (⟨some 38, _, _, _, _, _⟩ :: _) _ _; refine wpList_load_msg (op := ⟨some 38, .load _ _, _, _, _, _⟩) (by rfl) _ (by rfl) gm (by rfl) (msgF (hO q1) (dO 4)) _ B rfl ?_)
  refine (HH gt ⟨99, 1, 50, [rO s n]⟩ (hO q1) (dO 4) (n + 1) w4 FA (by first |  (unfold MsIn; decide) | exact ⟨⟨of_decide_eq_true rfl, of_decide_eq_true rfl⟩, ⟨by show (0 : Int) ≤ 1; decide, by show (1 : Int) < _; decide⟩, ⟨by show (0 : Int) ≤ 0; decide, by show (0 : Int) < _; decide⟩, by show (0 : Int) ≤ 0; decide, by show (0 : Int) < _; decide⟩)).mono ?_
  rintro e w5 ⟨rfl, FA2, o2⟩
  replace FA := FA2
  have hlt := B.lt
  replace hb := Only.below hb o2 hg (Nat.le_of_lt (Nat.lt_of_le_of_lt hgm0 hlt))
  replace B := B.only o2 hne
  clear FA2 o2 hlt
  rw [f4.out] at FA
  rw [f3.out]
  have hcell := B.cell 6 _ rfl
  have hfree := B.free 6
  have hset : Box (w5.setCell ⟨gm, 6, none⟩ (.int .i64 q2)) gm (msgF (hO q2) (dO 4)) 31 := B.set 6 (.int .i64 q2)
  have hFs := FA.setCell (Ne.symm hne) 6 (.int .i64 q2)
  have hbs := hb.setCell (p := ⟨gm, 6, none⟩) hgm0 (.int .i64 q2)
  go_upto_region 13 with fail
  generalize w5.setCell ⟨gm, 6, none⟩ (.int .i64 q2) = w6 at *
  replace B := hset
  replace FA := hFs
  replace hb := hbs
  clear hcell hfree hset hFs hbs
  clear hq2
  go_wp2_with (guard_target =~ wpList _ _ _ (⟨some 47, _, _, _, _, _⟩ :: _) _ _; refine wpList_load_msg (op := ⟨some 47, .load _ _, _, _, _, _⟩) (by rfl) _ (by rfl) gm (by rfl) (msgF (hO q2) (dO 4)) _ B rfl ?_)
  refine (HH gt ⟨99, 1, 50, [rO s n]⟩ (hO q2) (dO 4) (n - 1) w6 FA (by first |  (unfold MsIn; decide) | exact ⟨⟨of_decide_eq_true rfl, of_decide_eq_true rfl⟩, ⟨by show (0 : Int) ≤ 1; decide, by show (1 : Int) < _; decide⟩, ⟨by show (0 : Int) ≤ 0; decide, by show (0 : Int) < _; decide⟩, by show (0 : Int) ≤ 0; decide, by show (0 : Int) < _; decide⟩)).mono ?_
  rintro e w7 ⟨rfl, FA2, o2⟩
  replace FA := FA2
  have hlt := B.lt
  replace hb := Only.below hb o2 hg (Nat.le_of_lt (Nat.lt_of_le_of_lt hgm0 hlt))
  replace B := B.only o2 hne
  clear FA2 o2 hlt
  rw [f6.out] at FA
  rw [f5.out]
  by_cases hn00 : n = 0
  · rw [if_pos (by omega)]
    go_wp2_with fail
    refine (HRec gt ⟨99, 1, 50, [rO s n]⟩ w7 FA).mono ?_
    rintro e w8 ⟨v8, rfl, r8, b8⟩
    obtain ⟨p8, cap8, rfl, -, -, h8⟩ := r8
    obtain ⟨bb, off, rfl, hbb, hc⟩ := h8.pos (by simp)
    have c6 := hc 6 _ rfl
    have c14 := hc 14 _ rfl
    have c15 := hc 15 _ rfl
    clear hc h8
    replace hb := bnext hb b8
    go_wp2_with fail
    refine (awake12_from HNew HH HQ HBst HRec _).mono ?_
    rintro e w10 ⟨rfl, b10⟩
    go_wp2_with fail
    go_ret
    exact ⟨rfl, bnext hb b10⟩
  · rw [if_neg (by omega)]
    go_wp2_with fail
    refine (HRec gt ⟨99, 1, 50, [rO s n]⟩ w7 FA).mono ?_
    rintro e w8 ⟨v8, rfl, r8, b8⟩
    obtain ⟨p8, cap8, rfl, -, -, h8⟩ := r8
    obtain ⟨bb, off, rfl, hbb, hc⟩ := h8.pos (by simp)
    have c6 := hc 6 _ rfl
    have c14 := hc 14 _ rfl
    have c15 := hc 15 _ rfl
    clear hc h8
    replace hb := bnext hb b8
    go_wp2_with fail
    refine (awake12_from HNew HH HQ HBst HRec _).mono ?_
    rintro e w10 ⟨rfl, b10⟩
    go_wp2_with fail
    go_ret
    exact ⟨rfl, bnext hb b10⟩

end Go.Proofs.Ytdkgcggpgombaaa
