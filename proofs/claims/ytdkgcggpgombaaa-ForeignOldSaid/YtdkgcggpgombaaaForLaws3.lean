/- carillonlaw12: Best, from contracts of the program's own (gen_forlaws.py). -/
import Derived.Test.YtdkgcggpgombaaaForLaws1
import Derived.Test.YtdkgcggpgombaaaNum
namespace Go.Proofs.Ytdkgcggpgombaaa
open Go.RowKit Go.Proofs
set_option maxRecDepth 50000
set_option linter.unusedVariables false
set_option linter.unusedSimpArgs false

theorem ints_below {w w' : World} {v : Value} {zs : List Int} (h : Ints w v zs) (hb : Below w.heap.size w w') : Ints w' v zs := by
  obtain ⟨p, cap, rfl, h1, h2, h3⟩ := h
  exact ⟨p, cap, rfl, h1, h2, h3.below hb⟩
theorem putF_new (t : Ft) (h : Hd) (d : Bd) (now : Int) : ∀ (l : List Rc) (m : Nat), (∀ r ∈ l, r.v.sc ≠ h.sc) → l.length + m < 5 → putF t h d now l m = (l ++ [recF t h d (-1) now], 0)
  | [], m, _, hl => by
    unfold putF
    rw [if_neg (by simpa using hl)]
    rfl
  | r :: rs, m, hn, hl => by
    have ih := putF_new t h d now rs (m + 1) (fun x hx => hn x (by simp [hx])) (by rw [List.length_cons] at hl; omega)
    unfold putF
    rw [if_neg (fun hh => hn r (by simp) hh.1), ih]
    rfl
theorem putF_last (t : Ft) (h : Hd) (d : Bd) (now : Int) (r : Rc) (hs : r.v.sc = h.sc) (hp : r.v.sp = h.sp) (ho : ¬ oldR r h.sq now) : ∀ (l : List Rc) (m : Nat), (∀ r ∈ l, r.v.sc ≠ h.sc) → putF t h d now (l ++ [r]) m = (l ++ [recF t h d r.la now], 0)
  | [], m, _ => by
    show putF t h d now [r] m = _
    unfold putF
    rw [if_pos ⟨hs, hp⟩, if_neg ho]
    rfl
  | x :: rs, m, hn => by
    have ih := putF_last t h d now r hs hp ho rs (m + 1) (fun x hx => hn x (by simp [hx]))
    show putF t h d now (x :: (rs ++ [r])) m = _
    unfold putF
    rw [if_neg (fun hh => hn x (by simp) hh.1), ih]
    rfl

def pB (ps : List Int) (j : Nat) : Int := ps.getD j 0 % 64
def rB (j : Nat) (p sq fi la : Int) : Rc := ⟨⟨p, 0, 0, 0, 0, 1 + j, 0, 1 + j, 1, 99, 1⟩, 0, 0, 0, sq, fi, la⟩
def lB (ps : List Int) (n : Nat) : List Rc := (List.range n).map fun j => rB j (pB ps j) 1 0 1
def hB (j : Nat) (s : Int) : Hd := ⟨11, 0, 0, 0, 1 + j, 1, s, 0⟩
def dB (j : Nat) (p : Int) : Bd := ⟨0, 0, 0, 0, p, 0, 0, 0, 0, 1 + j, 0, 0, 0, 0, 0⟩
def tB (l : List Rc) : Ft := ⟨99, 1, 50, l⟩
/-- Behind q calls of the k-th one. -/
def lQ (ps : List Int) (k q : Nat) : List Rc := if q = 0 then lB ps k else if q = 1 then lB ps k ++ [rB k (pB ps k) 0 (-1) 0] else lB ps (k + 1)
theorem lB_length (ps : List Int) (n : Nat) : (lB ps n).length = n := by simp [lB]
theorem lB_succ (ps : List Int) (n : Nat) : lB ps (n + 1) = lB ps n ++ [rB n (pB ps n) 1 0 1] := by simp [lB, List.range_succ]
theorem lB_get (ps : List Int) (n j : Nat) (h : j < n) : (lB ps n)[j]'(by rw [lB_length]; exact h) = rB j (pB ps j) 1 0 1 := by simp [lB]
theorem lB_other (ps : List Int) (n k : Nat) (h : n ≤ k) : ∀ r ∈ lB ps n, r.v.sc ≠ 1 + (k : Int) := by
  intro r hr
  obtain ⟨j, hj, rfl⟩ := List.mem_map.1 hr
  have := List.mem_range.1 hj
  show (1 : Int) + (j : Int) ≠ 1 + (k : Int)
  omega
theorem hear_B (l : List Rc) (k : Nat) (p s now : Int) (hk : k < 5) (hn : now = 0 ∨ now = 1) (l' : List Rc) (hp : putF (tB l) (hB k s) (dB k p) now l 0 = (l', 0)) :
    hearE (tB l) (hB k s) (dB k p) now = 0 ∧ hearT (tB l) (hB k s) (dB k p) now = tB l' := by
  have e1 : ¬ (now < 0 ∨ 1099511627776 < now) := by omega
  have e2 : ¬ ((hB k s).sc = (tB l).own ∨ 255 ≤ (dB k p).sr ∨ ((hB k s).fl / 256) % 2 = 1) := by
    show ¬ ((1 : Int) + (k : Int) = 99 ∨ (255 : Int) ≤ 0 ∨ ((0 : Int) / 256) % 2 = 1)
    omega
  have e0 : ¬ (hB k s).ty ≠ 11 := by show ¬ (11 : Int) ≠ 11; decide
  refine ⟨?_, ?_⟩
  · unfold hearE
    rw [if_neg e0, if_neg e1, if_neg e2]
    show (putF (tB l) (hB k s) (dB k p) now l 0).2 = 0
    rw [hp]
  · unfold hearT
    rw [if_neg e0, if_neg e1, if_neg e2]
    show { tB l with l := (putF (tB l) (hB k s) (dB k p) now l 0).1 } = _
    rw [hp]
    rfl
theorem best_hear (ps : List Int) (k q : Nat) (hk : k < 5) (hq : q < 2) :
    hearE (tB (lQ ps k q)) (hB k q) (dB k (pB ps k)) q = 0 ∧ hearT (tB (lQ ps k q)) (hB k q) (dB k (pB ps k)) q = tB (lQ ps k (q + 1)) := by
  rcases (by omega : q = 0 ∨ q = 1) with rfl | rfl
  · refine hear_B _ k _ _ _ hk (.inl rfl) _ ?_
    show putF _ _ _ _ (lB ps k) 0 = _
    rw [putF_new _ _ _ _ (lB ps k) 0 (lB_other ps k k (Nat.le_refl _)) (by rw [lB_length]; omega)]
    rfl
  · refine hear_B _ k _ _ _ hk (.inr rfl) _ ?_
    show putF _ _ _ _ (lB ps k ++ [rB k (pB ps k) 0 (-1) 0]) 0 = _
    rw [putF_last _ _ _ _ _ rfl rfl (by unfold oldR rB hB; simp) (lB ps k) 0 (lB_other ps k k (Nat.le_refl _))]
    show _ = (lB ps (k + 1), 0)
    rw [lB_succ]
    rfl
theorem msB (k : Nat) (q p : Int) (hk : k < 5) : MsIn (hB k q) (dB k p) := by
  unfold MsIn hB dB
  simp only
  omega
def vB (ps : List Int) (n : Nat) : List Vc := (lB ps n).map (·.v)
theorem vB_length (ps : List Int) (n : Nat) : (vB ps n).length = n := by simp [vB, lB_length]
theorem vB_at (ps : List Int) (n j : Nat) (h : j < n) : vat (vB ps n) (j : Int) = (rB j (pB ps j) 1 0 1).v := by
  rw [vat_get _ _ (by rw [vB_length]; exact h)]
  simp [vB, lB]
theorem vB_comp (ps : List Int) (n i j : Nat) (hi : i < n) (hij : j < i) : (0 < compV (vat (vB ps n) (j : Int)) (vat (vB ps n) (i : Int))) ↔ pB ps i < pB ps j := by
  rw [vB_at ps n i hi, vB_at ps n j (by omega)]
  have hg : grandV (rB j (pB ps j) 1 0 1).v (rB i (pB ps i) 1 0 1).v = if pB ps i < pB ps j then 1 else -1 := by
    unfold grandV keyG rB
    simp only [lexL_cons]
    by_cases h1 : pB ps j < pB ps i
    · rw [if_pos h1, if_neg (by omega)]
    · rw [if_neg h1]
      by_cases h2 : pB ps i < pB ps j
      · rw [if_pos h2, if_pos h2]
      · rw [if_neg h2, if_neg h2]
        simp
        omega
  have hne : grandV (rB j (pB ps j) 1 0 1).v (rB i (pB ps i) 1 0 1).v ≠ 0 := by rw [hg]; split <;> decide
  rw [comp_grand hne, hg]
  by_cases h : pB ps i < pB ps j
  · simp [h]
  · simp [h]
theorem qual_B (ps : List Int) (n : Nat) : qualL (tB (lB ps n)) 3 = lB ps n := by
  unfold qualL
  refine List.filter_eq_self.2 fun r hr => ?_
  obtain ⟨j, hj, rfl⟩ := List.mem_map.1 hr
  rfl
theorem best_B (ps : List Int) (n : Nat) : bestN (lB ps n) = bestG (vB ps n) n := by
  unfold bestN
  rw [lB_length]
  rfl
theorem best_R (ps : List Int) (n b : Nat) (h : bestG (vB ps n) n = (b : Int)) (hb : b < n) : bestR (lB ps n) = rB b (pB ps b) 1 0 1 := by
  unfold bestR
  rw [best_B, h, if_neg (by omega), Int.toNat_natCast, List.getD_eq_getElem?_getD, List.getElem?_eq_getElem (by rw [lB_length]; exact hb), lB_get ps n b hb]
  rfl
theorem best_none : bestN [] = -1 ∧ decide (0 ≤ bestN []) = false := by decide

set_option maxRecDepth 100000 in
set_option maxHeartbeats 8000000 in
theorem foreignBest_from {R : List Value → Ft → Prop} (HNew : CNewF R) (HH : CHearF R) (HQ : CQualF R) (HBst : CBestF R) (HRec : CRecF R) (HClr : CClearF R) (v : Value) (zs : List Int) (w : World) (hI : Ints w v zs) :
    Calls Try.prog 5 #[v] w fun e w' => e = .returned (.bool true) ∧ Below w.heap.size w w' := by
  have m6 : ∀ n : Int, bits BinOp.and IntKind.i64 n 63 = n % 64 := fun n => and_mask n 6 (by decide)
  have HAT := hid fun (wx : World) (h : Below w.heap.size w wx) => ints_below hI h
  obtain ⟨pz, capz, rfl, hcapz, hmaxz, -⟩ := id hI
  clear hI
  unfold maxLen at hmaxz
  obtain ⟨M, hM⟩ : ∃ M, min zs.length 5 = M := ⟨_, rfl⟩
  have hMz : M ≤ zs.length := by omega
  have hM5 : M ≤ 5 := by omega
  have hM2 : ¬ (M < zs.length ∧ M < 5) := by omega
  clear hM
  have HB := hid fun (k q : Nat) (hk : k < 5) (hq : q < 2) => best_hear zs k q hk hq
  have HCm := hid fun (i j : Nat) (hi : i < M) (hij : j < i) => vB_comp zs M i j hi hij
  have HRg := hid (bestG_range (vB zs M))
  have HBs := hid (fun n h => bestG_first (vB zs M) n h)
  have HBl := hid (fun n h h2 => bestG_later (vB zs M) n h h2)
  have HBt := hid (fun n h h2 => bestG_stays (vB zs M) n h h2)
  go_enter Try.func5, Try.ntmps5
  go_wp2_with fail
  refine (HNew 99 1 50 w (by decide)).mono ?_
  rintro e w1 ⟨gt, rfl, hg, FA, hb⟩
  rw [show clampW 50 = 50 by decide] at FA
  go_wp2_with fail
  go_loopw [4, 5] (fun n i wr => ∃ k : Nat, k ≤ M ∧ i = .int .i64 (k : Int) ∧ n = .int .i64 (bestG (vB zs M) k) ∧ FAt R wr gt (tB (lB zs k)) ∧ Below w.heap.size w wr) (fun _ i _ => 5 - (intOf i).toNat)
  case atStart => exact ⟨0, Nat.zero_le _, rfl, rfl, FA, hb⟩
  case round =>
    obtain ⟨k, hkM, rfl, rfl, FA, hb⟩ := hrel
    by_cases hlt : k < zs.length ∧ k < 5
    · obtain ⟨hkz, hk5⟩ := hlt
      have hkM2 : k < M := by omega
      obtain ⟨p', cap', hpe, -, -, hat⟩ := HAT.out wr hb
      cases hpe
      obtain ⟨b0, off, rfl, hbl, hc⟩ := hat.pos (by omega)
      have hcell := hc k hkz
      have hpB : zs[k] % 64 = pB zs k := by unfold pB; rw [List.getD_eq_getElem?_getD, List.getElem?_eq_getElem hkz]; rfl
      generalize zs[k] = z at *
      have hk5I : (k : Int) < 5 := by omega
      have hkzI : (k : Int) < (zs.length : Int) := by omega
      generalize hP : pB zs k = P at *
      have hw1 : IntKind.u64.wrap (1 + (k : Int)) = 1 + (k : Int) := by rw [IntKind.wrap_u64]; omega
      clear hc
      have N := Box.new wr (msgF hd0 bd0) 31
      have nb := bnew wr (Obj.cells (msgF hd0 bd0).toArray 31)
      go_upto_region 10 with (first | (guard_target =~ wpList _ _ _ (⟨some 37, _, _, _, _, _⟩ :: _) _ _; refine wpList_build_any (op := ⟨some 37, .build _ _, _, _, _, _⟩) (by rfl) _ _ (by rfl) _ (by rfl) (msgF (hB k 0) (dB k P)).toArray (by kernel_rfl) ?_) | (guard_target =~ wpList _ _ _ (⟨none, _, _, _, _, _⟩ :: _) _ _; refine wpList_store_msg (op := ⟨none, .store _ _ _, _, _, _, _⟩) (by rfl) _ _ (by rfl) wr.heap.size (msgF (hB k 0) (dB k P)) (msgF hd0 bd0) _ (by rfl) (by rfl) N (by rfl) (by rfl) (msgL_one _ _ (bdL_one _)) ?_))
      have B := N.row (msgF (hB k 0) (dB k P))
      replace nb := below_setRow nb (Nat.le_refl _) (msgF (hB k 0) (dB k P)).toArray
      change Code.wp _ _ _ _ ((wr.alloc (Obj.cells (msgF hd0 bd0).toArray 31)).setRow wr.heap.size (msgF (hB k 0) (dB k P)).toArray)
      generalize ((wr.alloc (Obj.cells (msgF hd0 bd0).toArray 31)).setRow wr.heap.size (msgF (hB k 0) (dB k P)).toArray) = W1 at *
      have hgm : wr.heap.size < W1.heap.size := B.lt
      have hgl := FA.lt
      have hsz := hb.size
      replace FA := FA.below nb
      have hne : wr.heap.size ≠ gt := by omega
      replace hb := bnext hb nb
      obtain ⟨gm, hgme⟩ : ∃ gm, wr.heap.size = gm := ⟨_, rfl⟩
      simp only [hgme] at *
      have hgm0 : w.heap.size ≤ gm := by omega
      clear N nb hgme hgl hsz
      go_wp2_with fail
      go_loopw [8] (fun j wr => ∃ q : Nat, q ≤ 2 ∧ j = .int .i64 (q : Int) ∧ FAt R wr gt (tB (lQ zs k q)) ∧ Box wr gm (msgF (hB k (if q = 2 then 1 else 0)) (dB k P)) 31 ∧ Below w.heap.size w wr) (fun j _ => 2 - (intOf j).toNat)
      case atStart => exact ⟨0, by decide, rfl, FA, B, hb⟩
      case round =>
        obtain ⟨q, hq2, rfl, FA, B, hb⟩ := hrel
        by_cases hq : q < 2
        · obtain ⟨f1, f2⟩ := HB.out k q hk5 hq
          rw [hP] at f1 f2
          replace f1 := hid f1
          replace f2 := hid f2
          have hqI : (q : Int) < 2 := by omega
          have hcell := B.cell 6 _ rfl
          have hfree := B.free 6
          have hset : Box (wr.setCell ⟨gm, 6, none⟩ (.int .i64 (q : Int))) gm (msgF (hB k q) (dB k P)) 31 := B.set 6 (.int .i64 (q : Int))
          have hFs := FA.setCell (Ne.symm hne) 6 (.int .i64 (q : Int))
          have hbs := hb.setCell (p := ⟨gm, 6, none⟩) hgm0 (.int .i64 (q : Int))
          go_upto_region 14 with fail
          generalize wr.setCell ⟨gm, 6, none⟩ (.int .i64 (q : Int)) = w4 at *
          replace B := hset
          replace FA := hFs
          replace hb := hbs
          clear hcell hfree hset hFs hbs
          go_wp2_with (guard_target =~ wpList _ _ _ (⟨some 45, _, _, _, _, _⟩ :: _) _ _; refine wpList_load_msg (op := ⟨some 45, .load _ _, _, _, _, _⟩) (by rfl) _ (by rfl) gm (by rfl) (msgF (hB k q) (dB k P)) _ B rfl ?_)
          refine (HH gt (tB (lQ zs k q)) (hB k q) (dB k P) q w4 FA (by first | exact msB k q P hk5 | (unfold MsIn; decide) | exact ⟨⟨of_decide_eq_true rfl, of_decide_eq_true rfl⟩, ⟨by show (0 : Int) ≤ 1; decide, by show (1 : Int) < _; decide⟩, ⟨by show (0 : Int) ≤ 0; decide, by show (0 : Int) < _; decide⟩, by show (0 : Int) ≤ 0; decide, by show (0 : Int) < _; decide⟩)).mono ?_
          rintro e w5 ⟨rfl, FA2, o2⟩
          replace FA := FA2
          have hlt := B.lt
          replace hb := Only.below hb o2 hg (Nat.le_of_lt (Nat.lt_of_le_of_lt hgm0 hlt))
          replace B := B.only o2 hne
          clear FA2 o2 hlt
          rw [f2.out] at FA
          rw [f1.out]
          have BB : Box w5 gm (msgF (hB k (if q + 1 = 2 then 1 else 0)) (dB k P)) 31 := by
            rcases (by omega : q = 0 ∨ q = 1) with rfl | rfl <;> exact B
          go_wp2_with fail
          go_roundw
          case rel => exact ⟨q + 1, hq, by go_num, FA, BB, hb⟩
          case measure => simp [intOf]; omega
        · obtain rfl : q = 2 := by omega
          replace FA : FAt R wr gt (tB (lB zs (k + 1))) := FA
          clear B
          obtain ⟨p', cap', hpe, -, -, hat⟩ := HAT.out wr hb
          cases hpe
          obtain ⟨b1, off1, hpe, hbl1, hc1⟩ := hat.pos (by omega)
          cases hpe
          rcases HRg.out k with ⟨rfl, hL⟩ | ⟨hL0, hL1⟩
          · have hN := hid (HBs.out 0 (by rw [hL]; decide))
            rw [hL]
            clear hc1
            go_wp2_with fail
            go_roundw
            case rel => exact ⟨0 + 1, hkM2, by go_num, by rw [hN.out], FA, hb⟩
            case measure => simp [intOf]
          · obtain ⟨j, hj⟩ : ∃ j : Nat, bestG (vB zs M) k = (j : Int) := ⟨(bestG (vB zs M) k).toNat, by omega⟩
            have hjk : j < k := by omega
            have hcm := HCm.out k j hkM2 hjk
            have hcj := hc1 j (by omega)
            have hpj : zs[j]'(by omega) % 64 = pB zs j := by unfold pB; rw [List.getD_eq_getElem?_getD, List.getElem?_eq_getElem (show j < zs.length by omega)]; rfl
            generalize zs[j]'(by omega) = zj at *
            have hjI : (j : Int) < (zs.length : Int) := by omega
            clear hc1
            rw [hP] at hcm
            by_cases hPP : P < pB zs j
            · have hN := hid (HBl.out k (by omega) (by rw [hj]; exact hcm.2 hPP))
              rw [hj]
              generalize pB zs j = PJ at *
              go_wp2_with fail
              go_roundw
              case rel => exact ⟨k + 1, hkM2, by go_num, by rw [hN.out], FA, hb⟩
              case measure => simp [intOf]; omega
            · have hN := hid ((HBt.out k (by omega) (by rw [hj]; first | exact fun hh => hPP (hcm.1 hh) | (have := mt hcm.1 hPP; omega))).trans hj)
              rw [hj]
              generalize pB zs j = PJ at *
              go_wp2_with fail
              go_roundw
              case rel => exact ⟨k + 1, hkM2, by go_num, by rw [hN.out], FA, hb⟩
              case measure => simp [intOf]; omega
    · have hkM3 : k = M := by omega
      have hQ := hid (qual_B zs M)
      have hBN := hid (best_B zs M)
      have hBR := hid (best_R zs M)
      subst hkM3
      go_wp2_with fail
      all_goals
        refine (HBst gt (tB (lB zs k)) 3 wr FA).mono ?_
        rintro e w6 ⟨rfl, b6⟩
        rw [hQ.out, hBN.out]
        replace FA := FA.below b6
        replace hb := bnext hb b6
        clear b6
        rcases HRg.out k with ⟨hM0, hL⟩ | ⟨hL0, hL1⟩
        · rw [hL, show decide ((0 : Int) ≤ -1) = false from rfl]
          generalize bestR (lB zs k) = RR at *
          have N := Box.new w6 (rcL zeroR) 46
          have nb := bnew w6 (Obj.cells (rcL zeroR).toArray 46)
          have BR := N.row (rcL RR)
          go_upto_region 19 with (guard_target =~ wpList _ _ _ (⟨none, _, _, _, _, _⟩ :: _) _ _; refine wpList_store_rec (op := ⟨none, .store _ _ _, _, _, _, _⟩) (by rfl) _ _ (by rfl) w6.heap.size RR zeroR _ (by rfl) (by rfl) N ?_)
          replace nb := below_setRow nb (Nat.le_refl _) (rcL RR).toArray
          change Code.wp _ _ _ _ ((w6.alloc (Obj.cells (rcL zeroR).toArray 46)).setRow w6.heap.size (rcL RR).toArray)
          generalize ((w6.alloc (Obj.cells (rcL zeroR).toArray 46)).setRow w6.heap.size (rcL RR).toArray) = w7 at *
          replace FA := FA.below nb
          replace hb := bnext hb nb
          clear N nb
          generalize w6.heap.size = g6 at *
          clear BR
          go_wp2_with fail
          refine (HClr gt (tB (lB zs k)) w7 FA).mono ?_
          rintro e w8 ⟨rfl, FA2, o8⟩
          replace FA := FA2
          replace hb := Only.below hb o8 hg hb.size
          clear FA2 o8
          go_wp2_with fail
          refine (HBst gt _ 3 w8 FA).mono ?_
          rintro e w9 ⟨rfl, b9⟩
          rw [show qualL { tB (lB zs k) with l := [] } 3 = [] from rfl, best_none.2]
          replace FA := FA.below b9
          replace hb := bnext hb b9
          clear b9
          generalize bestR [] = R0 at *
          go_wp2_with fail
          refine (HRec gt _ w9 FA).mono ?_
          rintro e w10 ⟨v10, rfl, r10, b10⟩
          obtain ⟨p10, cap10, rfl, -, -, -⟩ := r10
          rw [show ({ tB (lB zs k) with l := [] } : Ft).l.length = 0 from rfl]
          replace hb := bnext hb b10
          go_wp2_with fail
          refine (awake12_from HNew HH HQ HBst HRec _).mono ?_
          rintro e w11 ⟨rfl, b11⟩
          go_wp2_with fail
          go_ret
          exact ⟨rfl, bnext hb b11⟩
        · obtain ⟨b, hbb⟩ : ∃ b : Nat, bestG (vB zs k) k = (b : Int) := ⟨(bestG (vB zs k) k).toNat, by omega⟩
          have hbk : b < k := by omega
          rw [hBR.out b hbb hbk, hbb, show decide ((0 : Int) ≤ (b : Int)) = true from decide_eq_true (by omega)]
          obtain ⟨RR, hRR⟩ : ∃ RR, rB b (pB zs b) 1 0 1 = RR := ⟨_, rfl⟩
          have h7 : (rcL RR)[7]? = some (.int .u64 (1 + (b : Int))) := by rw [← hRR]; rfl
          rw [hRR]
          have hw1 : IntKind.u64.wrap (1 + (b : Int)) = 1 + (b : Int) := by rw [IntKind.wrap_u64]; omega
          clear hRR
          have N := Box.new w6 (rcL zeroR) 46
          have nb := bnew w6 (Obj.cells (rcL zeroR).toArray 46)
          have BR := N.row (rcL RR)
          go_upto_region 19 with (guard_target =~ wpList _ _ _ (⟨none, _, _, _, _, _⟩ :: _) _ _; refine wpList_store_rec (op := ⟨none, .store _ _ _, _, _, _, _⟩) (by rfl) _ _ (by rfl) w6.heap.size RR zeroR _ (by rfl) (by rfl) N ?_)
          replace nb := below_setRow nb (Nat.le_refl _) (rcL RR).toArray
          change Code.wp _ _ _ _ ((w6.alloc (Obj.cells (rcL zeroR).toArray 46)).setRow w6.heap.size (rcL RR).toArray)
          generalize ((w6.alloc (Obj.cells (rcL zeroR).toArray 46)).setRow w6.heap.size (rcL RR).toArray) = w7 at *
          replace FA := FA.below nb
          replace hb := bnext hb nb
          clear N nb
          generalize w6.heap.size = g6 at *
          have c7 := BR.cell 7 _ h7
          clear BR h7
          go_wp2_with fail
          refine (HClr gt (tB (lB zs k)) w7 FA).mono ?_
          rintro e w8 ⟨rfl, FA2, o8⟩
          replace FA := FA2
          replace hb := Only.below hb o8 hg hb.size
          clear FA2 o8
          go_wp2_with fail
          refine (HBst gt _ 3 w8 FA).mono ?_
          rintro e w9 ⟨rfl, b9⟩
          rw [show qualL { tB (lB zs k) with l := [] } 3 = [] from rfl, best_none.2]
          replace FA := FA.below b9
          replace hb := bnext hb b9
          clear b9
          generalize bestR [] = R0 at *
          go_wp2_with fail
          refine (HRec gt _ w9 FA).mono ?_
          rintro e w10 ⟨v10, rfl, r10, b10⟩
          obtain ⟨p10, cap10, rfl, -, -, -⟩ := r10
          rw [show ({ tB (lB zs k) with l := [] } : Ft).l.length = 0 from rfl]
          replace hb := bnext hb b10
          go_wp2_with fail
          refine (awake12_from HNew HH HQ HBst HRec _).mono ?_
          rintro e w11 ⟨rfl, b11⟩
          go_wp2_with fail
          go_ret
          exact ⟨rfl, bnext hb b11⟩

end Go.Proofs.Ytdkgcggpgombaaa
