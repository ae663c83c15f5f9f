/- header.Get. -/
import Derived.Test.YtohgpnlihfcecaaMsg
import Derived.Test.YtohgpnlihfcecaaB4
namespace Go.Proofs.Ytohgpnlihfcecaa
open Go.RowKit Go.Proofs
set_option maxRecDepth 50000
set_option linter.unusedVariables false
set_option linter.unusedSimpArgs false

/-- The header that bytes say. -/
def gotH (l : List UInt8) : Hd := ⟨(numAt l 0 1 : Nat), (numAt l 4 1 : Nat), (numAt l 6 2 : Nat), signedAt l 8 8, (numAt l 20 8 : Nat), (numAt l 28 2 : Nat), (numAt l 30 2 : Nat), signedAt l 33 1⟩

set_option maxRecDepth 100000 in
set_option maxHeartbeats 4000000 in
theorem read_any (v : Value) (l : List UInt8) (w : World) (hB : Bytes w v l) (hl : l.length ≤ 140737488355328) (h34 : 34 ≤ l.length) :
    Calls Try.prog 58 #[v] w fun e w' => e = .returned (.agg (msgL (gotH l) zr).toArray) ∧ Below w.heap.size w w' := by
  have HB := hid fun (w' : World) (h : Below w.heap.size w w') => hB.below h
  have HS0 : Hid (standB l.length 0 1 = true) := hid (standB_true (by decide) (by decide) (by omega))
  have HS1 : Hid (standB l.length 4 1 = true) := hid (standB_true (by decide) (by decide) (by omega))
  have HS2 : Hid (standB l.length 6 2 = true) := hid (standB_true (by decide) (by decide) (by omega))
  have HS3 : Hid (standB l.length 8 8 = true) := hid (standB_true (by decide) (by decide) (by omega))
  have HS4 : Hid (standB l.length 20 10 = true) := hid (standB_true (by decide) (by decide) (by omega))
  have HS5 : Hid (standB l.length 30 2 = true) := hid (standB_true (by decide) (by decide) (by omega))
  have HS6 : Hid (standB l.length 33 1 = true) := hid (standB_true (by decide) (by decide) (by omega))
  clear hB h34
  go_enter Try.func58, Try.ntmps58
  go_upto_region 2 with fail
  have hA : Box (w.alloc (Obj.cells (msgL hd0 zr).toArray 28)) w.heap.size (msgL hd0 zr) 28 := Box.new _ _ _
  have hM : Box ((w.alloc (Obj.cells (msgL hd0 zr).toArray 28)).alloc (Obj.cells (msgL hd0 zr).toArray 28)) (w.heap.size + 1) (msgL hd0 zr) 28 := heap_alloc2_new w _ _
  replace hA := hA.below (bnew _ (Obj.cells (msgL hd0 zr).toArray 28))
  have hb := bnew2 w (Obj.cells (msgL hd0 zr).toArray 28) (Obj.cells (msgL hd0 zr).toArray 28)
  have hne : w.heap.size ≠ w.heap.size + 1 := by omega
  have hG : w.heap.size ≤ w.heap.size + 1 := by omega
  change Code.wp Try.prog _ _ _ ((w.alloc (Obj.cells (msgL hd0 zr).toArray 28)).alloc (Obj.cells (msgL hd0 zr).toArray 28))
  generalize ((w.alloc (Obj.cells (msgL hd0 zr).toArray 28)).alloc (Obj.cells (msgL hd0 zr).toArray 28)) = W at *
  generalize w.heap.size + 1 = G at *
  go_wp2_with fail
  -- READS
  refine (get_ok _ l _ _ _ (HB.out _ hb) hl (by decide) (by decide) (by decide) HS0.out).mono ?_
  rintro e w' ⟨rfl, rfl⟩
  have hc := hM.cell 0 _ rfl
  have hf := hM.free 0
  rw [show (0 : Int).toNat = 0 by decide, show (1 : Int).toNat = 1 by decide]
  go_wp2_with fail
  replace hA := hA.other hne 0 (.int .i64 (numAt l 0 1 : Nat))
  replace hM : Box _ G (msgL ⟨(numAt l 0 1 : Nat), 0, 0, 0, 0, 0, 0, 0⟩ zr) _ := hM.set 0 (.int .i64 (numAt l 0 1 : Nat))
  replace hb := hb.setCell (p := ⟨G, 0, none⟩) hG (.int .i64 (numAt l 0 1 : Nat))
  clear hc hf
  generalize World.setCell _ _ _ = W0 at *
  refine (get_ok _ l _ _ _ (HB.out _ hb) hl (by decide) (by decide) (by decide) HS1.out).mono ?_
  rintro e w' ⟨rfl, rfl⟩
  have hc := hM.cell 1 _ rfl
  have hf := hM.free 1
  rw [show (4 : Int).toNat = 4 by decide, show (1 : Int).toNat = 1 by decide]
  go_wp2_with fail
  replace hA := hA.other hne 1 (.int .i64 (numAt l 4 1 : Nat))
  replace hM : Box _ G (msgL ⟨(numAt l 0 1 : Nat), (numAt l 4 1 : Nat), 0, 0, 0, 0, 0, 0⟩ zr) _ := hM.set 1 (.int .i64 (numAt l 4 1 : Nat))
  replace hb := hb.setCell (p := ⟨G, 1, none⟩) hG (.int .i64 (numAt l 4 1 : Nat))
  clear hc hf
  generalize World.setCell _ _ _ = W1 at *
  refine (get_ok _ l _ _ _ (HB.out _ hb) hl (by decide) (by decide) (by decide) HS2.out).mono ?_
  rintro e w' ⟨rfl, rfl⟩
  have hc := hM.cell 2 _ rfl
  have hf := hM.free 2
  rw [show (6 : Int).toNat = 6 by decide, show (2 : Int).toNat = 2 by decide]
  go_wp2_with fail
  replace hA := hA.other hne 2 (.int .i64 (numAt l 6 2 : Nat))
  replace hM : Box _ G (msgL ⟨(numAt l 0 1 : Nat), (numAt l 4 1 : Nat), (numAt l 6 2 : Nat), 0, 0, 0, 0, 0⟩ zr) _ := hM.set 2 (.int .i64 (numAt l 6 2 : Nat))
  replace hb := hb.setCell (p := ⟨G, 2, none⟩) hG (.int .i64 (numAt l 6 2 : Nat))
  clear hc hf
  generalize World.setCell _ _ _ = W2 at *
  refine (signed_ok _ l _ _ _ (HB.out _ hb) hl (by decide) (by decide) (by decide) HS3.out).mono ?_
  rintro e w' ⟨rfl, rfl⟩
  have hc := hM.cell 3 _ rfl
  have hf := hM.free 3
  rw [show (8 : Int).toNat = 8 by decide]
  go_wp2_with fail
  replace hA := hA.other hne 3 (.int .i64 (signedAt l 8 8))
  replace hM : Box _ G (msgL ⟨(numAt l 0 1 : Nat), (numAt l 4 1 : Nat), (numAt l 6 2 : Nat), (signedAt l 8 8), 0, 0, 0, 0⟩ zr) _ := hM.set 3 (.int .i64 (signedAt l 8 8))
  replace hb := hb.setCell (p := ⟨G, 3, none⟩) hG (.int .i64 (signedAt l 8 8))
  clear hc hf
  generalize World.setCell _ _ _ = W3 at *
  refine (identGet_any _ l _ _ (HB.out _ hb) hl (by decide)).mono ?_
  rintro e wi ⟨rfl, hbi⟩
  rw [gotC_yes HS4.out, gotP_yes HS4.out]
  replace hA := hA.below hbi
  replace hM := hM.below hbi
  replace hb := bnext hb hbi
  clear hbi
  have hc := hM.cell 4 _ rfl
  have hf := hM.free 4
  have hc2 := hM.cell 5 _ rfl
  have hf2 := hM.free 5
  go_wp2_with fail
  replace hA := (hA.other hne 4 (.int .u64 (numAt l 20 8 : Nat))).other hne 5 (.int .i64 (numAt l 28 2 : Nat))
  replace hM : Box _ G (msgL ⟨(numAt l 0 1 : Nat), (numAt l 4 1 : Nat), (numAt l 6 2 : Nat), (signedAt l 8 8), (numAt l 20 8 : Nat), (numAt l 28 2 : Nat), 0, 0⟩ zr) _ := (hM.set 4 (.int .u64 (numAt l 20 8 : Nat))).set 5 (.int .i64 (numAt l 28 2 : Nat))
  replace hb := (hb.setCell (p := ⟨G, 4, none⟩) hG (.int .u64 (numAt l 20 8 : Nat))).setCell (p := ⟨G, 5, none⟩) hG (.int .i64 (numAt l 28 2 : Nat))
  clear hc hf hc2 hf2
  generalize World.setCell _ _ _ = W4 at *
  refine (get_ok _ l _ _ _ (HB.out _ hb) hl (by decide) (by decide) (by decide) HS5.out).mono ?_
  rintro e w' ⟨rfl, rfl⟩
  have hc := hM.cell 6 _ rfl
  have hf := hM.free 6
  rw [show (30 : Int).toNat = 30 by decide, show (2 : Int).toNat = 2 by decide]
  go_wp2_with fail
  replace hA := hA.other hne 6 (.int .i64 (numAt l 30 2 : Nat))
  replace hM : Box _ G (msgL ⟨(numAt l 0 1 : Nat), (numAt l 4 1 : Nat), (numAt l 6 2 : Nat), (signedAt l 8 8), (numAt l 20 8 : Nat), (numAt l 28 2 : Nat), (numAt l 30 2 : Nat), 0⟩ zr) _ := hM.set 6 (.int .i64 (numAt l 30 2 : Nat))
  replace hb := hb.setCell (p := ⟨G, 6, none⟩) hG (.int .i64 (numAt l 30 2 : Nat))
  clear hc hf
  generalize World.setCell _ _ _ = W5 at *
  refine (signed_ok _ l _ _ _ (HB.out _ hb) hl (by decide) (by decide) (by decide) HS6.out).mono ?_
  rintro e w' ⟨rfl, rfl⟩
  have hc := hM.cell 7 _ rfl
  have hf := hM.free 7
  rw [show (33 : Int).toNat = 33 by decide, show (1 : Int).toNat = 1 by decide]
  have hA2 := hA.other hne 7 (.int .i64 (signedAt l 33 1))
  have hM2 : Box _ G (msgL (gotH l) zr) _ := hM.set 7 (.int .i64 (signedAt l 33 1))
  have hb2 := hb.setCell (p := ⟨G, 7, none⟩) hG (.int .i64 (signedAt l 33 1))
  clear hA hM hb
  -- END READS
  go_upto_region 9 with fail
  apply wp_region_lit
  refine wpList_load_msg (op := ⟨some 46, .load _ _, _, _, _, _⟩) rfl _ rfl G rfl (msgL (gotH l) zr) _ hM2 (msgL_length _ _ zr_length) ?_
  refine wpList_store_msg (op := ⟨none, .store _ _ _, _, _, _, _⟩) rfl _ _ rfl w.heap.size (msgL (gotH l) zr) (msgL hd0 zr) _ rfl rfl hA2 (msgL_length _ _ zr_length) (msgL_length _ _ zr_length) (msgL_one _ _ zr_one) ?_
  go_wp2_with fail
  exact bodyPost_ret (v := .agg (msgL (gotH l) zr).toArray) (results_cell_row rfl _ _ w.heap.size _ _ (0, 0) _ rfl (hA2.row _) Try.underlying28 rfl info_msg) rfl ⟨rfl, below_setRow hb2 (Nat.le_refl _) _⟩
/-- The length that a header says. -/
def lenOf (l : List UInt8) : Int := (numAt l 2 2 : Nat)

/-- Bytes that are none of a message. -/
def badB (l : List UInt8) : Bool := !knownB (numAt l 0 1 : Nat) || !decide (((numAt l 1 1 : Nat) : Int) % 16 = 2) || !inB (lenOf l) 34 400

/-- How Get ends. -/
def getE (l : List UInt8) : Int := if l.length < 34 then 2 else if badB l then 4 else if (l.length : Int) < lenOf l then 2 else if lenOf l < l.length then 3 else 0
def getN (l : List UInt8) : Int := if getE l = 0 then lenOf l else 0
def getH (l : List UInt8) : Hd := if getE l = 0 then gotH l else hd0

theorem get_none {l : List UInt8} (h : getE l ≠ 0) : getN l = 0 ∧ getH l = hd0 := ⟨if_neg h, if_neg h⟩
theorem get_some {l : List UInt8} (h : getE l = 0) : getN l = lenOf l ∧ getH l = gotH l := ⟨if_pos h, if_pos h⟩

theorem getE_few {l : List UInt8} (h : l.length < 34) : getE l = 2 := if_pos h
theorem getE_bad {l : List UInt8} (h : ¬ l.length < 34) (h2 : badB l = true) : getE l = 4 := by unfold getE; rw [if_neg h, if_pos h2]
theorem getE_short {l : List UInt8} (h : ¬ l.length < 34) (h2 : badB l = false) (h3 : (l.length : Int) < lenOf l) : getE l = 2 := by unfold getE; rw [if_neg h, h2, if_neg (by decide), if_pos h3]
theorem getE_long {l : List UInt8} (h : ¬ l.length < 34) (h2 : badB l = false) (h4 : lenOf l < l.length) : getE l = 3 := by unfold getE; rw [if_neg h, h2, if_neg (by decide), if_neg (by omega), if_pos h4]
theorem getE_ok {l : List UInt8} (h : ¬ l.length < 34) (h2 : badB l = false) (h3 : lenOf l = l.length) : getE l = 0 := by unfold getE; rw [if_neg h, h2, if_neg (by decide), if_neg (by omega), if_neg (by omega)]

theorem numAt1_lt (l : List UInt8) (A : Nat) : numAt l A 1 < 256 := by
  unfold numAt
  refine Nat.lt_of_lt_of_le (num_small _) ?_
  refine Nat.le_trans (Nat.pow_le_pow_right (by decide) (show _ ≤ 1 from ?_)) (by decide)
  rw [List.length_take]
  omega

theorem numAt2_lt (l : List UInt8) (A : Nat) : numAt l A 2 < 65536 := by
  unfold numAt
  refine Nat.lt_of_lt_of_le (num_small _) ?_
  refine Nat.le_trans (Nat.pow_le_pow_right (by decide) (show _ ≤ 2 from ?_)) (by decide)
  rw [List.length_take]
  omega

theorem and15 (n : Int) : bits .and .i64 n 15 = n % 16 := and_mask n 4 (by decide)

set_option maxHeartbeats 1600000 in
theorem whole_any (v : Value) (l : List UInt8) (w : World) (hB : Bytes w v l) (hl : l.length ≤ 140737488355328) :
    Calls Try.prog 57 #[v] w fun e w' => e = .returned (.tuple #[.int .i64 (getN l), .int .i64 (getE l)]) ∧ w = w' := by
  have HB := hid hB
  obtain ⟨p, cap, rfl, hcap, hmax, hpat⟩ := hB
  clear hcap hmax hpat
  by_cases h : l.length < 34
  · have he := getE_few h
    rw [(get_none (by rw [he]; decide)).1, he]
    go_enter Try.func57, Try.ntmps57
    go_wp2
    go_ret2
    exact ⟨rfl, rfl⟩
  have HS0 : Hid (standB l.length 0 1 = true) := hid (standB_true (by decide) (by decide) (by omega))
  have HS1 : Hid (standB l.length 1 1 = true) := hid (standB_true (by decide) (by decide) (by omega))
  have HS2 : Hid (standB l.length 2 2 = true) := hid (standB_true (by decide) (by decide) (by omega))
  have HE : Hid (badB l = (!knownB (numAt l 0 1 : Nat) || !decide (((numAt l 1 1 : Nat) : Int) % 16 = 2) || !inB (lenOf l) 34 400)) := hid rfl
  have hx := numAt2_lt l 2
  have Hlen : Hid (lenOf l = ((numAt l 2 2 : Nat) : Int)) := hid rfl
  have K : Hid (∀ (e : Int), getE l = e → getN l = (if e = 0 then lenOf l else 0)) := hid fun e he => by unfold getN; rw [he]
  have Bad : Hid (badB l = true → getE l = 4) := hid (getE_bad h)
  have Short : Hid (badB l = false → (l.length : Int) < lenOf l → getE l = 2) := hid (getE_short h)
  have Long : Hid (badB l = false → lenOf l < l.length → getE l = 3) := hid (getE_long h)
  have Ok : Hid (badB l = false → lenOf l = l.length → getE l = 0) := hid (getE_ok h)
  generalize getE l = E at *
  generalize getN l = N at *
  generalize badB l = B at *
  generalize lenOf l = L at *
  have hlenI : (34 : Int) ≤ (l.length : Int) := by omega
  go_enter Try.func57, Try.ntmps57
  go_wp2_with fail
  refine (get_ok _ l _ _ _ HB.out hl (by decide) (by decide) (by decide) HS0.out).mono ?_
  rintro e w' ⟨rfl, rfl⟩
  rw [show (0 : Int).toNat = 0 by decide, show (1 : Int).toNat = 1 by decide]
  go_wp2_with fail
  refine (get_ok _ l _ _ _ HB.out hl (by decide) (by decide) (by decide) HS1.out).mono ?_
  rintro e w' ⟨rfl, rfl⟩
  rw [show (1 : Int).toNat = 1 by decide]
  go_wp2_with fail
  refine (get_ok _ l _ _ _ HB.out hl (by decide) (by decide) (by decide) HS2.out).mono ?_
  rintro e w' ⟨rfl, rfl⟩
  rw [show (2 : Int).toNat = 2 by decide, ← Hlen.out]
  generalize ((numAt l 0 1 : Nat) : Int) = T at *
  generalize ((numAt l 1 1 : Nat) : Int) = A at *
  have h15 := and15 A
  cases hk : knownB T
  · rw [hk] at HE
    have hb : B = true := by rw [HE.out]; rfl
    have He := hid (Bad.out hb)
    have HN := hid (K.out 4 He.out)
    clear hb
    go_wp2_with fail
    refine (known_any _ _).mono ?_
    rintro e w' ⟨rfl, rfl⟩
    rw [hk]
    go_wp2_with fail
    go_ret2
    exact ⟨by rw [HN.out, He.out]; rfl, rfl⟩
  rw [hk] at HE
  by_cases ha : A % 16 = 2
  · rw [decide_eq_true ha] at HE
    cases hi : inB L 34 400
    · rw [hi] at HE
      have hb : B = true := by rw [HE.out]; rfl
      have He := hid (Bad.out hb)
      have HN := hid (K.out 4 He.out)
      clear hb
      go_wp2_with fail
      refine (known_any _ _).mono ?_
      rintro e w' ⟨rfl, rfl⟩
      rw [hk]
      go_wp2_with fail
      refine (mayLen_any _ _).mono ?_
      rintro e w' ⟨rfl, rfl⟩
      rw [hi]
      go_wp2_with fail
      go_ret2
      exact ⟨by rw [HN.out, He.out]; rfl, rfl⟩
    · rw [hi] at HE
      have hb : B = false := by rw [HE.out]; rfl
      rcases Int.lt_trichotomy (l.length : Int) L with hlt | heq | hgt
      · have He := hid (Short.out hb hlt)
        have HN := hid (K.out 2 He.out)
        clear hb
        go_wp2_with fail
        refine (known_any _ _).mono ?_
        rintro e w' ⟨rfl, rfl⟩
        rw [hk]
        go_wp2_with fail
        refine (mayLen_any _ _).mono ?_
        rintro e w' ⟨rfl, rfl⟩
        rw [hi]
        go_wp2_with fail
        go_ret2
        exact ⟨by rw [HN.out, He.out]; rfl, rfl⟩
      · have He := hid (Ok.out hb heq.symm)
        have HN := hid (K.out 0 He.out)
        have hle : ¬ (l.length : Int) < L := by omega
        have hge : ¬ L < (l.length : Int) := by omega
        clear hb heq
        go_wp2_with fail
        refine (known_any _ _).mono ?_
        rintro e w' ⟨rfl, rfl⟩
        rw [hk]
        go_wp2_with fail
        refine (mayLen_any _ _).mono ?_
        rintro e w' ⟨rfl, rfl⟩
        rw [hi]
        go_wp2_with fail
        go_ret2
        exact ⟨by rw [HN.out, He.out]; rfl, rfl⟩
      · have He := hid (Long.out hb hgt)
        have HN := hid (K.out 3 He.out)
        have hle : ¬ (l.length : Int) < L := by omega
        clear hb
        go_wp2_with fail
        refine (known_any _ _).mono ?_
        rintro e w' ⟨rfl, rfl⟩
        rw [hk]
        go_wp2_with fail
        refine (mayLen_any _ _).mono ?_
        rintro e w' ⟨rfl, rfl⟩
        rw [hi]
        go_wp2_with fail
        go_ret2
        exact ⟨by rw [HN.out, He.out]; rfl, rfl⟩
  · rw [decide_eq_false ha] at HE
    have hb : B = true := by rw [HE.out]; rfl
    have He := hid (Bad.out hb)
    have HN := hid (K.out 4 He.out)
    clear hb
    go_wp2_with fail
    refine (known_any _ _).mono ?_
    rintro e w' ⟨rfl, rfl⟩
    rw [hk]
    go_wp2_with fail
    go_ret2
    exact ⟨by rw [HN.out, He.out]; rfl, rfl⟩

theorem results_msg_two {fn : Func} {p u u' : Tmp} (h : fn.results = #[.cell p 28, .tmp u, .tmp u']) (tmps : Array Value) (w : World) (g : Nat) (t : TypeId) (xs : List Value)
    (hp : tmps.getD p undef = .pointer (some ⟨g, 0, none⟩)) (hB : Box w g xs t) (hl : xs.length = 23) :
    (results fn tmps).run Try.prog w = .ok (.tuple #[.agg xs.toArray, tmps.getD u undef, tmps.getD u' undef]) w := by
  have hp' : tmps[p]?.getD undef = .pointer (some ⟨g, 0, none⟩) := by simpa using hp
  simp [results, h, hp', asAddr, Sem.run_bind, run_loadVar_row w g t 28 xs.toArray (0, 0) _ hB Try.underlying28 rfl (by rw [info_msg]; simp [hl])]

set_option maxHeartbeats 1600000 in
theorem headGet_any (v : Value) (l : List UInt8) (w : World) (hB : Bytes w v l) (hl : l.length ≤ 140737488355328) :
    Calls Try.prog 28 #[v] w fun e w' => e = .returned (.tuple #[.agg (msgL (getH l) zr).toArray, .int .i64 (getN l), .int .i64 (getE l)]) ∧ Below w.heap.size w w' := by
  have HB := hid fun (w' : World) (h : Below w.heap.size w w') => hB.below h
  clear hB
  have hA : Box (w.alloc (Obj.cells (msgL hd0 zr).toArray 28)) w.heap.size (msgL hd0 zr) 28 := Box.new _ _ _
  have hb := bnew w (Obj.cells (msgL hd0 zr).toArray 28)
  by_cases he : getE l = 0
  · obtain ⟨e1, e2⟩ := get_some he
    have h34 : 34 ≤ l.length := by
      by_cases h3 : l.length < 34
      · rw [getE_few h3] at he; cases he
      · omega
    have HE := hid he
    have HN := hid e1
    rw [e1, e2, he]
    clear e1 e2 he
    go_enter Try.func28, Try.ntmps28
    go_upto_region 1 with fail
    change Code.wp Try.prog _ _ _ (w.alloc (Obj.cells (msgL hd0 zr).toArray 28))
    generalize (w.alloc (Obj.cells (msgL hd0 zr).toArray 28)) = W at *
    go_wp2_with fail
    refine (whole_any _ l _ (HB.out _ hb) hl).mono ?_
    rintro e w' ⟨rfl, rfl⟩
    rw [HE.out, HN.out]
    go_wp2_with fail
    refine (read_any _ l _ (HB.out _ hb) hl h34).mono ?_
    rintro e w1 ⟨rfl, hb1⟩
    replace hA := hA.below hb1
    go_wp2_with (refine wpList_store_msg (op := ⟨none, .store _ _ _, _, _, _, _⟩) rfl _ _ rfl w.heap.size (msgL (gotH l) zr) (msgL hd0 zr) _ rfl rfl hA (msgL_length _ _ zr_length) (msgL_length _ _ zr_length) (msgL_one _ _ zr_one) ?_)
    refine bodyPost_ret (v := .tuple #[.agg (msgL (gotH l) zr).toArray, .int .i64 (lenOf l), .int .i64 0]) ?_ rfl ⟨rfl, below_setRow (bnext hb hb1) (Nat.le_refl _) _⟩
    exact results_msg_two (p := 2) (u := 3) (u' := 4) rfl _ _ w.heap.size _ (msgL (gotH l) zr) rfl (hA.row _) (msgL_length _ _ zr_length)
  · obtain ⟨e1, e2⟩ := get_none he
    have HN := hid e1
    rw [e1, e2]
    generalize hE : getE l = E at *
    have HE := hid hE
    clear e1 e2 hE
    go_enter Try.func28, Try.ntmps28
    go_upto_region 1 with fail
    change Code.wp Try.prog _ _ _ (w.alloc (Obj.cells (msgL hd0 zr).toArray 28))
    generalize (w.alloc (Obj.cells (msgL hd0 zr).toArray 28)) = W at *
    go_wp2_with fail
    refine (whole_any _ l _ (HB.out _ hb) hl).mono ?_
    rintro e w' ⟨rfl, rfl⟩
    rw [HE.out, HN.out]
    go_wp2_with (refine wpList_store_msg (op := ⟨none, .store _ _ _, _, _, _, _⟩) rfl _ _ rfl w.heap.size (msgL hd0 zr) (msgL hd0 zr) _ rfl rfl hA (msgL_length _ _ zr_length) (msgL_length _ _ zr_length) (msgL_one _ _ zr_one) ?_)
    refine bodyPost_ret (v := .tuple #[.agg (msgL hd0 zr).toArray, .int .i64 0, .int .i64 E]) ?_ rfl ⟨rfl, below_setRow hb (Nat.le_refl _) _⟩
    exact results_msg_two (p := 2) (u := 3) (u' := 4) rfl _ _ w.heap.size _ (msgL hd0 zr) rfl (hA.row _) (msgL_length _ _ zr_length)
end Go.Proofs.Ytohgpnlihfcecaa
