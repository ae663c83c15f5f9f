/- conf: Default, Check and what it calls, of the program's own (gen_confown.py). -/
import Derived.Test.YtgjffmhlehcoiaaConfLaws0
import Derived.Test.YtgjffmhlehcoiaaQual
namespace Go.Proofs.Ytgjffmhlehcoiaa
open Go.RowKit Go.Proofs
set_option maxRecDepth 50000
set_option linter.unusedVariables false
set_option linter.unusedSimpArgs false

/-- Numbers that are all from one to another. -/
def inR (lo hi : Int) (zs : List Int) : Bool := zs.all (fun z => decide (lo ≤ z ∧ z ≤ hi))
theorem inR_one (lo hi x : Int) : inR lo hi [x] = decide (lo ≤ x ∧ x ≤ hi) := by simp [inR]
theorem inR_two (lo hi x y : Int) : inR lo hi [x, y] = (decide (lo ≤ x ∧ x ≤ hi) && decide (lo ≤ y ∧ y ≤ hi)) := by simp [inR]
theorem inR_three (lo hi x y z : Int) : inR lo hi [x, y, z] = (decide (lo ≤ x ∧ x ≤ hi) && (decide (lo ≤ y ∧ y ≤ hi) && decide (lo ≤ z ∧ z ≤ hi))) := by simp [inR]
theorem inR_drop (lo hi : Int) (zs : List Int) : ∀ (k : Nat) (h : k < zs.length), inR lo hi (zs.drop k) = (decide (lo ≤ zs[k] ∧ zs[k] ≤ hi) && inR lo hi (zs.drop (k + 1))) := by
  intro k h
  rw [List.drop_eq_getElem_cons h]
  rfl

set_option maxHeartbeats 1000000 in
theorem withinC_any (lo hi : Int) (v : Value) (zs : List Int) (w : World) (hI : Ints w v zs) :
    Calls Try.prog 42 #[.int .i64 lo, .int .i64 hi, v] w fun e w' => e = .returned (.bool (inR lo hi zs)) ∧ w = w' := by
  obtain ⟨p, cap, rfl, hcap, hmax, hat⟩ := hI
  have HAT := hid fun h => hat.pos h
  have HO := hid (inR_drop lo hi zs)
  have HE := hid (show inR lo hi (zs.drop zs.length) = true by rw [List.drop_length]; rfl)
  have h0 : inR lo hi zs = inR lo hi (zs.drop 0) := rfl
  have H0 := hid h0
  unfold maxLen at hmax
  clear hat h0
  go_enter Try.func42, Try.ntmps42
  go_wp2_with fail
  go_loop [11] (fun i => ∃ k : Nat, k ≤ zs.length ∧ i = .int .i64 k ∧ Hid (inR lo hi zs = inR lo hi (zs.drop k))) (fun i => zs.length - (intOf i).toNat)
  case atStart => exact ⟨0, Nat.zero_le _, rfl, H0⟩
  case round =>
    obtain ⟨k, hk, rfl, hX⟩ := hrel
    by_cases hlt : k < zs.length
    · obtain ⟨b, off, rfl, hbl, hc⟩ := HAT.out (by omega)
      have hcell := hc k hlt
      have hO := HO.out k hlt
      clear hc
      generalize zs[k] = z at *
      by_cases h1 : lo ≤ z
      · by_cases h2 : z ≤ hi
        · have HN := hid (hX.out.trans (by rw [hO, decide_eq_true ⟨h1, h2⟩, Bool.true_and]))
          clear hO
          go_wp2_with fail
          go_round
          case rel => exact ⟨k + 1, by omega, by go_num, HN⟩
          case measure => simp [intOf]; omega
        · have HN := hid (hX.out.trans (by rw [hO, decide_eq_false (fun h => h2 h.2), Bool.false_and]))
          clear hO
          go_wp2_with fail
          go_ret
          exact ⟨ret_bool HN.out.symm, rfl⟩
      · have HN := hid (hX.out.trans (by rw [hO, decide_eq_false (fun h => h1 h.1), Bool.false_and]))
        clear hO
        go_wp2_with fail
        go_ret
        exact ⟨ret_bool HN.out.symm, rfl⟩
    · obtain rfl : k = zs.length := by omega
      go_wp2_with fail
      go_ret
      exact ⟨ret_bool (by rw [hX.out, HE.out]), rfl⟩

theorem boxC (w : World) (cs : Array Value) (t : TypeId) (i : Nat) (v : Value) (h : cs[i]? = some v) : (w.alloc (Obj.cells cs t)).cell? ⟨w.heap.size, i, none⟩ = some v := by
  simp only [World.cell?]
  rw [heap_alloc_new]
  exact h

theorem within_1 (lo hi x : Int) (w : World) :
    Calls Try.prog 42 #[.int .i64 lo, .int .i64 hi, .slice (some ⟨w.heap.size, 0, none⟩) 1 1] (w.alloc (Obj.cells #[.int .i64 x] 3)) fun e w' => e = .returned (.bool (inR lo hi [x])) ∧ Below w.heap.size w w' := by
  refine (withinC_any lo hi _ [x] _ ⟨_, 1, rfl, Nat.le_refl _, by simp [maxLen], .inr ⟨w.heap.size, 0, rfl, by simp, fun i hi => ?_⟩⟩).mono ?_
  · rw [Nat.zero_add]
    match i, hi with
    | 0, _ => exact boxC w _ _ 0 _ rfl
  · rintro e w' ⟨rfl, rfl⟩
    exact ⟨rfl, bnew _ _⟩

theorem within_2 (lo hi x y : Int) (w : World) :
    Calls Try.prog 42 #[.int .i64 lo, .int .i64 hi, .slice (some ⟨w.heap.size, 0, none⟩) 2 2] (w.alloc (Obj.cells #[.int .i64 x, .int .i64 y] 3)) fun e w' => e = .returned (.bool (inR lo hi [x, y])) ∧ Below w.heap.size w w' := by
  refine (withinC_any lo hi _ [x, y] _ ⟨_, 2, rfl, Nat.le_refl _, by simp [maxLen], .inr ⟨w.heap.size, 0, rfl, by simp, fun i hi => ?_⟩⟩).mono ?_
  · rw [Nat.zero_add]
    match i, hi with
    | 0, _ => exact boxC w _ _ 0 _ rfl
    | 1, _ => exact boxC w _ _ 1 _ rfl
  · rintro e w' ⟨rfl, rfl⟩
    exact ⟨rfl, bnew _ _⟩

theorem within_3 (lo hi x y z : Int) (w : World) :
    Calls Try.prog 42 #[.int .i64 lo, .int .i64 hi, .slice (some ⟨w.heap.size, 0, none⟩) 3 3] (w.alloc (Obj.cells #[.int .i64 x, .int .i64 y, .int .i64 z] 3)) fun e w' => e = .returned (.bool (inR lo hi [x, y, z])) ∧ Below w.heap.size w w' := by
  refine (withinC_any lo hi _ [x, y, z] _ ⟨_, 3, rfl, Nat.le_refl _, by simp [maxLen], .inr ⟨w.heap.size, 0, rfl, by simp, fun i hi => ?_⟩⟩).mono ?_
  · rw [Nat.zero_add]
    match i, hi with
    | 0, _ => exact boxC w _ _ 0 _ rfl
    | 1, _ => exact boxC w _ _ 1 _ rfl
    | 2, _ => exact boxC w _ _ 2 _ rfl
  · rintro e w' ⟨rfl, rfl⟩
    exact ⟨rfl, bnew _ _⟩

theorem info_qual : (Try.prog.info? 24).map (·.size) = some 3 := by kernel_rfl
theorem info_times : (Try.prog.info? 26).map (·.size) = some 3 := by kernel_rfl
theorem wpList_load_quals {ops : Array Oper} {rest : List Oper} {op : Oper} {a : Act} {w : World} {Q : Exit → Act → World → Prop} (hw : Region.wanted op (yielded ops a.tmps) = true) (x : Operand) (ho : op.op = .load 24 x)
    (g : Nat) (hx : a.eval x = .pointer (some ⟨g, 5, none⟩)) (c : Cf) (t : TypeId) (hB : Box w g (cfL c) t)
    (h : wpList Try.prog ops Q rest (a.put op.dst (qualV c.qc c.qa c.qv)) w) : wpList Try.prog ops Q (op :: rest) a w :=
  wpList_step fun K hK => by
    rw [if_pos hw]
    exact wp_load_mid _ x ho g 5 hx [.int .i64 c.qc, .int .i64 c.qa, .int .i64 c.qv] _ (fun j v hj => hB.cell (5 + j) v (by rcases j with _ | _ | _ | j <;> first | exact hj | (simp at hj))) Try.underlying24 rfl (by rw [info_qual]; rfl) (hK _ _ h)
theorem wpList_load_timess {ops : Array Oper} {rest : List Oper} {op : Oper} {a : Act} {w : World} {Q : Exit → Act → World → Prop} (hw : Region.wanted op (yielded ops a.tmps) = true) (x : Operand) (ho : op.op = .load 26 x)
    (g : Nat) (hx : a.eval x = .pointer (some ⟨g, 19, none⟩)) (c : Cf) (t : TypeId) (hB : Box w g (cfL c) t)
    (h : wpList Try.prog ops Q rest (a.put op.dst (.agg #[.int .i64 c.ut, .int .i64 c.fl, .int .i64 c.og])) w) : wpList Try.prog ops Q (op :: rest) a w :=
  wpList_step fun K hK => by
    rw [if_pos hw]
    exact wp_load_mid _ x ho g 19 hx [.int .i64 c.ut, .int .i64 c.fl, .int .i64 c.og] _ (fun j v hj => hB.cell (19 + j) v (by rcases j with _ | _ | _ | j <;> first | exact hj | (simp at hj))) Try.underlying26 rfl (by rw [info_times]; rfl) (hK _ _ h)

def mayBeC (c : Cf) : Bool := (decide (c.cl ≠ 0) && (decide (c.cl ≠ 18446744073709551615) && (inR 1 8 [c.po] && (inR 0 127 [c.dm] && (inR 0 255 [c.p1, c.p2] && mayQ c.qc c.qa c.qv)))))
set_option maxRecDepth 100000 in
set_option maxHeartbeats 4000000 in
theorem mayBe_any (c : Cf) (w : World) :
    Calls Try.prog 28 #[(.agg (cfL c).toArray)] w fun e w' => e = .returned (.bool (mayBeC c)) ∧ Below w.heap.size w w' := by
  have HC := hid (show mayBeC c = (decide (c.cl ≠ 0) && (decide (c.cl ≠ 18446744073709551615) && (inR 1 8 [c.po] && (inR 0 127 [c.dm] && (inR 0 255 [c.p1, c.p2] && mayQ c.qc c.qa c.qv))))) from rfl)
  have B := Box.new w (cfL c) 28
  have hb := bnew w (Obj.cells (cfL c).toArray 28)
  go_enter Try.func28, Try.ntmps28
  go_upto_region 1 with fail
  change Code.wp Try.prog _ _ _ (w.alloc (Obj.cells (cfL c).toArray 28))
  generalize w.alloc (Obj.cells (cfL c).toArray 28) = W at *
  generalize hG : w.heap.size = G at *
  have hGW : G < W.heap.size := B.lt
  have c_cl := B.cell 0 _ rfl
  have c_po := B.cell 1 _ rfl
  have c_dm := B.cell 2 _ rfl
  have c_p1 := B.cell 3 _ rfl
  have c_p2 := B.cell 4 _ rfl
  have c_qc := B.cell 5 _ rfl
  have c_qa := B.cell 6 _ rfl
  have c_qv := B.cell 7 _ rfl
  by_cases h0 : c.cl = 0
  · rw [show decide (c.cl ≠ 0) = false from decide_eq_false (fun h => h h0)] at HC
    rw [h0] at c_cl
    go_wp2_with fail
    go_ret
    exact ⟨by rw [HC.out]; first | rfl | simp [h0] | simp [h0, h1], by rw [hG]; exact hb⟩
  rw [show decide (c.cl ≠ 0) = true from decide_eq_true h0] at HC
  by_cases h1 : c.cl = 18446744073709551615
  · rw [show decide (c.cl ≠ 18446744073709551615) = false from decide_eq_false (fun h => h h1)] at HC
    rw [h1] at c_cl
    go_wp2_with fail
    go_ret
    exact ⟨by rw [HC.out]; first | rfl | simp [h0] | simp [h0, h1], by rw [hG]; exact hb⟩
  rw [show decide (c.cl ≠ 18446744073709551615) = true from decide_eq_true h1] at HC
  go_wp2_with fail
  refine (within_1 1 8 c.po _).mono ?_
  rintro e w2 ⟨rfl, b2⟩
  replace B := B.below b2
  replace hb := hb.trans (b2.mono (by omega))
  have hGW2 : G < w2.heap.size := B.lt
  clear b2
  clear c_cl c_po c_dm c_p1 c_p2 c_qc c_qa c_qv
  have c_dm := B.cell 2 _ rfl
  have c_p1 := B.cell 3 _ rfl
  have c_p2 := B.cell 4 _ rfl
  have c_qc := B.cell 5 _ rfl
  have c_qa := B.cell 6 _ rfl
  have c_qv := B.cell 7 _ rfl
  cases h2 : inR 1 8 [c.po]
  · rw [h2] at HC
    go_wp2_with fail
    go_ret
    exact ⟨by rw [HC.out]; first | rfl | simp [h0] | simp [h0, h1], by rw [hG]; exact hb⟩
  rw [h2] at HC
  go_wp2_with fail
  refine (within_1 0 127 c.dm _).mono ?_
  rintro e w3 ⟨rfl, b3⟩
  replace B := B.below b3
  replace hb := hb.trans (b3.mono (by omega))
  have hGW3 : G < w3.heap.size := B.lt
  clear b3
  clear c_dm c_p1 c_p2 c_qc c_qa c_qv
  have c_p1 := B.cell 3 _ rfl
  have c_p2 := B.cell 4 _ rfl
  have c_qc := B.cell 5 _ rfl
  have c_qa := B.cell 6 _ rfl
  have c_qv := B.cell 7 _ rfl
  cases h3 : inR 0 127 [c.dm]
  · rw [h3] at HC
    go_wp2_with fail
    go_ret
    exact ⟨by rw [HC.out]; first | rfl | simp [h0] | simp [h0, h1], by rw [hG]; exact hb⟩
  rw [h3] at HC
  go_wp2_with fail
  refine (within_2 0 255 c.p1 c.p2 _).mono ?_
  rintro e w4 ⟨rfl, b4⟩
  replace B := B.below b4
  replace hb := hb.trans (b4.mono (by omega))
  have hGW4 : G < w4.heap.size := B.lt
  clear b4
  clear c_p1 c_p2 c_qc c_qa c_qv
  have c_qc := B.cell 5 _ rfl
  have c_qa := B.cell 6 _ rfl
  have c_qv := B.cell 7 _ rfl
  cases h4 : inR 0 255 [c.p1, c.p2]
  · rw [h4] at HC
    go_wp2_with fail
    go_ret
    exact ⟨by rw [HC.out]; first | rfl | simp [h0] | simp [h0, h1], by rw [hG]; exact hb⟩
  rw [h4] at HC
  go_wp2_with (guard_target =~ wpList _ _ _ (⟨some 33, _, _, _, _, _⟩ :: _) _ _; refine wpList_load_quals (op := ⟨some 33, .load _ _, _, _, _, _⟩) (by rfl) _ (by rfl) G (by rfl) c _ B ?_)
  refine (mayQ_any c.qc c.qa c.qv _).mono ?_
  rintro e w5 ⟨rfl, b5⟩
  replace B := B.below b5
  replace hb := hb.trans (b5.mono (by omega))
  have hGW5 : G < w5.heap.size := B.lt
  clear b5
  clear c_qc c_qa c_qv
  go_wp2_with fail
  go_ret
  exact ⟨by rw [HC.out]; first | rfl | simp [h0, h1], by rw [hG]; exact hb⟩

def mayRunC (c : Cf) : Bool := (inR (-3) 4 [c.la, c.ls, c.ld] && (inR 2 10 [c.tm] && (inR 1 15 [c.md] && (inR 0 2000 [c.kp, c.ki] && inR 0 1000000000 [c.st]))))
set_option maxRecDepth 100000 in
set_option maxHeartbeats 4000000 in
theorem mayRun_any (c : Cf) (w : World) :
    Calls Try.prog 29 #[(.agg (cfL c).toArray)] w fun e w' => e = .returned (.bool (mayRunC c)) ∧ Below w.heap.size w w' := by
  have HC := hid (show mayRunC c = (inR (-3) 4 [c.la, c.ls, c.ld] && (inR 2 10 [c.tm] && (inR 1 15 [c.md] && (inR 0 2000 [c.kp, c.ki] && inR 0 1000000000 [c.st])))) from rfl)
  have B := Box.new w (cfL c) 28
  have hb := bnew w (Obj.cells (cfL c).toArray 28)
  go_enter Try.func29, Try.ntmps29
  go_upto_region 1 with fail
  change Code.wp Try.prog _ _ _ (w.alloc (Obj.cells (cfL c).toArray 28))
  generalize w.alloc (Obj.cells (cfL c).toArray 28) = W at *
  generalize hG : w.heap.size = G at *
  have hGW : G < W.heap.size := B.lt
  have c_la := B.cell 9 _ rfl
  have c_ls := B.cell 10 _ rfl
  have c_ld := B.cell 11 _ rfl
  have c_tm := B.cell 12 _ rfl
  have c_md := B.cell 15 _ rfl
  have c_kp := B.cell 16 _ rfl
  have c_ki := B.cell 17 _ rfl
  have c_st := B.cell 18 _ rfl
  go_wp2_with fail
  refine (within_3 (-3) 4 c.la c.ls c.ld _).mono ?_
  rintro e w0 ⟨rfl, b0⟩
  replace B := B.below b0
  replace hb := hb.trans (b0.mono (by omega))
  have hGW0 : G < w0.heap.size := B.lt
  clear b0
  clear c_la c_ls c_ld c_tm c_md c_kp c_ki c_st
  have c_tm := B.cell 12 _ rfl
  have c_md := B.cell 15 _ rfl
  have c_kp := B.cell 16 _ rfl
  have c_ki := B.cell 17 _ rfl
  have c_st := B.cell 18 _ rfl
  cases h0 : inR (-3) 4 [c.la, c.ls, c.ld]
  · rw [h0] at HC
    go_wp2_with fail
    go_ret
    exact ⟨by rw [HC.out]; first | rfl | simp [h0] | simp [h0, h1], by rw [hG]; exact hb⟩
  rw [h0] at HC
  go_wp2_with fail
  refine (within_1 2 10 c.tm _).mono ?_
  rintro e w1 ⟨rfl, b1⟩
  replace B := B.below b1
  replace hb := hb.trans (b1.mono (by omega))
  have hGW1 : G < w1.heap.size := B.lt
  clear b1
  clear c_tm c_md c_kp c_ki c_st
  have c_md := B.cell 15 _ rfl
  have c_kp := B.cell 16 _ rfl
  have c_ki := B.cell 17 _ rfl
  have c_st := B.cell 18 _ rfl
  cases h1 : inR 2 10 [c.tm]
  · rw [h1] at HC
    go_wp2_with fail
    go_ret
    exact ⟨by rw [HC.out]; first | rfl | simp [h0] | simp [h0, h1], by rw [hG]; exact hb⟩
  rw [h1] at HC
  go_wp2_with fail
  refine (within_1 1 15 c.md _).mono ?_
  rintro e w2 ⟨rfl, b2⟩
  replace B := B.below b2
  replace hb := hb.trans (b2.mono (by omega))
  have hGW2 : G < w2.heap.size := B.lt
  clear b2
  clear c_md c_kp c_ki c_st
  have c_kp := B.cell 16 _ rfl
  have c_ki := B.cell 17 _ rfl
  have c_st := B.cell 18 _ rfl
  cases h2 : inR 1 15 [c.md]
  · rw [h2] at HC
    go_wp2_with fail
    go_ret
    exact ⟨by rw [HC.out]; first | rfl | simp [h0] | simp [h0, h1], by rw [hG]; exact hb⟩
  rw [h2] at HC
  go_wp2_with fail
  refine (within_2 0 2000 c.kp c.ki _).mono ?_
  rintro e w3 ⟨rfl, b3⟩
  replace B := B.below b3
  replace hb := hb.trans (b3.mono (by omega))
  have hGW3 : G < w3.heap.size := B.lt
  clear b3
  clear c_kp c_ki c_st
  have c_st := B.cell 18 _ rfl
  cases h3 : inR 0 2000 [c.kp, c.ki]
  · rw [h3] at HC
    go_wp2_with fail
    go_ret
    exact ⟨by rw [HC.out]; first | rfl | simp [h0] | simp [h0, h1], by rw [hG]; exact hb⟩
  rw [h3] at HC
  go_wp2_with fail
  refine (within_1 0 1000000000 c.st _).mono ?_
  rintro e w4 ⟨rfl, b4⟩
  replace B := B.below b4
  replace hb := hb.trans (b4.mono (by omega))
  have hGW4 : G < w4.heap.size := B.lt
  clear b4
  clear c_st
  go_wp2_with fail
  go_ret
  exact ⟨by rw [HC.out]; first | rfl | simp [h0, h1], by rw [hG]; exact hb⟩

def mayTellC (c : Cf) : Bool := (inR (-32768) 32767 [c.ut] && (inR 0 63 [c.fl] && inR 0 255 [c.og]))
set_option maxRecDepth 100000 in
set_option maxHeartbeats 4000000 in
theorem mayTell_any (c : Cf) (w : World) :
    Calls Try.prog 30 #[(.agg #[.int .i64 c.ut, .int .i64 c.fl, .int .i64 c.og])] w fun e w' => e = .returned (.bool (mayTellC c)) ∧ Below w.heap.size w w' := by
  have HC := hid (show mayTellC c = (inR (-32768) 32767 [c.ut] && (inR 0 63 [c.fl] && inR 0 255 [c.og])) from rfl)
  have B := Box.new w [.int .i64 c.ut, .int .i64 c.fl, .int .i64 c.og] 26
  have hb := bnew w (Obj.cells #[.int .i64 c.ut, .int .i64 c.fl, .int .i64 c.og] 26)
  go_enter Try.func30, Try.ntmps30
  go_upto_region 1 with fail
  change Code.wp Try.prog _ _ _ (w.alloc (Obj.cells #[.int .i64 c.ut, .int .i64 c.fl, .int .i64 c.og] 26))
  generalize w.alloc (Obj.cells #[.int .i64 c.ut, .int .i64 c.fl, .int .i64 c.og] 26) = W at *
  generalize hG : w.heap.size = G at *
  have hGW : G < W.heap.size := B.lt
  have c_ut := B.cell 0 _ rfl
  have c_fl := B.cell 1 _ rfl
  have c_og := B.cell 2 _ rfl
  go_wp2_with fail
  refine (within_1 (-32768) 32767 c.ut _).mono ?_
  rintro e w0 ⟨rfl, b0⟩
  replace B := B.below b0
  replace hb := hb.trans (b0.mono (by omega))
  have hGW0 : G < w0.heap.size := B.lt
  clear b0
  clear c_ut c_fl c_og
  have c_fl := B.cell 1 _ rfl
  have c_og := B.cell 2 _ rfl
  cases h0 : inR (-32768) 32767 [c.ut]
  · rw [h0] at HC
    go_wp2_with fail
    go_ret
    exact ⟨by rw [HC.out]; first | rfl | simp [h0] | simp [h0, h1], by rw [hG]; exact hb⟩
  rw [h0] at HC
  go_wp2_with fail
  refine (within_1 0 63 c.fl _).mono ?_
  rintro e w1 ⟨rfl, b1⟩
  replace B := B.below b1
  replace hb := hb.trans (b1.mono (by omega))
  have hGW1 : G < w1.heap.size := B.lt
  clear b1
  clear c_fl c_og
  have c_og := B.cell 2 _ rfl
  cases h1 : inR 0 63 [c.fl]
  · rw [h1] at HC
    go_wp2_with fail
    go_ret
    exact ⟨by rw [HC.out]; first | rfl | simp [h0] | simp [h0, h1], by rw [hG]; exact hb⟩
  rw [h1] at HC
  go_wp2_with fail
  refine (within_1 0 255 c.og _).mono ?_
  rintro e w2 ⟨rfl, b2⟩
  replace B := B.below b2
  replace hb := hb.trans (b2.mono (by omega))
  have hGW2 : G < w2.heap.size := B.lt
  clear b2
  clear c_og
  go_wp2_with fail
  go_ret
  exact ⟨by rw [HC.out]; first | rfl | simp [h0, h1], by rw [hG]; exact hb⟩

def mayFollowC (c : Cf) : Bool := !c.so || (decide (c.po = 1) && decide (c.qc = 255))
set_option maxRecDepth 100000 in
set_option maxHeartbeats 4000000 in
theorem mayFollow_any (c : Cf) (w : World) :
    Calls Try.prog 31 #[.agg (cfL c).toArray] w fun e w' => e = .returned (.bool (mayFollowC c)) ∧ Below w.heap.size w w' := by
  have HC := hid (show mayFollowC c = (!c.so || (decide (c.po = 1) && decide (c.qc = 255))) from rfl)
  have B := Box.new w (cfL c) 28
  have hb := bnew w (Obj.cells (cfL c).toArray 28)
  go_enter Try.func31, Try.ntmps31
  go_upto_region 1 with fail
  change Code.wp Try.prog _ _ _ (w.alloc (Obj.cells (cfL c).toArray 28))
  generalize w.alloc (Obj.cells (cfL c).toArray 28) = W at *
  generalize hG : w.heap.size = G at *
  have c_so := B.cell 8 _ rfl
  have c_po := B.cell 1 _ rfl
  have c_qc := B.cell 5 _ rfl
  cases h0 : c.so
  · rw [h0] at c_so HC
    go_wp2_with fail
    go_ret
    exact ⟨by rw [HC.out]; rfl, by rw [hG]; exact hb⟩
  rw [h0] at c_so HC
  by_cases h1 : c.po = 1
  · rw [decide_eq_true h1] at HC
    rw [h1] at c_po
    go_wp2_with fail
    go_ret
    exact ⟨by rw [HC.out]; by_cases h2 : c.qc = 255 <;> simp [h2], by rw [hG]; exact hb⟩
  · rw [decide_eq_false h1] at HC
    have hn : (c.po == 1) = false := beq_false_of_ne h1
    go_wp2_with fail
    go_ret
    exact ⟨by rw [HC.out]; rfl, by rw [hG]; exact hb⟩

theorem checkE_parts (c : Cf) : checkE c = if (mayBeC c && (mayRunC c && (mayTellC c && mayFollowC c))) = true then 0 else 15 := by
  unfold checkE
  by_cases h : CfOk c
  · rw [if_pos h, if_pos]
    unfold CfOk at h
    obtain ⟨h1, h2, h3, h4, h5, h6, h7, h8, h9, h10, h11, h12, h13, h14, h15, h16, h17, h18, h19, h20, h21⟩ := h
    simp only [mayBeC, mayRunC, mayTellC, mayFollowC, inR_one, inR_two, inR_three, mayQ, in1, in2, Bool.and_eq_true, decide_eq_true_eq, Bool.or_eq_true, Bool.not_eq_true']
    refine ⟨⟨h1, h2, h3, h4, ⟨h5, h6⟩, ⟨⟨by omega, by omega⟩, by omega⟩⟩, ⟨⟨h10, h11, h12⟩, h13, h14, ⟨h15, h16⟩, h17⟩, ⟨h18, h19, h20⟩, ?_⟩
    cases hs : c.so
    · exact .inl rfl
    · exact .inr (h21 hs)
  · rw [if_neg h, if_neg]
    intro hx
    apply h
    simp only [mayBeC, mayRunC, mayTellC, mayFollowC, inR_one, inR_two, inR_three, mayQ, in1, in2, Bool.and_eq_true, decide_eq_true_eq, Bool.or_eq_true, Bool.not_eq_true'] at hx
    obtain ⟨⟨h1, h2, h3, h4, ⟨h5, h6⟩, ⟨⟨h7, h8⟩, h9⟩⟩, ⟨⟨h10, h11, h12⟩, h13, h14, ⟨h15, h16⟩, h17⟩, ⟨h18, h19, h20⟩, h21⟩ := hx
    refine ⟨h1, h2, h3, h4, h5, h6, by omega, by omega, by omega, h10, h11, h12, h13, h14, h15, h16, h17, h18, h19, h20, fun hs => ?_⟩
    rcases h21 with h | h
    · rw [hs] at h
      cases h
    · exact h

set_option maxRecDepth 100000 in
set_option maxHeartbeats 4000000 in
theorem ownChk : CChk := by
  intro c w hc
  have HC := hid (checkE_parts c)
  have B := Box.new w (cfL c) 28
  have hb := bnew w (Obj.cells (cfL c).toArray 28)
  go_enter Try.func21, Try.ntmps21
  go_upto_region 1 with fail
  change Code.wp Try.prog _ _ _ (w.alloc (Obj.cells (cfL c).toArray 28))
  generalize w.alloc (Obj.cells (cfL c).toArray 28) = W at *
  generalize hG : w.heap.size = G at *
  have hGW : G < W.heap.size := B.lt
  go_wp2_with (guard_target =~ wpList _ _ _ (⟨some 3, _, _, _, _, _⟩ :: _) _ _; refine wpList_load_conf (op := ⟨some 3, .load _ _, _, _, _, _⟩) (by rfl) _ (by rfl) G (by rfl) (c) _ B ?_)
  refine (mayBe_any c _).mono ?_
  rintro e w0 ⟨rfl, b0⟩
  replace B := B.below b0
  replace hb := hb.trans (b0.mono (by omega))
  have hGW0 : G < w0.heap.size := B.lt
  clear b0
  cases h0 : mayBeC c
  · rw [h0] at HC
    go_wp2_with fail
    go_ret
    exact ⟨by rw [HC.out]; rfl, by rw [hG]; exact hb⟩
  rw [h0] at HC
  go_wp2_with (guard_target =~ wpList _ _ _ (⟨some 7, _, _, _, _, _⟩ :: _) _ _; refine wpList_load_conf_g (op := ⟨some 7, .load _ _, _, _, _, _⟩) (by rfl) _ (by rfl) G (by rfl) c _ B ?_)
  refine (mayRun_any c _).mono ?_
  rintro e w1 ⟨rfl, b1⟩
  replace B := B.below b1
  replace hb := hb.trans (b1.mono (by omega))
  have hGW1 : G < w1.heap.size := B.lt
  clear b1
  cases h1 : mayRunC c
  · rw [h1] at HC
    go_wp2_with fail
    go_ret
    exact ⟨by rw [HC.out]; rfl, by rw [hG]; exact hb⟩
  rw [h1] at HC
  go_wp2_with (guard_target =~ wpList _ _ _ (⟨some 13, _, _, _, _, _⟩ :: _) _ _; refine wpList_load_timess (op := ⟨some 13, .load _ _, _, _, _, _⟩) (by rfl) _ (by rfl) G (by rfl) c _ B ?_)
  refine (mayTell_any c _).mono ?_
  rintro e w2 ⟨rfl, b2⟩
  replace B := B.below b2
  replace hb := hb.trans (b2.mono (by omega))
  have hGW2 : G < w2.heap.size := B.lt
  clear b2
  cases h2 : mayTellC c
  · rw [h2] at HC
    go_wp2_with fail
    go_ret
    exact ⟨by rw [HC.out]; rfl, by rw [hG]; exact hb⟩
  rw [h2] at HC
  go_wp2_with (guard_target =~ wpList _ _ _ (⟨some 18, _, _, _, _, _⟩ :: _) _ _; refine wpList_load_conf_g (op := ⟨some 18, .load _ _, _, _, _, _⟩) (by rfl) _ (by rfl) G (by rfl) c _ B ?_)
  refine (mayFollow_any c _).mono ?_
  rintro e w3 ⟨rfl, b3⟩
  replace B := B.below b3
  replace hb := hb.trans (b3.mono (by omega))
  have hGW3 : G < w3.heap.size := B.lt
  clear b3
  cases h3 : mayFollowC c
  · rw [h3] at HC
    go_wp2_with fail
    go_ret
    exact ⟨by rw [HC.out]; rfl, by rw [hG]; exact hb⟩
  rw [h3] at HC
  go_wp2_with fail
  go_ret
  exact ⟨by rw [HC.out]; rfl, by rw [hG]; exact hb⟩

set_option maxRecDepth 100000 in
set_option maxHeartbeats 4000000 in
theorem ownDef : CDef := by
  intro cl w hcl
  have hA := Box.new w (cfL zeroC) 28
  have hb := bnew w (Obj.cells (cfL zeroC).toArray 28)
  go_enter Try.func17, Try.ntmps17
  go_upto_region 1 with fail
  change Code.wp Try.prog _ _ _ (w.alloc (Obj.cells (cfL zeroC).toArray 28))
  generalize w.alloc (Obj.cells (cfL zeroC).toArray 28) = W at *
  generalize hG : w.heap.size = G at *
  go_wp2_with (guard_target =~ wpList _ _ _ (⟨none, .store _ _ _, _, _, _, _⟩ :: _) _ _; refine wpList_store_conf (op := ⟨none, .store _ _ _, _, _, _, _⟩) (by rfl) _ _ (by rfl) G (defC cl) (zeroC) _ (by rfl) (by rfl) hA ?_)
  exact bodyPost_ret (v := .agg (cfL (defC cl)).toArray) (results_cell_row rfl _ _ G _ _ (0, 0) _ rfl (hA.rowC _) Try.underlying28 rfl (by rw [info_conf]; rfl)) rfl ⟨rfl, by rw [hG]; exact below_setRow hb (Nat.le_refl _) _⟩
end Go.Proofs.Ytgjffmhlehcoiaa
