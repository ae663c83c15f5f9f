/- carillonlaw19: awake, Middle, Odd, from contracts of the program's own (gen_medlaws.py). -/
import Derived.Test.YtcccjjghalajoaaMed
import Derived.BigQuiet
namespace Go.Proofs.Ytcccjjghalajoaa
open Go.RowKit Go.Proofs
set_option maxRecDepth 50000
set_option linter.unusedVariables false
set_option linter.unusedSimpArgs false

set_option maxRecDepth 100000 in
set_option maxHeartbeats 8000000 in
theorem awake19_from {R : List Value → Nat × List Int → Prop} (HNew : CNewM R) (HPut : CPutM R) (w : World) :
    Calls Try.prog 17 #[] w fun e w' => e = .returned (.bool true) ∧ Below w.heap.size w w' := by
  go_enter Try.func17, Try.ntmps17
  go_wp2_with fail
  refine (HNew _ _).mono ?_
  rintro e w1 ⟨gt, rfl, hg, FA, hb⟩
  replace FA : ObAt 43 R w1 gt (3, []) := FA
  go_wp2_with fail
  refine (HPut gt (3) ([]) (5) w1 FA (by unfold InM; decide)).mono ?_
  rintro e w2 ⟨m, rfl, hm, FA2, o2⟩
  replace FA := FA2
  replace hb := Only.below hb o2 hg hb.size
  clear FA2 o2
  replace FA : ObAt 43 R w2 gt (3, [5]) := FA
  obtain rfl : m = 5 := hm.unique (show IsMed [5] 5 by decide)
  clear hm
  go_wp2_with fail
  refine (HPut gt (3) ([5]) (9) w2 FA (by unfold InM; decide)).mono ?_
  rintro e w3 ⟨m, rfl, hm, FA2, o2⟩
  replace FA := FA2
  replace hb := Only.below hb o2 hg hb.size
  clear FA2 o2
  replace FA : ObAt 43 R w3 gt (3, [5, 9]) := FA
  obtain rfl : m = 5 := hm.unique (show IsMed [5, 9] 5 by decide)
  clear hm
  go_wp2_with fail
  refine (HPut gt (3) ([5, 9]) (1) w3 FA (by unfold InM; decide)).mono ?_
  rintro e w4 ⟨m, rfl, hm, FA2, o2⟩
  replace FA := FA2
  replace hb := Only.below hb o2 hg hb.size
  clear FA2 o2
  replace FA : ObAt 43 R w4 gt (3, [5, 9, 1]) := FA
  obtain rfl : m = 5 := hm.unique (show IsMed [5, 9, 1] 5 by decide)
  clear hm
  go_wp2_with fail
  refine (HPut gt (3) ([5, 9, 1]) (2) w4 FA (by unfold InM; decide)).mono ?_
  rintro e w5 ⟨m, rfl, hm, FA2, o2⟩
  replace FA := FA2
  replace hb := Only.below hb o2 hg hb.size
  clear FA2 o2
  replace FA : ObAt 43 R w5 gt (3, [9, 1, 2]) := FA
  obtain rfl : m = 2 := hm.unique (show IsMed [9, 1, 2] 2 by decide)
  clear hm
  go_wp2_with fail
  go_ret
  exact ⟨rfl, hb⟩

def lessC (m : Int) (l : List Int) : Int := (l.countP (fun x => decide (x < m)) : Nat)
def moreC (m : Int) (l : List Int) : Int := (l.countP (fun x => decide (m < x)) : Nat)
theorem countM_take (p : Int → Bool) {l : List Int} {k : Nat} (h : k < l.length) {x : Int} (hx : l[k] = x) : (l.take (k + 1)).countP p = (l.take k).countP p + (if p x then 1 else 0) := by
  subst hx
  rw [List.take_succ_eq_append_getElem h, List.countP_append, List.countP_singleton]
theorem lessC_take {l : List Int} {k : Nat} (h : k < l.length) {x : Int} (hx : l[k] = x) (m : Int) : lessC m (l.take (k + 1)) = lessC m (l.take k) + (if x < m then 1 else 0) := by
  unfold lessC
  rw [countM_take _ h hx]
  by_cases hm : x < m
  · rw [if_pos hm, if_pos (decide_eq_true hm)]; omega
  · rw [if_neg hm, if_neg (by simpa using hm)]; omega
theorem moreC_take {l : List Int} {k : Nat} (h : k < l.length) {x : Int} (hx : l[k] = x) (m : Int) : moreC m (l.take (k + 1)) = moreC m (l.take k) + (if m < x then 1 else 0) := by
  unfold moreC
  rw [countM_take _ h hx]
  by_cases hm : m < x
  · rw [if_pos hm, if_pos (decide_eq_true hm)]; omega
  · rw [if_neg hm, if_neg (by simpa using hm)]; omega
theorem lessC_in (m : Int) (l : List Int) : 0 ≤ lessC m l ∧ lessC m l ≤ l.length := by
  have : l.countP (fun x => decide (x < m)) ≤ l.length := List.countP_le_length
  unfold lessC
  omega
theorem moreC_in (m : Int) (l : List Int) : 0 ≤ moreC m l ∧ moreC m l ≤ l.length := by
  have : l.countP (fun x => decide (m < x)) ≤ l.length := List.countP_le_length
  unfold moreC
  omega
theorem memM_take {l : List Int} {k : Nat} (h : k < l.length) {x : Int} (hx : l[k] = x) (m : Int) : decide (m ∈ l.take (k + 1)) = (decide (m ∈ l.take k) || (x == m)) := by
  subst hx
  rw [Bool.eq_iff_iff, Bool.or_eq_true, decide_eq_true_eq, decide_eq_true_eq, List.take_succ_eq_append_getElem h, List.mem_append, List.mem_singleton, beq_iff_eq, eq_comm (a := m)]
theorem drewM_below (w : World) (n : Nat) : Below w.heap.size w (w.drewN n) := ⟨rfl, rfl, rfl, Nat.le_refl _, fun _ _ => rfl⟩
theorem isMed_says {l : List Int} {m : Int} (h : IsMed l m) (hl : 0 < l.length) : decide (m ∈ l) = true ∧ 2 * lessC m l < l.length + 1 ∧ 2 * moreC m l ≤ l.length := by
  refine ⟨decide_eq_true h.1, ?_, ?_⟩
  · have := h.2.1
    unfold lessC
    omega
  · have h1 := h.2.2
    have h2 : l.length = l.countP (fun x => decide (x ≤ m)) + l.countP (fun x => decide (¬ (decide (x ≤ m) = true))) := List.length_eq_countP_add_countP _
    have h3 : l.countP (fun x => decide (¬ (decide (x ≤ m) = true))) = l.countP (fun x => decide (m < x)) := by
      congr 1
      funext x
      rw [Bool.eq_iff_iff, decide_eq_true_eq, decide_eq_true_eq, decide_eq_true_eq]
      omega
    unfold moreC
    omega

set_option maxRecDepth 100000 in
set_option maxHeartbeats 8000000 in
theorem medianMiddle_from {R : List Value → Nat × List Int → Prop} (HNew : CNewM R) (HPut : CPutM R) (HVal : CValM R) (n : Int) (v : Value) (zs : List Int) (w : World) (hI : Ints w v zs) :
    Calls Try.prog 4 #[.int .i64 n, v] w fun e w' => e = .returned (.bool true) ∧ Below w.heap.size w w' := by
  obtain ⟨pk, cappk, rfl, hcappk, hmaxpk, hatpk⟩ := hI
  have ROWpk := hid fun h => IntsAt.rowM hatpk h
  clear hatpk
  unfold maxLen at hmaxpk
  go_enter Try.func4, Try.ntmps4
  go_wp2_with fail
  refine (HNew _ _).mono ?_
  rintro e w1 ⟨gt, rfl, hg, FA, hb⟩
  have hin0 := InM.new n
  generalize clampN n = N at *
  go_wp2_with fail
  go_loopw [6] (fun iv wr => ∃ (k : Nat) (L : List Int), k ≤ zs.length ∧ iv = .int .i64 (k : Int) ∧ InM (N, L) ∧ ObAt 43 R wr gt (N, L) ∧ Below w.heap.size w wr) (fun iv _ => zs.length - (intOf iv).toNat)
  case atStart => exact ⟨0, [], Nat.zero_le _, rfl, hin0, FA, hb⟩
  case round =>
    obtain ⟨k, L, hkz, rfl, hin, FA, hb⟩ := hrel
    by_cases hlt : k < zs.length ∧ k < 60
    · obtain ⟨hk, hk60⟩ := hlt
      have hkI : (k : Int) < (zs.length : Int) := by omega
      have hk2I : (k : Int) < 60 := by omega
      obtain ⟨b0, off, rfl, hc⟩ := ROWpk.out (by omega)
      obtain ⟨z, hz⟩ : ∃ z, zs[k] = z := ⟨_, rfl⟩
      have HCz := hid fun (wx : World) (h : Below w.heap.size w wx) => (hc wx h k hk).trans (by rw [hz])
      have hcell := HCz.out wr hb
      clear hc hz
      go_wp2_with fail
      clear hcell
      refine (HPut gt (N) (L) (z) wr FA (hin)).mono ?_
      rintro e w3 ⟨m, rfl, hm, FA2, o2⟩
      replace FA := FA2
      replace hb := Only.below hb o2 hg hb.size
      clear FA2 o2
      have hin2 := hin.put z
      replace hin2 : InM (N, putL N L z) := hin2
      have hpos := (putL_ne N hin.1 L z hin.2.2).1
      have hlast := putL_last N hin.1 L z hin.2.2
      generalize putL N L z = L2 at *
      go_wp2_with fail
      refine (HVal gt N L2 w3 FA hin2).mono ?_
      rintro e w4 ⟨v, rfl, hV, b4⟩
      replace FA := FA.below b4
      replace hb := bnext hb b4
      obtain ⟨pv, capv, rfl, hcapv, hmaxv, hatv⟩ := hV
      obtain ⟨bv, offv, rfl, hcv⟩ := IntsAt.rowM hatv hpos
      unfold maxLen at hmaxv
      have HV := hid fun (wx : World) (h : Below w4.heap.size w4 wx) => hcv wx h
      have hL15 : L2.length ≤ 15 := Nat.le_trans hin2.2.2 hin2.2.1
      obtain ⟨sm1, sm2, sm3⟩ := isMed_says hm hpos
      have S1 := hid sm1
      have S2 := hid sm2
      have S3 := hid sm3
      have HL := hid hlast
      have HIN := hid hin2
      have HFA := hid FA
      have HCZ := hid hb
      clear hcv hatv b4 sm1 sm2 sm3 hlast hin hin2 hm FA hcapv
      go_wp2_with fail
      go_loopw [9, 10, 11, 12] (fun c1 c2 c3 jv wr => ∃ (j : Nat), j ≤ L2.length ∧ jv = .int .i64 (j : Int) ∧ c1 = .int .i64 (lessC m (L2.take j)) ∧ c2 = .int .i64 (moreC m (L2.take j)) ∧ c3 = .bool (decide (m ∈ L2.take j)) ∧ wr = w4) (fun _ _ _ jv _ => L2.length - (intOf jv).toNat)
      case atStart => exact ⟨0, Nat.zero_le _, rfl, rfl, rfl, rfl, rfl⟩
      case round =>
        obtain ⟨j, hj, rfl, rfl, rfl, rfl, rfl⟩ := hrel
        by_cases hjl : j < L2.length
        · have hjI : (j : Int) < (L2.length : Int) := by omega
          obtain ⟨x, hx⟩ : ∃ x, L2[j] = x := ⟨_, rfl⟩
          have hcell := HV.out _ (Below.refl _ _) j hjl
          rw [hx] at hcell
          have e1 := hid (lessC_take hjl hx m)
          have e2 := hid (moreC_take hjl hx m)
          have e3 := hid (memM_take hjl hx m)
          have r1 := lessC_in m (L2.take j)
          have r2 := moreC_in m (L2.take j)
          have rl : (L2.take j).length ≤ 15 := by rw [List.length_take]; omega
          obtain ⟨A, hA⟩ : ∃ A, lessC m (L2.take j) = A := ⟨_, rfl⟩
          obtain ⟨B, hB⟩ : ∃ B, moreC m (L2.take j) = B := ⟨_, rfl⟩
          obtain ⟨C, hC⟩ : ∃ C, decide (m ∈ L2.take j) = C := ⟨_, rfl⟩
          rw [hA] at e1 r1 ⊢
          rw [hB] at e2 r2 ⊢
          rw [hC] at e3 ⊢
          have rA0 : 0 ≤ A := r1.1
          have rA1 : A ≤ 15 := by omega
          have rB0 : 0 ≤ B := r2.1
          have rB1 : B ≤ 15 := by omega
          clear r1 r2 rl hA hB hC hx
          have HJ := hid (show j + 1 ≤ L2.length from hjl)
          rcases (by omega : x < m ∨ m < x ∨ x = m) with hxm | hxm | hxm
          · have f1 := hid (show lessC m (L2.take (j + 1)) = A + 1 by rw [e1.out, if_pos hxm])
            have f2 := hid (show moreC m (L2.take (j + 1)) = B by rw [e2.out, if_neg (by omega), Int.add_zero])
            have f3 := hid (show decide (m ∈ L2.take (j + 1)) = C by rw [e3.out, beq_false_of_ne (by omega), Bool.or_false])
            have g1 : (x == m) = false := beq_false_of_ne (by omega)
            clear e1 e2 e3
            cases C
            all_goals
              go_wp2_with fail
              go_roundw
              case rel => exact ⟨j + 1, HJ.out, by go_num, by rw [f1.out], by rw [f2.out], by rw [f3.out], by first | rfl | trivial⟩
              case measure => (have := HJ.out; simp [intOf] <;> omega)
          · have f1 := hid (show lessC m (L2.take (j + 1)) = A by rw [e1.out, if_neg (by omega), Int.add_zero])
            have f2 := hid (show moreC m (L2.take (j + 1)) = B + 1 by rw [e2.out, if_pos hxm])
            have f3 := hid (show decide (m ∈ L2.take (j + 1)) = C by rw [e3.out, beq_false_of_ne (by omega), Bool.or_false])
            have g1 : (x == m) = false := beq_false_of_ne (by omega)
            clear e1 e2 e3
            cases C
            all_goals
              go_wp2_with fail
              go_roundw
              case rel => exact ⟨j + 1, HJ.out, by go_num, by rw [f1.out], by rw [f2.out], by rw [f3.out], by first | rfl | trivial⟩
              case measure => (have := HJ.out; simp [intOf] <;> omega)
          · subst hxm
            have f1 := hid (show lessC x (L2.take (j + 1)) = A by rw [e1.out, if_neg (by omega), Int.add_zero])
            have f2 := hid (show moreC x (L2.take (j + 1)) = B by rw [e2.out, if_neg (by omega), Int.add_zero])
            have f3 := hid (show decide (x ∈ L2.take (j + 1)) = true by rw [e3.out, beq_self_eq_true, Bool.or_true])
            clear e1 e2 e3
            cases C
            all_goals
              go_wp2_with fail
              go_roundw
              case rel => exact ⟨j + 1, HJ.out, by go_num, by rw [f1.out], by rw [f2.out], by rw [f3.out], by first | rfl | trivial⟩
              case measure => (have := HJ.out; simp [intOf] <;> omega)
        · obtain rfl : j = L2.length := by omega
          rw [List.take_length]
          rw [S1.out]
          have r1 := lessC_in m L2
          have r2 := moreC_in m L2
          have q1 := S2.out
          have q2 := S3.out
          generalize lessC m L2 = A at *
          generalize moreC m L2 = B at *
          have hlen1 : 1 ≤ L2.length := hpos
          have hz : L2[L2.length - 1]'(by omega) = z := by
            have := HL.out
            rw [List.getD_eq_getElem?_getD, List.getElem?_eq_getElem (by omega)] at this
            exact this
          have CZ := hid fun (wx : World) (h : Below wr.heap.size wr wx) => (HV.out wx h (L2.length - 1) (by omega)).trans (by rw [hz])
          have CY := hid fun (wx : World) (h : Below wr.heap.size wr wx) => HCz.out wx (bnext HCZ.out h)
          have hnn : ((L2.length : Int) - 1).toNat = L2.length - 1 := by omega
          clear S1 S2 S3 HL hz
          have hcz := CZ.out _ (Below.refl _ _)
          have hcy := CY.out _ (Below.refl _ _)
          have hlI : (L2.length : Int) ≤ 15 := by omega
          have hl1I : (1 : Int) ≤ (L2.length : Int) := by omega
          have w1 : IntKind.i64.wrap ((L2.length : Int) + 1) = (L2.length : Int) + 1 := by rw [IntKind.wrap_i64]; omega
          have w2 : IntKind.i64.wrap (2 * A) = 2 * A := by rw [IntKind.wrap_i64]; omega
          have w3 : IntKind.i64.wrap (2 * B) = 2 * B := by rw [IntKind.wrap_i64]; omega
          have d1 : decide (IntKind.i64.wrap ((L2.length : Int) + 1) ≤ IntKind.i64.wrap (2 * A)) = false := by rw [w1, w2]; exact decide_eq_false (by omega)
          have d2 : decide ((L2.length : Int) < IntKind.i64.wrap (2 * B)) = false := by rw [w3]; exact decide_eq_false (by omega)
          have d3 : IntKind.i64.wrap ((L2.length : Int) + 1) ≤ IntKind.i64.wrap (2 * A) ↔ False := by rw [w1, w2]; exact iff_false_intro (by omega)
          have d4 : (L2.length : Int) < IntKind.i64.wrap (2 * B) ↔ False := by rw [w3]; exact iff_false_intro (by omega)
          have d5 : decide ((15 : Int) < (L2.length : Int)) = false := decide_eq_false (by omega)
          have w4 : IntKind.i64.wrap ((L2.length : Int) - 1) = ((L2.length - 1 : Nat) : Int) := by rw [IntKind.wrap_i64]; omega
          have hQ : L2.length - 1 < L2.length := by omega
          obtain ⟨Q9, hQ9⟩ : ∃ q, L2.length - 1 = q := ⟨_, rfl⟩
          rw [hQ9] at w4 hQ hcz
          have hQI : (Q9 : Int) < (L2.length : Int) := by omega
          clear w1 w2 w3 hQ9 hnn
          go_upto_region 18 with fail
          go_quiet (fail)
          have hd := drewM_below wr nq
          generalize wr.drewN nq = W at *
          have FAW := HFA.out.below hd
          have hbW := bnext HCZ.out hd
          clear hcz hcy q1 q2 r1 r2 CZ CY
          go_wp2_with fail
          go_roundw
          case rel => exact ⟨k + 1, L2, by omega, by go_num, HIN.out, FAW, hbW⟩
          case measure => simp [intOf]; omega
    · go_wp2_with fail
      all_goals
        refine (awake19_from HNew HPut _).mono ?_
        rintro e wz ⟨rfl, bz⟩
        go_wp2_with fail
        go_ret
        exact ⟨rfl, bnext hb bz⟩

def outC (b : Int) (l : List Int) : Nat := l.countP (fun x => decide (x < b) || decide (b + 100 ≤ x))
theorem outC_snoc (b : Int) (l : List Int) (x : Int) : outC b (l ++ [x]) = outC b l + (if x < b ∨ b + 100 ≤ x then 1 else 0) := by
  unfold outC
  rw [List.countP_append, List.countP_singleton]
  by_cases h : x < b ∨ b + 100 ≤ x
  · rw [if_pos h, if_pos (by simpa using h)]
  · rw [if_neg h, if_neg (by simpa using h)]
theorem odd_in {l : List Int} {b m : Int} (h : IsMed l m) (hl : 4 ≤ l.length) (ho : outC b l ≤ 1) : b ≤ m ∧ m < b + 100 := by
  constructor
  · refine Int.not_lt.1 fun hm => ?_
    have h1 : l.countP (fun x => decide (x ≤ m)) ≤ outC b l := List.countP_mono_left fun x _ hx => by
      have := of_decide_eq_true hx
      rw [decide_eq_true (by omega : x < b), Bool.true_or]
    have := h.2.2
    omega
  · refine Int.not_le.1 fun hm => ?_
    have h2 : l.length = l.countP (fun x => decide (x < b) || decide (b + 100 ≤ x)) + l.countP (fun x => decide (¬ ((decide (x < b) || decide (b + 100 ≤ x)) = true))) := List.length_eq_countP_add_countP _
    have h1 : l.countP (fun x => decide (¬ ((decide (x < b) || decide (b + 100 ≤ x)) = true))) ≤ l.countP (fun x => decide (x < m)) := List.countP_mono_left fun x _ hx => by
      have := of_decide_eq_true hx
      simp only [Bool.or_eq_true, decide_eq_true_eq, not_or] at this
      exact decide_eq_true (by omega)
    have := h.2.1
    unfold outC at ho
    omega
theorem inM15 {l : List Int} (h : l.length ≤ 15) : InM (15, l) := ⟨(by decide : 1 ≤ 15), Nat.le_refl _, h⟩
theorem putL_room {n : Nat} {l : List Int} (h : l.length < n) (v : Int) : putL n l v = l ++ [v] := if_neg (by omega)

set_option maxRecDepth 100000 in
set_option maxHeartbeats 8000000 in
theorem medianOdd_from {R : List Value → Nat × List Int → Prop} (HNew : CNewM R) (HPut : CPutM R) (HMed : CMedM R) (base : Int) (v : Value) (zs : List Int) (far at' : Int) (w : World) (hI : Ints w v zs) :
    Calls Try.prog 5 #[.int .i64 base, v, .int .i64 far, .int .i64 at'] w fun e w' => e = .returned (.bool true) ∧ Below w.heap.size w w' := by
  obtain ⟨pk, cappk, rfl, hcappk, hmaxpk, hatpk⟩ := hI
  have ROWpk := hid fun h => IntsAt.rowM hatpk h
  clear hatpk
  unfold maxLen at hmaxpk
  go_enter Try.func5, Try.ntmps5
  go_wp2_with fail
  refine (HNew _ _).mono ?_
  rintro e w1 ⟨gt, rfl, hg, FA, hb⟩
  replace FA : ObAt 43 R w1 gt (15, []) := FA
  go_wp2_with fail
  refine (place_in base 1099511627776 _ (by decide) (by decide)).mono ?_
  rintro e w' ⟨b, rfl, hb0, hb1, -, rfl⟩
  obtain ⟨M, hM⟩ : ∃ M : Nat, min zs.length 10 = M := ⟨_, rfl⟩
  have hMz : M ≤ zs.length := by omega
  have hM10 : M ≤ 10 := by omega
  have hMI : min (zs.length : Int) 10 = (M : Int) := by omega
  have hMv : (zs.length : Int) ≤ 10 ∧ (zs.length : Int) = (M : Int) ∨ 10 < (zs.length : Int) ∧ (10 : Int) = (M : Int) := by omega
  by_cases h3 : M < 3
  · have h3I : (M : Int) < 3 := by omega
    rcases hMv with ⟨hv1, hv2⟩ | ⟨hv1, hv2⟩
    all_goals
      go_wp2_with fail
      refine (awake19_from HNew HPut _).mono ?_
      rintro e wz ⟨rfl, bz⟩
      go_wp2_with fail
      go_ret
      exact ⟨rfl, bnext hb bz⟩
  have h3I : ¬ (M : Int) < 3 := by omega
  have HPL := hid fun wx => place_in at' (M : Int) wx (by omega) (by omega)
  have MAIN : True := trivial
  rcases hMv with ⟨hv1, hv2⟩ | ⟨hv1, hv2⟩
  all_goals
    go_upto_region 6 with fail
    clear hv1 hv2 hMI hM
    go_wp2_with fail
    refine (HPL.out _).mono ?_
    rintro e w' ⟨P, rfl, hP0, hP1, -, rfl⟩
    clear HPL
    go_wp2_with fail
    go_loopw [13] (fun iv wr => ∃ (k : Nat) (L : List Int), k ≤ M ∧ iv = .int .i64 (k : Int) ∧ L.length = k + (if P < (k : Int) then 1 else 0) ∧ outC b L ≤ (if P < (k : Int) then 1 else 0) ∧ ObAt 43 R wr gt (15, L) ∧ Below w.heap.size w wr) (fun iv _ => M - (intOf iv).toNat)
    case atStart => exact ⟨0, [], Nat.zero_le _, rfl, by rw [if_neg (by omega)]; rfl, by rw [if_neg (by omega)]; exact Nat.le_refl _, FA, hb⟩
    case round =>
      obtain ⟨k, L, hkM, rfl, hLl, hLo, FA, hb⟩ := hrel
      by_cases hk : k < M
      · have hkI : (k : Int) < (M : Int) := by omega
        obtain ⟨b0, off, rfl, hc⟩ := ROWpk.out (by omega)
        obtain ⟨z, hz⟩ : ∃ z, zs[k] = z := ⟨_, rfl⟩
        have HCz := hid fun (wx : World) (h : Below w.heap.size w wx) => (hc wx h k (by omega)).trans (by rw [hz])
        clear hc hz
        by_cases hkP : (k : Int) = P
        · subst hkP
          rw [if_neg (by omega)] at hLl hLo
          have hr1 := putL_room (n := 15) (l := L) (by omega) far
          have hin1 : InM (15, L) := inM15 (by omega)
          go_wp2_with fail
          refine (HPut gt (15) (L) (far) wr FA (hin1)).mono ?_
          rintro e w3 ⟨m, rfl, hm, FA2, o2⟩
          replace FA := FA2
          replace hb := Only.below hb o2 hg hb.size
          clear FA2 o2
          rw [hr1] at FA
          have hcell := HCz.out _ hb
          clear hm hr1
          go_wp2_with fail
          clear hcell
          refine (place_in z 100 _ (by decide) (by decide)).mono ?_
          rintro e w' ⟨y, rfl, hy0, hy1, -, rfl⟩
          obtain ⟨x, hx⟩ : ∃ x, b + y = x := ⟨_, rfl⟩
          have hr2 := putL_room (n := 15) (l := L ++ [far]) (by rw [List.length_append, List.length_singleton]; omega) x
          have hin2 : InM (15, L ++ [far]) := inM15 (by rw [List.length_append, List.length_singleton]; omega)
          have ho : outC b ((L ++ [far]) ++ [x]) ≤ 1 := by
            have e0 : (if x < b ∨ b + 100 ≤ x then 1 else 0) = 0 := if_neg (by omega)
            rw [outC_snoc, outC_snoc, e0]
            have : (if far < b ∨ b + 100 ≤ far then 1 else 0) ≤ 1 := by split <;> omega
            omega
          have hl2 : ((L ++ [far]) ++ [x]).length = k + 2 := by rw [List.length_append, List.length_append, List.length_singleton, List.length_singleton]; omega
          have HO := hid ho
          have HL2 := hid hl2
          generalize L ++ [far] = L1 at *
          clear ho hl2
          have hxw : IntKind.i64.wrap (b + y) = x := by rw [IntKind.wrap_i64]; omega
          go_wp2_with fail
          refine (HPut gt (15) (L1) (x) _ FA (hin2)).mono ?_
          rintro e w4 ⟨m, rfl, hm, FA2, o2⟩
          replace FA := FA2
          replace hb := Only.below hb o2 hg hb.size
          clear FA2 o2
          rw [hr2] at FA
          have HFA := hid FA
          go_wp2_with fail
          go_roundw
          case rel => exact ⟨k + 1, L1 ++ [x], hk, by go_num, by rw [HL2.out, if_pos (by omega)], by rw [if_pos (by omega)]; exact HO.out, HFA.out, hb⟩
          case measure => simp [intOf]; omega
        · have hne : ((k : Int) == P) = false := beq_false_of_ne hkP
          have hcell := HCz.out _ hb
          go_wp2_with fail
          clear hcell
          refine (place_in z 100 _ (by decide) (by decide)).mono ?_
          rintro e w' ⟨y, rfl, hy0, hy1, -, rfl⟩
          obtain ⟨x, hx⟩ : ∃ x, b + y = x := ⟨_, rfl⟩
          have hll : L.length ≤ k + 1 := by rw [hLl]; split <;> omega
          have hr2 := putL_room (n := 15) (l := L) (by omega) x
          have hin2 : InM (15, L) := inM15 (by omega)
          have HO := hid (show outC b (L ++ [x]) ≤ (if P < ((k + 1 : Nat) : Int) then 1 else 0) by
            rw [outC_snoc, if_neg (by omega)]
            by_cases hq : P < (k : Int)
            · rw [if_pos hq] at hLo
              rw [if_pos (by omega)]
              exact hLo
            · rw [if_neg hq] at hLo
              rw [if_neg (by omega)]
              exact hLo)
          have HL2 := hid (show (L ++ [x]).length = (k + 1) + (if P < ((k + 1 : Nat) : Int) then 1 else 0) by
            rw [List.length_append, List.length_singleton, hLl]
            by_cases hq : P < (k : Int)
            · rw [if_pos hq, if_pos (by omega)] <;> omega
            · rw [if_neg hq, if_neg (by omega)] <;> omega)
          clear hLl hLo
          have hxw : IntKind.i64.wrap (b + y) = x := by rw [IntKind.wrap_i64]; omega
          go_wp2_with fail
          refine (HPut gt (15) (L) (x) _ FA (hin2)).mono ?_
          rintro e w4 ⟨m, rfl, hm, FA2, o2⟩
          replace FA := FA2
          replace hb := Only.below hb o2 hg hb.size
          clear FA2 o2
          rw [hr2] at FA
          have HFA := hid FA
          go_wp2_with fail
          go_roundw
          case rel => exact ⟨k + 1, L ++ [x], hk, by go_num, HL2.out, HO.out, HFA.out, hb⟩
          case measure => simp [intOf]; omega
      · obtain rfl : k = M := by omega
        rw [if_pos (by omega)] at hLl hLo
        have hin : InM (15, L) := inM15 (by omega)
        have hpos : 0 < L.length := by omega
        have hdec : decide (0 < L.length) = true := decide_eq_true hpos
        go_wp2_with fail
        refine (HMed gt 15 L wr FA hin).mono ?_
        rintro e w5 ⟨m, rfl, hm, b5⟩
        rw [hdec]
        replace hb := bnext hb b5
        obtain ⟨hm0, hm1⟩ := odd_in (hm.is hpos) (by omega) hLo
        have hw9 : IntKind.i64.wrap (b + 100) = b + 100 := by rw [IntKind.wrap_i64]; omega
        have hd1 : decide (b ≤ m) = true := decide_eq_true hm0
        have hd2 : decide (m < b + 100) = true := decide_eq_true hm1
        have hd3 : decide (m < IntKind.i64.wrap (b + 100)) = true := by rw [hw9]; exact hd2
        clear hm hdec
        go_wp2_with fail
        refine (awake19_from HNew HPut _).mono ?_
        rintro e wz ⟨rfl, bz⟩
        go_wp2_with fail
        go_ret
        exact ⟨rfl, bnext hb bz⟩

end Go.Proofs.Ytcccjjghalajoaa
