/- carillonlaw15: Many, from contracts of the program's own (gen_timlaws.py). -/
import Derived.Test.YtgmigoimhdlmcaaTimLaws2
import Derived.Test.YtgmigoimhdlmcaaRowKeep
namespace Go.Proofs.Ytgmigoimhdlmcaa
open Go.RowKit Go.Proofs
set_option maxRecDepth 50000
set_option linter.unusedVariables false
set_option linter.unusedSimpArgs false

def ptrK : RowK Nat := ⟨fun g => [.pointer (some ⟨g, 0, none⟩)], 1, by decide, fun _ => rfl, by intro a u hu; rw [List.mem_singleton.1 hu]; rfl⟩
def intK : RowK Int := ⟨fun z => [.int .i64 z], 1, by decide, fun _ => rfl, by intro a u hu; rw [List.mem_singleton.1 hu]; rfl⟩
theorem ptr_info : (Try.prog.info? 23).map (fun i => (i.zero, i.size, i.bytes)) = some (some (.pointer none), ptrK.n, 8) := by kernel_rfl
theorem int_info : (Try.prog.info? 3).map (fun i => (i.zero, i.size, i.bytes)) = some (some (.int .i64 0), intK.n, 8) := by kernel_rfl
theorem ty_tp : 38 ≠ 23 := by decide
theorem ty_ti : 38 ≠ 3 := by decide
theorem ty_pi : 23 ≠ 3 := by decide
theorem TAt.kept {R : List Value → Int → Prop} {w w' : World} {g : Nat} {n : Int} {t : TypeId} (h : TAt R w g n) (hk : KeptBut t w w') (ht : 38 ≠ t) : TAt R w' g n := by
  obtain ⟨xs, hB, hR⟩ := h
  exact ⟨xs, hB.kept hk ht, hR⟩
theorem TAt.ownP {R : List Value → Int → Prop} {w w' : World} {g : Nat} {n : Int} (h : TAt R w g n) (ho : Only g w w') {base : Nat} {v : Value} {l : List Nat} (hr : ptrK.Own 23 w base v l) : ptrK.Own 23 w' base v l := by
  obtain ⟨xs, hB, hR⟩ := h
  exact hr.only ho hB (Ne.symm ty_tp)
theorem TAt.ownI {R : List Value → Int → Prop} {w w' : World} {g : Nat} {n : Int} (h : TAt R w g n) (ho : Only g w w') {base : Nat} {v : Value} {l : List Int} (hr : intK.Own 3 w base v l) : intK.Own 3 w' base v l := by
  obtain ⟨xs, hB, hR⟩ := h
  exact hr.only ho hB (Ne.symm ty_ti)

/-- Timers side by side, each with so much left. -/
def Tims (R : List Value → Int → Prop) (w : World) (base : Nat) (gs : List Nat) (f : Nat → Int) : Prop := gs.Nodup ∧ ∀ i (h : i < gs.length), base ≤ gs[i] ∧ TAt R w gs[i] (f i)
variable {R : List Value → Int → Prop}
theorem Tims.below {w w' : World} {base : Nat} {gs : List Nat} {f : Nat → Int} (h : Tims R w base gs f) (hb : Below w.heap.size w w') : Tims R w' base gs f := ⟨h.1, fun i hi => ⟨(h.2 i hi).1, (h.2 i hi).2.below hb⟩⟩
theorem Tims.kept {w w' : World} {base : Nat} {gs : List Nat} {f : Nat → Int} {t : TypeId} (h : Tims R w base gs f) (hk : KeptBut t w w') (ht : 38 ≠ t) : Tims R w' base gs f := ⟨h.1, fun i hi => ⟨(h.2 i hi).1, (h.2 i hi).2.kept hk ht⟩⟩
/-- A timer of its own that is turned leaves those ahead of it alone. -/
theorem Tims.only {w w' : World} {base g : Nat} {gs : List Nat} {f : Nat → Int} (h : Tims R w base gs f) (ho : Only g w w') (hg : g ∉ gs) : Tims R w' base gs f :=
  ⟨h.1, fun i hi => ⟨(h.2 i hi).1, (h.2 i hi).2.only ho (fun e => hg (by rw [← e]; exact List.getElem_mem hi))⟩⟩
theorem Tims.snoc {w : World} {base g : Nat} {gs : List Nat} {f : Nat → Int} {n : Int} (h : Tims R w base gs f) (hg : g ∉ gs) (hb : base ≤ g) (ht : TAt R w g n) (f' : Nat → Int) (hf : ∀ i, i < gs.length → f' i = f i) (hn : f' gs.length = n) : Tims R w base (gs ++ [g]) f' := by
  refine ⟨?_, fun i hi => ?_⟩
  · rw [List.nodup_append]
    exact ⟨h.1, by simp, fun a ha b hb e => hg (by rw [List.mem_singleton.1 hb] at e; rw [← e]; exact ha)⟩
  · rw [List.length_append, List.length_singleton] at hi
    by_cases hl : i < gs.length
    · rw [List.getElem_append_left hl, hf i hl]
      exact h.2 i hl
    · obtain rfl : i = gs.length := by omega
      rw [List.getElem_append_right (Nat.le_refl _)]
      simp only [Nat.sub_self, List.getElem_singleton]
      rw [hn]
      exact ⟨hb, ht⟩
/-- One of them is turned. -/
theorem Tims.turn {w w' : World} {base : Nat} {gs : List Nat} {f : Nat → Int} (h : Tims R w base gs f) (j : Nat) (hj : j < gs.length) (ho : Only gs[j] w w') (n : Int) (ht : TAt R w' gs[j] n) (f' : Nat → Int) (hf : ∀ i, i ≠ j → f' i = f i) (hn : f' j = n) : Tims R w' base gs f' := by
  refine ⟨h.1, fun i hi => ?_⟩
  by_cases hij : i = j
  · subst hij
    rw [hn]
    exact ⟨(h.2 i hi).1, ht⟩
  · rw [hf i hij]
    exact ⟨(h.2 i hi).1, (h.2 i hi).2.only ho (fun e => by
      rcases Nat.lt_or_gt_of_ne hij with hl | hl
      · exact List.pairwise_iff_getElem.1 h.1 i j hi hj hl e
      · exact List.pairwise_iff_getElem.1 h.1 j i hj hi hl e.symm)⟩

theorem Tims.same {w : World} {base : Nat} {gs : List Nat} {f : Nat → Int} (h : Tims R w base gs f) (f' : Nat → Int) (hf : ∀ i, i < gs.length → f' i = f i) : Tims R w base gs f' := ⟨h.1, fun i hi => by rw [hf i hi]; exact h.2 i hi⟩
def nT (zs : List Int) (i : Nat) : Int := 1 + zs.getD i 0 % 40
theorem nT_in (zs : List Int) (i : Nat) : 1 ≤ nT zs i ∧ nT zs i ≤ 40 := by
  unfold nT
  omega
def lT (zs : List Int) (k : Nat) : List Int := (List.range k).map (nT zs)
theorem lT_length (zs : List Int) (k : Nat) : (lT zs k).length = k := by simp [lT]
theorem lT_succ (zs : List Int) (k : Nat) : lT zs (k + 1) = lT zs k ++ [nT zs k] := by simp [lT, List.range_succ]
theorem lT_get (zs : List Int) (k i : Nat) (h : i < k) : (lT zs k)[i]'(by rw [lT_length]; exact h) = nT zs i := by simp [lT]

set_option maxRecDepth 100000 in
set_option maxHeartbeats 8000000 in
theorem timerMany_from (HNew : CNewT R) (HTick : CTickT R) (HStart : CStartT R) (v : Value) (zs : List Int) (w : World) (hK : Ints w v zs) :
    Calls Try.prog 6 #[v] w fun e w' => e = .returned (.bool true) ∧ Below w.heap.size w w' := by
  have HK := hid fun (wx : World) (h : Below w.heap.size w wx) => intsP_below hK h
  obtain ⟨pk, capk, rfl, hcapk, hmaxk, -⟩ := id hK
  clear hK
  unfold maxLen at hmaxk
  obtain ⟨M, hM⟩ : ∃ M, min zs.length 10 = M := ⟨_, rfl⟩
  have hMz : M ≤ zs.length := by omega
  have hM10 : M ≤ 10 := by omega
  have hM2 : ¬ (M < zs.length ∧ M < 10) := by omega
  clear hM
  obtain ⟨B0, hB0⟩ : ∃ b, w.heap.size = b := ⟨_, rfl⟩
  have hbr := Below.refl w.heap.size w
  rw [hB0] at HK hbr
  replace hB0 := hid hB0
  go_enter Try.func6, Try.ntmps6
  go_wp2_with fail
  go_loopw [3, 4, 5] (fun tv lv iv wr => ∃ (k : Nat) (gs : List Nat), k ≤ M ∧ iv = .int .i64 (k : Int) ∧ gs.length = k ∧ Tims R wr B0 gs (nT zs) ∧ ptrK.Own 23 wr B0 tv gs ∧ intK.Own 3 wr B0 lv (lT zs k) ∧ Below B0 w wr ∧ B0 ≤ wr.heap.size) (fun _ _ iv _ => 10 - (intOf iv).toNat)
  case atStart => exact ⟨0, [], Nat.zero_le _, rfl, rfl, ⟨by simp, fun i hi => absurd hi (by simp)⟩, RowK.Own.nil ptrK _ _ _, RowK.Own.nil intK _ _ _, hbr, Nat.le_of_eq hB0.out.symm⟩
  case round =>
    obtain ⟨k, gs, hkM, rfl, hgk, HT, oP, oI, hb, hbs⟩ := hrel
    by_cases hlt : k < zs.length ∧ k < 10
    · obtain ⟨hk, hk10⟩ := hlt
      have hkI : (k : Int) < (zs.length : Int) := by omega
      have hk2I : (k : Int) < 10 := by omega
      go_wp2_with fail
      refine (HNew wr).mono ?_
      rintro e w1 ⟨gt, rfl, hg, FA, b1⟩
      have hgn : gt ∉ gs := fun hm => by
        obtain ⟨i, hi, he⟩ := List.getElem_of_mem hm
        have := (HT.2 i hi).2.lt
        omega
      have hgB : B0 ≤ gt := Nat.le_trans hbs hg
      replace HT := HT.below b1
      replace oP := oP.below b1
      replace oI := oI.below b1
      replace hb := hb.trans (b1.mono hbs)
      replace hbs := Nat.le_trans hbs b1.size
      clear b1
      obtain ⟨p', cap', hpe, -, -, hat⟩ := HK.out w1 hb
      cases hpe
      obtain ⟨b0, off, rfl, hbl, hc⟩ := hat.pos (by omega)
      have hcell := hc k hk
      have hnT : 1 + zs[k] % 40 = nT zs k := by unfold nT; rw [List.getD_eq_getElem?_getD, List.getElem?_eq_getElem hk]; rfl
      clear hc hat
      generalize zs[k] = z at *
      go_wp2_with fail
      refine (place_any z 40 _ (by decide) (by decide)).mono ?_
      rintro e w' ⟨rfl, rfl⟩
      clear hcell
      have hnI := nT_in zs k
      obtain ⟨n, hn⟩ : ∃ n : Int, nT zs k = n := ⟨_, rfl⟩
      rw [hn] at hnT hnI
      go_wp2_with fail
      refine (HStart gt 0 n w1 FA).mono ?_
      rintro e w2 ⟨rfl, FA2, o2⟩
      replace oP := FA.ownP o2 oP
      replace oI := FA.ownI o2 oI
      replace HT := HT.only o2 hgn
      replace hb := Only.below hb o2 hgB hbs
      replace hbs := Nat.le_trans hbs o2.size
      replace FA := FA2
      rw [clampT_in hnI.1 (by omega)] at FA
      clear FA2 o2 hnT
      have q1 := bnew w2 (Obj.cells #[.pointer (some ⟨gt, 0, none⟩)] 23)
      have r1 : ptrK.Reads (w2.alloc (Obj.cells #[.pointer (some ⟨gt, 0, none⟩)] 23)) (.slice (some ⟨w2.heap.size, 0, none⟩) 1 1) [gt] := RowK.Reads.one ptrK w2 23 gt rfl
      have oP1 := oP.below q1
      have hbs1 := Nat.le_trans hbs q1.size
      have hgl : gs.length ≤ 10 := by omega
      go_upto_region 12 with (at_builtin; refine RowK.wpList_append_kept ptrK Try.underlying35 ptr_info rfl (o := ⟨some 35, _, _, _, _, _⟩) rfl _ _ rfl rfl B0 _ _ gs [gt] rfl rfl oP1 r1 ?_ ?_ hbs1 ?_; (simp only [List.length_singleton]; omega); (simp only [List.length_singleton]; omega); intro vP w3 oP3 b3 k3)
      replace FA := (FA.below q1).kept k3 ty_tp
      replace HT := (HT.below q1).kept k3 ty_tp
      replace oI := (oI.below q1).kept k3 (Ne.symm ty_pi)
      replace hb := (hb.trans (q1.mono hbs)).trans b3
      replace hbs := Nat.le_trans hbs1 b3.size
      clear q1 r1 oP1 hbs1 b3 k3 oP
      have q1 := bnew w3 (Obj.cells #[.int .i64 n] 3)
      have r1 : intK.Reads (w3.alloc (Obj.cells #[.int .i64 n] 3)) (.slice (some ⟨w3.heap.size, 0, none⟩) 1 1) [n] := RowK.Reads.one intK w3 3 n rfl
      have oI1 := oI.below q1
      have hbs1 := Nat.le_trans hbs q1.size
      have hll : (lT zs k).length ≤ 10 := by rw [lT_length]; omega
      go_wp2_with (at_builtin; refine RowK.wpList_append_kept intK Try.underlying22 int_info rfl (o := ⟨some 39, _, _, _, _, _⟩) rfl _ _ rfl rfl B0 _ _ (lT zs k) [n] rfl rfl oI1 r1 ?_ ?_ hbs1 ?_; (simp only [List.length_singleton]; omega); (simp only [List.length_singleton]; omega); intro vI w4 oI4 b4 k4)
      replace FA := (FA.below q1).kept k4 ty_ti
      replace HT := (HT.below q1).kept k4 ty_ti
      have oP4 := (oP3.below q1).kept k4 ty_pi
      replace hb := (hb.trans (q1.mono hbs)).trans b4
      replace hbs := Nat.le_trans hbs1 b4.size
      have HT4 := HT.snoc hgn hgB FA (nT zs) (fun _ _ => rfl) (by rw [hgk]; exact hn)
      have oI5 : intK.Own 3 w4 B0 vI (lT zs (k + 1)) := by rw [lT_succ, hn]; exact oI4
      go_roundw
      case rel => exact ⟨k + 1, gs ++ [gt], by omega, by go_num, by rw [List.length_append, hgk]; rfl, HT4, oP4, oI5, hb, hbs⟩
      case measure => simp [intOf]; omega
    · obtain rfl : k = M := by omega
      subst hgk
      obtain ⟨pP, capP, rfl, hcP, hmP, -⟩ := oP.reads
      obtain ⟨pI, capI, rfl, hcI, hmI, -⟩ := oI.reads
      have hll := lT_length zs gs.length
      replace hll := hid hll
      unfold maxLen at hmP hmI
      have HT1 := HT.same (fun i => leftK (nT zs i) ((1 : Nat) : Int)) (fun i _ => leftK_first _ (nT_in zs i).1)
      go_wp2_with fail
      all_goals
        go_loopw [8] (fun cv wr => ∃ c : Nat, 1 ≤ c ∧ c ≤ 46 ∧ cv = .int .i64 (c : Int) ∧ Tims R wr B0 gs (fun i => leftK (nT zs i) (c : Int)) ∧ ptrK.Own 23 wr B0 (.slice pP gs.length capP) gs ∧ intK.Own 3 wr B0 (.slice pI (lT zs gs.length).length capI) (lT zs gs.length) ∧ Below B0 w wr ∧ B0 ≤ wr.heap.size) (fun cv _ => 46 - (intOf cv).toNat)
        case atStart => exact ⟨1, by decide, by decide, rfl, HT1, oP, oI, hb, hbs⟩
        case round =>
          obtain ⟨c, hc1, hc46, rfl, HT, oP, oI, hb, hbs⟩ := hrel
          by_cases hc45 : c < 46
          · have hcI : (c : Int) ≤ 45 := by omega
            have HTs := HT.same (fun i => leftK (nT zs i) (if i < 0 then (c : Int) + 1 else (c : Int))) (fun i _ => by simp)
            go_wp2_with fail
            go_loopw [9] (fun jv wr => ∃ j : Nat, j ≤ gs.length ∧ jv = .int .i64 (j : Int) ∧ Tims R wr B0 gs (fun i => leftK (nT zs i) (if i < j then (c : Int) + 1 else (c : Int))) ∧ ptrK.Own 23 wr B0 (.slice pP gs.length capP) gs ∧ intK.Own 3 wr B0 (.slice pI (lT zs gs.length).length capI) (lT zs gs.length) ∧ Below B0 w wr ∧ B0 ≤ wr.heap.size) (fun jv _ => gs.length - (intOf jv).toNat)
            case atStart => exact ⟨0, Nat.zero_le _, rfl, HTs, oP, oI, hb, hbs⟩
            case round =>
              obtain ⟨j, hjL, rfl, HT, oP, oI, hb, hbs⟩ := hrel
              by_cases hj : j < gs.length
              · have hjI : (j : Int) < (gs.length : Int) := by omega
                have hj0 : (0 : Int) ≤ (j : Int) := by omega
                have hjl2 : (j : Int) < ((lT zs gs.length).length : Int) := by rw [hll.out]; exact hjI
                have bd := Below.drew (Below.refl wr.heap.size wr)
                replace HT := HT.below bd
                replace oP := oP.below bd
                replace oI := oI.below bd
                replace hb := hb.trans (bd.mono hbs)
                replace hbs := Nat.le_trans hbs bd.size
                have FJ := (HT.2 j hj).2
                have hgj := (HT.2 j hj).1
                replace FJ : TAt R wr.drew gs[j] (leftK (nT zs j) (c : Int)) := by
                  have h0 : (fun i => leftK (nT zs i) (if i < j then (c : Int) + 1 else (c : Int))) j = leftK (nT zs j) (c : Int) := by simp
                  rw [← h0]; exact FJ
                have hnI := nT_in zs j
                have hin : InT (leftK (nT zs j) (c : Int)) := leftK_in hnI.1 (by omega) (by omega)
                have hr := hid (show (leftK (nT zs j) (c : Int) == 1) = (nT zs j == (c : Int)) by rw [leftK_rings, Bool.eq_iff_iff, beq_iff_eq, beq_iff_eq]; exact eq_comm)
                have ht := hid (leftK_tick (nT zs j) (c : Int))
                have HcP := hid fun (wx : World) (ho : Only gs[j] wr.drew wx) => (FJ.ownP ho oP).reads
                have HcI := hid fun (wx : World) (ho : Only gs[j] wr.drew wx) => (FJ.ownI ho oI).reads
                obtain ⟨p', cap', hpe, -, -, hat⟩ := HcP.out _ (Only.refl _ _)
                cases hpe
                obtain ⟨b1, off1, rfl, -, -⟩ := hat.pos (by omega)
                obtain ⟨p', cap', hpe, -, -, hat⟩ := HcI.out _ (Only.refl _ _)
                cases hpe
                obtain ⟨b2, off2, rfl, -, -⟩ := hat.pos (by rw [hll.out]; omega)
                have HX : Hid (∀ wx, Only gs[j] wr.drew wx → wx.cell? ⟨b1, off1 + j, none⟩ = some (.pointer (some ⟨gs[j], 0, none⟩))) := hid fun wx ho => by
                  obtain ⟨p', cap', hpe, -, -, hat⟩ := HcP.out wx ho
                  cases hpe
                  obtain ⟨b', off', hpe, -, hc⟩ := hat.pos (by omega)
                  cases hpe
                  have := RowK.At.cell (K := ptrK) hc j 0 hj (by decide) _ rfl
                  rw [show off1 + (j * ptrK.n + 0) = off1 + j from by show off1 + (j * 1 + 0) = off1 + j; omega] at this
                  exact this
                have HY : Hid (∀ wx, Only gs[j] wr.drew wx → wx.cell? ⟨b2, off2 + j, none⟩ = some (.int .i64 (nT zs j))) := hid fun wx ho => by
                  obtain ⟨p', cap', hpe, -, -, hat⟩ := HcI.out wx ho
                  cases hpe
                  obtain ⟨b', off', hpe, -, hc⟩ := hat.pos (by rw [hll.out]; omega)
                  cases hpe
                  have := RowK.At.cell (K := intK) hc j 0 (by rw [hll.out]; exact hj) (by decide) _ rfl
                  rw [show off2 + (j * intK.n + 0) = off2 + j from by show off2 + (j * 1 + 0) = off2 + j; omega] at this
                  rw [this]
                  exact congrArg (fun z => some (Value.int .i64 z)) (lT_get zs gs.length j hj)
                clear HcP HcI hat
                have HTj := hid hj
                go_upto_region 19 with fail
                refine wp_region_held_drew (S := fun w' => Only gs[j] wr.drew w') (by kernel_rfl) (Only.refl _ _) ?_
                intro hHeld
                generalize wr.drew = wd at *
                refine rtake 0 rfl (by rfl) (by kernel_rfl) (by kernel_rfl) (by kernel_rfl) (fun _ _ _ h => h) hHeld (fun wx hwx => by go_simp; try with_reducible rfl) ?_
                try simp only [Act.put, List.setIfInBounds_toArray, List.set_cons_zero, List.set_cons_succ]
                refine rtake 1 rfl (by rfl) (by kernel_rfl) (by kernel_rfl) (by kernel_rfl) (fun _ _ _ h => h) hHeld (fun wx hwx => by go_simp; try with_reducible rfl) ?_
                try simp only [Act.put, List.setIfInBounds_toArray, List.set_cons_zero, List.set_cons_succ]
                refine rtake 2 rfl (by rfl) (by kernel_rfl) (by kernel_rfl) (by kernel_rfl) (fun _ _ _ h => h) hHeld (fun wx hwx => by go_simp; try with_reducible rfl) ?_
                try simp only [Act.put, List.setIfInBounds_toArray, List.set_cons_zero, List.set_cons_succ]
                refine rtake 3 rfl (by rfl) (by kernel_rfl) (by kernel_rfl) (by kernel_rfl) (fun _ _ _ h => h) hHeld (fun wx hwx => by have hcx := HX.out wx hwx; go_simp; try with_reducible rfl) ?_
                try simp only [Act.put, List.setIfInBounds_toArray, List.set_cons_zero, List.set_cons_succ]
                refine rtake 5 rfl (by rfl) (by kernel_rfl) (by kernel_rfl) (by kernel_rfl) (fun _ _ _ h => h) hHeld (fun wx hwx => by go_simp; try with_reducible rfl) ?_
                try simp only [Act.put, List.setIfInBounds_toArray, List.set_cons_zero, List.set_cons_succ]
                refine rtake 6 rfl (by rfl) (by kernel_rfl) (by kernel_rfl) (by kernel_rfl) (fun _ _ _ h => h) hHeld (fun wx hwx => by go_simp; try with_reducible rfl) ?_
                try simp only [Act.put, List.setIfInBounds_toArray, List.set_cons_zero, List.set_cons_succ]
                refine rtake 7 rfl (by rfl) (by kernel_rfl) (by kernel_rfl) (by kernel_rfl) (fun _ _ _ h => h) hHeld (fun wx hwx => by go_simp; try with_reducible rfl) ?_
                try simp only [Act.put, List.setIfInBounds_toArray, List.set_cons_zero, List.set_cons_succ]
                refine rtake 8 rfl (by rfl) (by kernel_rfl) (by kernel_rfl) (by kernel_rfl) (fun _ _ _ h => h) hHeld (fun wx hwx => by have hcx := HY.out wx hwx; go_simp; try with_reducible rfl) ?_
                try simp only [Act.put, List.setIfInBounds_toArray, List.set_cons_zero, List.set_cons_succ]
                refine rtake 9 rfl (by rfl) (by kernel_rfl) (by kernel_rfl) (by kernel_rfl) (fun _ _ _ h => h) hHeld (fun wx hwx => by go_simp; try with_reducible rfl) ?_
                try simp only [Act.put, List.setIfInBounds_toArray, List.set_cons_zero, List.set_cons_succ]
                refine rtake 10 rfl (by rfl) (by kernel_rfl) (by kernel_rfl) (by kernel_rfl) (fun _ _ _ h => h) hHeld (fun wx hwx => by go_simp; try with_reducible rfl) ?_
                try simp only [Act.put, List.setIfInBounds_toArray, List.set_cons_zero, List.set_cons_succ]
                refine rcall 4 rfl (by kernel_rfl) (by rfl) (fun K hK => ?_)
                go_simp
                refine (HTick gs[j] (leftK (nT zs j) (c : Int)) wd FJ hin).mono ?_
                rintro e w9 ⟨rfl, FJ9, o9⟩
                refine hK.out _ _ o9 ?_
                clear hK K
                replace oP := FJ.ownP o9 oP
                replace oI := FJ.ownI o9 oI
                replace HT := HT.turn j hj o9 _ FJ9 (fun i => leftK (nT zs i) (if i < j + 1 then (c : Int) + 1 else (c : Int))) (fun i hi => by
                  by_cases h1 : i < j
                  · rw [if_pos h1, if_pos (by omega)]
                  · rw [if_neg h1, if_neg (by omega)]) (by rw [if_pos (Nat.lt_succ_self j)]; exact ht.out.symm)
                replace hb := Only.below hb o9 hgj hbs
                replace hbs := Nat.le_trans hbs o9.size
                clear hHeld FJ FJ9
                have hHeld := o9
                rw [hr.out]
                try simp only [Act.put, List.setIfInBounds_toArray, List.set_cons_zero, List.set_cons_succ]
                refine rtake 11 rfl (by rfl) (by kernel_rfl) (by kernel_rfl) (by kernel_rfl) (fun _ _ _ h => h) hHeld (fun wx hwx => by go_simp; try with_reducible rfl) ?_
                try simp only [Act.put, List.setIfInBounds_toArray, List.set_cons_zero, List.set_cons_succ]
                refine wpAnyH_done (by kernel_rfl) ?_ _
                clear hHeld o9 HX HY
                go_wp2_with fail
                go_roundw
                case rel => exact ⟨j + 1, hj, by go_num, HT, oP, oI, hb, hbs⟩
                case measure => simp [intOf]; omega
              · obtain rfl : j = gs.length := by omega
                have HTe := HT.same (fun i => leftK (nT zs i) (((c + 1 : Nat)) : Int)) (fun i hi => by rw [if_pos hi]; rfl)
                go_wp2_with fail
                go_roundw
                case rel => exact ⟨c + 1, by omega, by omega, by go_num, HTe, oP, oI, hb, hbs⟩
                case measure => simp [intOf]; omega
          · have hc46' : c = 46 := by omega
            have hcI : ¬ (c : Int) ≤ 45 := by omega
            go_wp2_with fail
            refine (awake15_from HNew HTick HStart _).mono ?_
            rintro e wz ⟨rfl, bz⟩
            have hbz := hb.trans (bz.mono hbs)
            go_wp2_with fail
            go_ret
            exact ⟨rfl, by rw [hB0.out]; exact hbz⟩

end Go.Proofs.Ytgmigoimhdlmcaa
