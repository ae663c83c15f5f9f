/- body.Check (gen_body.py). -/
import Derived.Test.YtohgpnlihfcecaaBodyOf
import Derived.Test.YtohgpnlihfcecaaMsg3
import Derived.Test.YtohgpnlihfcecaaB1
namespace Go.Proofs.Ytohgpnlihfcecaa
open Go.RowKit Go.Proofs
set_option maxRecDepth 50000
set_option linter.unusedVariables false
set_option linter.unusedSimpArgs false

/-- What a message may be. -/
def checkM (h : Hd) (d : Bd) : Bool :=
  checkB h && (sameM h d h (ofB h.ty d) && (mayB d.st && (mayP d.tp && (inB d.ut (-32768) 32767 && (inB d.p1 0 255 && (mayQ d.qc d.qa d.qv && (inB d.p2 0 255 && (inB d.sr 0 65535 && (inB d.og 0 255 && (inB d.sh 0 255 && (inB d.hp 0 255 && inB d.ac 0 15)))))))))))

set_option maxHeartbeats 800000 in
theorem bodyFits1_any (x : Int) (w : World) :
    Calls Try.prog 77 #[.int .i64 x, .int .i64 1] w fun e w' => e = .returned (.bool (inB x 0 255)) ∧ w = w' := by
  by_cases h0 : 0 ≤ x
  · have e : inB x 0 255 = decide (x < 256) := by unfold inB; rw [Bool.eq_iff_iff, decide_eq_true_eq, decide_eq_true_eq]; omega
    rw [e]
    clear e
    go_enter Try.func77, Try.ntmps77
    go_wp2
    go_ret
    exact ⟨rfl, rfl⟩
  · rw [show inB x 0 255 = false by unfold inB; rw [decide_eq_false_iff_not]; omega]
    go_enter Try.func77, Try.ntmps77
    go_wp2
    go_ret
    exact ⟨rfl, rfl⟩

set_option maxHeartbeats 800000 in
theorem bodyFits2_any (x : Int) (w : World) :
    Calls Try.prog 77 #[.int .i64 x, .int .i64 2] w fun e w' => e = .returned (.bool (inB x 0 65535)) ∧ w = w' := by
  by_cases h0 : 0 ≤ x
  · have e : inB x 0 65535 = decide (x < 65536) := by unfold inB; rw [Bool.eq_iff_iff, decide_eq_true_eq, decide_eq_true_eq]; omega
    rw [e]
    clear e
    go_enter Try.func77, Try.ntmps77
    go_wp2
    go_ret
    exact ⟨rfl, rfl⟩
  · rw [show inB x 0 65535 = false by unfold inB; rw [decide_eq_false_iff_not]; omega]
    go_enter Try.func77, Try.ntmps77
    go_wp2
    go_ret
    exact ⟨rfl, rfl⟩

set_option maxRecDepth 100000 in
set_option maxHeartbeats 8000000 in
theorem checkM_any (h : Hd) (d : Bd) (w : World) :
    Calls Try.prog 34 #[.agg (msgF h d).toArray] w fun e w' => e = .returned (.bool (checkM h d)) ∧ Below w.heap.size w w' := by
  have HC : Hid (checkM h d = (checkB h && (sameM h d h (ofB h.ty d) && (mayB d.st && (mayP d.tp && (inB d.ut (-32768) 32767 && (inB d.p1 0 255 && (mayQ d.qc d.qa d.qv && (inB d.p2 0 255 && (inB d.sr 0 65535 && (inB d.og 0 255 && (inB d.sh 0 255 && (inB d.hp 0 255 && inB d.ac 0 15))))))))))))) := hid rfl
  have hE := fun w' => equal_msg h d h (ofB h.ty d) w'
  generalize hsm : sameM h d h (ofB h.ty d) = sm at *
  generalize checkM h d = cm at *
  clear hsm
  go_enter Try.func34, Try.ntmps34
  go_upto_region 1 with fail
  obtain ⟨W, hWe, hbw, hBox⟩ := box_msg w (msgF h d)
  rw [← hWe]
  clear hWe
  refine rwhole (by kernel_rfl) ?_
  have hbd := Below.drew (Below.refl W.heap.size W)
  replace hBox := hBox.below hbd
  replace hbw := bnext hbw hbd
  clear hbd
  generalize W.drew = wd at *
  refine rcall 0 rfl (by kernel_rfl) (by rfl) (fun K hK => ?_)
  refine op_load_msg (op := ⟨some 3, .load _ _, _, _, _, _⟩) _ rfl w.heap.size rfl (msgF h d) _ hBox (msgF_length _ _) ?_
  refine hK.out _ _ trivial ?_
  clear hK K
  try simp only [Act.put, List.setIfInBounds_toArray, List.set_cons_zero, List.set_cons_succ]
  refine rcall 1 rfl (by kernel_rfl) (by rfl) (fun K hK => ?_)
  go_simp
  refine (check_any h _ _).mono ?_
  rintro e w1 ⟨rfl, hb1⟩
  refine hK.out _ _ trivial ?_
  clear hK K
  try simp only [Act.put, List.setIfInBounds_toArray, List.set_cons_zero, List.set_cons_succ]
  refine rtake 2 rfl (by rfl) (by kernel_rfl) (by kernel_rfl) (by kernel_rfl) (fun _ _ _ h => h) trivial (fun wx hwx => by go_simp; try with_reducible rfl) ?_
  try simp only [Act.put, List.setIfInBounds_toArray, List.set_cons_zero, List.set_cons_succ]
  replace hBox := hBox.below hb1
  replace hbw := bnext hbw hb1
  clear hb1
  cases h0 : checkB h
  · rw [h0] at HC
    refine rpass 3 rfl (by rfl) (by kernel_rfl) (by kernel_rfl) (by kernel_rfl) (fun _ _ _ h => h) trivial ?_
    try simp only [Act.put, List.setIfInBounds_toArray, List.set_cons_zero, List.set_cons_succ]
    refine rchain _ 4 70 rfl rfl (by kernel_rfl) (by kernel_rfl) ?_
    refine wpList_tail 76 2 false [(5, false)] rfl (envCons rfl envNil) (by kernel_rfl) fun t' ht => ?_
    go_wp2_with fail
    go_ret
    exact ⟨by rw [ht, HC.out]; rfl, hbw⟩
  rw [h0] at HC
  apply share (P := fun w2 => Below w.heap.size w w2 ∧ Box w2 w.heap.size (msgF h d) 28)
  case h1 =>
    intro tail
    refine rtwo 3 4 rfl rfl (by kernel_rfl) (by rfl) (by rfl) (fun K hK => ?_) (fun K hK => ?_)
    · refine op_load_msg (op := ⟨some 6, .load _ _, _, _, _, _⟩) _ rfl w.heap.size rfl (msgF h d) _ hBox (msgF_length _ _) ?_
      refine hK.out _ _ trivial ?_
      clear hK K
      try simp only [Act.put, List.setIfInBounds_toArray, List.set_cons_zero, List.set_cons_succ]
      refine rcall 4 rfl (by kernel_rfl) (by rfl) (fun K hK => ?_)
      refine op_load_msg (op := ⟨some 7, .load _ _, _, _, _, _⟩) _ rfl w.heap.size rfl (msgF h d) _ hBox (msgF_length _ _) ?_
      refine hK.out _ _ trivial ?_
      clear hK K
      try simp only [Act.put, List.setIfInBounds_toArray, List.set_cons_zero, List.set_cons_succ]
      refine rcall 5 rfl (by kernel_rfl) (by rfl) (fun K hK => ?_)
      go_simp
      refine (ofType_any h d _).mono ?_
      rintro e w2 ⟨rfl, hb2⟩
      refine hK.out _ _ trivial ?_
      clear hK K
      try simp only [Act.put, List.setIfInBounds_toArray, List.set_cons_zero, List.set_cons_succ]
      refine rlisted (upto 6 68) (by kernel_rfl) ?_
      exact tail w2 ⟨bnext hbw hb2, hBox.below hb2⟩
    · refine op_load_msg (op := ⟨some 7, .load _ _, _, _, _, _⟩) _ rfl w.heap.size rfl (msgF h d) _ hBox (msgF_length _ _) ?_
      refine hK.out _ _ trivial ?_
      clear hK K
      try simp only [Act.put, List.setIfInBounds_toArray, List.set_cons_zero, List.set_cons_succ]
      refine rtwo 3 5 rfl rfl (by kernel_rfl) (by rfl) (by rfl) (fun K hK => ?_) (fun K hK => ?_)
      · refine op_load_msg (op := ⟨some 6, .load _ _, _, _, _, _⟩) _ rfl w.heap.size rfl (msgF h d) _ hBox (msgF_length _ _) ?_
        refine hK.out _ _ trivial ?_
        clear hK K
        try simp only [Act.put, List.setIfInBounds_toArray, List.set_cons_zero, List.set_cons_succ]
        refine rcall 5 rfl (by kernel_rfl) (by rfl) (fun K hK => ?_)
        go_simp
        refine (ofType_any h d _).mono ?_
        rintro e w2 ⟨rfl, hb2⟩
        refine hK.out _ _ trivial ?_
        clear hK K
        try simp only [Act.put, List.setIfInBounds_toArray, List.set_cons_zero, List.set_cons_succ]
        refine rlisted (upto 6 68) (by kernel_rfl) ?_
        exact tail w2 ⟨bnext hbw hb2, hBox.below hb2⟩
      · go_simp
        refine (ofType_any h d _).mono ?_
        rintro e w2 ⟨rfl, hb2⟩
        refine hK.out _ _ trivial ?_
        clear hK K
        try simp only [Act.put, List.setIfInBounds_toArray, List.set_cons_zero, List.set_cons_succ]
        refine rcall 3 rfl (by kernel_rfl) (by rfl) (fun K hK => ?_)
        refine op_load_msg (op := ⟨some 6, .load _ _, _, _, _, _⟩) _ rfl w.heap.size rfl (msgF h d) _ (hBox.below hb2) (msgF_length _ _) ?_
        refine hK.out _ _ trivial ?_
        clear hK K
        try simp only [Act.put, List.setIfInBounds_toArray, List.set_cons_zero, List.set_cons_succ]
        refine rlisted (upto 6 68) (by kernel_rfl) ?_
        exact tail w2 ⟨bnext hbw hb2, hBox.below hb2⟩
  clear hBox hbw
  rintro w2 ⟨hbw, hBox⟩
  refine rchain _ 6 68 rfl rfl rfl (by kernel_rfl) ?_
  have HD := hid hBox.bd
  obtain ⟨c8, c9, c10, c11, c12, c13, c14, c15, c16, c17, c18, c19, c20, c21, c22⟩ := HD.out w2 (Below.refl _ _)
  have hbz := Below.refl w2.heap.size w2
  cases hs : sm
  · rw [hs] at HC hE
    go_wp2_with fail
    go_ret
    exact ⟨by rw [HC.out]; rfl, hbw⟩
  rw [hs] at HC hE

  go_wp2_with fail
  refine (may_any _ _).mono ?_
  rintro e w' ⟨rfl, rfl⟩
  cases k0 : mayB d.st
  · rw [k0] at HC
    refine goK (by assumption) (wpList_tail 76 2 false [(14, false), (11, true)] rfl (envCons rfl (envCons rfl envNil)) (by kernel_rfl) fun t' ht => ?_)
    go_wp2_with fail
    go_ret
    exact ⟨by rw [ht, HC.out]; rfl, hbw⟩
  rw [k0] at HC
  go_wp2_with fail
  refine (identMay_any _ _ _).mono ?_
  rintro e v1 ⟨rfl, hb1⟩
  replace hbw := bnext hbw hb1
  replace hbz := bnext hbz hb1
  clear hb1 c8 c9 c10 c11 c12 c13 c14 c15 c16 c17 c18 c19 c20 c21 c22
  obtain ⟨c8, c9, c10, c11, c12, c13, c14, c15, c16, c17, c18, c19, c20, c21, c22⟩ := HD.out _ hbz
  cases k1 : mayP d.tp
  · rw [k1] at HC
    refine goK (by assumption) (wpList_tail 76 2 false [(19, false), (16, true)] rfl (envCons rfl (envCons rfl envNil)) (by kernel_rfl) fun t' ht => ?_)
    go_wp2_with fail
    go_ret
    exact ⟨by rw [ht, HC.out]; rfl, hbw⟩
  rw [k1] at HC
  by_cases k2a : -32768 ≤ d.ut
  case neg =>
    go_wp2_with fail
    go_ret
    exact ⟨by rw [HC.out, show inB d.ut (-32768) 32767 = false by unfold inB; rw [decide_eq_false_iff_not]; omega]; rfl, hbw⟩
  by_cases k2b : d.ut ≤ 32767
  case neg =>
    go_wp2_with fail
    go_ret
    exact ⟨by rw [HC.out, show inB d.ut (-32768) 32767 = false by unfold inB; rw [decide_eq_false_iff_not]; omega]; rfl, hbw⟩
  rw [show inB d.ut (-32768) 32767 = true by unfold inB; rw [decide_eq_true_eq]; omega] at HC
  go_wp2_with fail
  refine (bodyFits1_any _ _).mono ?_
  rintro e w' ⟨rfl, rfl⟩
  cases k3 : inB d.p1 0 255
  · rw [k3] at HC
    refine goK (by assumption) (wpList_tail 76 2 false [(34, false), (31, true)] rfl (envCons rfl (envCons rfl envNil)) (by kernel_rfl) fun t' ht => ?_)
    go_wp2_with fail
    go_ret
    exact ⟨by rw [ht, HC.out]; rfl, hbw⟩
  rw [k3] at HC
  go_wp2_with fail
  refine (mayQ_any _ _ _ _).mono ?_
  rintro e v4 ⟨rfl, hb4⟩
  replace hbw := bnext hbw hb4
  replace hbz := bnext hbz hb4
  clear hb4 c8 c9 c10 c11 c12 c13 c14 c15 c16 c17 c18 c19 c20 c21 c22
  obtain ⟨c8, c9, c10, c11, c12, c13, c14, c15, c16, c17, c18, c19, c20, c21, c22⟩ := HD.out _ hbz
  cases k4 : mayQ d.qc d.qa d.qv
  · rw [k4] at HC
    refine goK (by assumption) (wpList_tail 76 2 false [(39, false), (36, true)] rfl (envCons rfl (envCons rfl envNil)) (by kernel_rfl) fun t' ht => ?_)
    go_wp2_with fail
    go_ret
    exact ⟨by rw [ht, HC.out]; rfl, hbw⟩
  rw [k4] at HC
  go_wp2_with fail
  refine (bodyFits1_any _ _).mono ?_
  rintro e w' ⟨rfl, rfl⟩
  cases k5 : inB d.p2 0 255
  · rw [k5] at HC
    refine goK (by assumption) (wpList_tail 76 2 false [(44, false), (41, true)] rfl (envCons rfl (envCons rfl envNil)) (by kernel_rfl) fun t' ht => ?_)
    go_wp2_with fail
    go_ret
    exact ⟨by rw [ht, HC.out]; rfl, hbw⟩
  rw [k5] at HC
  go_wp2_with fail
  refine (bodyFits2_any _ _).mono ?_
  rintro e w' ⟨rfl, rfl⟩
  cases k6 : inB d.sr 0 65535
  · rw [k6] at HC
    refine goK (by assumption) (wpList_tail 76 2 false [(49, false), (46, true)] rfl (envCons rfl (envCons rfl envNil)) (by kernel_rfl) fun t' ht => ?_)
    go_wp2_with fail
    go_ret
    exact ⟨by rw [ht, HC.out]; rfl, hbw⟩
  rw [k6] at HC
  go_wp2_with fail
  refine (bodyFits1_any _ _).mono ?_
  rintro e w' ⟨rfl, rfl⟩
  cases k7 : inB d.og 0 255
  · rw [k7] at HC
    refine goK (by assumption) (wpList_tail 76 2 false [(54, false), (51, true)] rfl (envCons rfl (envCons rfl envNil)) (by kernel_rfl) fun t' ht => ?_)
    go_wp2_with fail
    go_ret
    exact ⟨by rw [ht, HC.out]; rfl, hbw⟩
  rw [k7] at HC
  go_wp2_with fail
  refine (bodyFits1_any _ _).mono ?_
  rintro e w' ⟨rfl, rfl⟩
  cases k8 : inB d.sh 0 255
  · rw [k8] at HC
    refine goK (by assumption) (wpList_tail 76 2 false [(59, false), (56, true)] rfl (envCons rfl (envCons rfl envNil)) (by kernel_rfl) fun t' ht => ?_)
    go_wp2_with fail
    go_ret
    exact ⟨by rw [ht, HC.out]; rfl, hbw⟩
  rw [k8] at HC
  go_wp2_with fail
  refine (bodyFits1_any _ _).mono ?_
  rintro e w' ⟨rfl, rfl⟩
  cases k9 : inB d.hp 0 255
  · rw [k9] at HC
    refine goK (by assumption) (wpList_tail 76 2 false [(64, false), (61, true)] rfl (envCons rfl (envCons rfl envNil)) (by kernel_rfl) fun t' ht => ?_)
    go_wp2_with fail
    go_ret
    exact ⟨by rw [ht, HC.out]; rfl, hbw⟩
  rw [k9] at HC
  by_cases k10a : 0 ≤ d.ac
  case neg =>
    go_wp2_with fail
    go_ret
    exact ⟨by rw [HC.out, show inB d.ac (0) 15 = false by unfold inB; rw [decide_eq_false_iff_not]; omega]; rfl, hbw⟩
  rw [show inB d.ac 0 15 = decide (d.ac ≤ 15) by unfold inB; rw [Bool.eq_iff_iff, decide_eq_true_eq, decide_eq_true_eq]; omega] at HC
  go_wp2_with fail
  go_ret
  exact ⟨by rw [HC.out]; rfl, hbw⟩

end Go.Proofs.Ytohgpnlihfcecaa