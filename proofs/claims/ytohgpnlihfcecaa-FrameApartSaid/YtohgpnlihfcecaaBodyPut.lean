/- Package body: the bytes of a body (gen_bodyput.py). -/
import Derived.Test.YtohgpnlihfcecaaBody
import Derived.Test.YtohgpnlihfcecaaMsg3
import Derived.Test.YtohgpnlihfcecaaB5
import Derived.Test.YtohgpnlihfcecaaB4
import Derived.Test.YtohgpnlihfcecaaB1
namespace Go.Proofs.Ytohgpnlihfcecaa
open Go.RowKit Go.Proofs
set_option maxRecDepth 50000
set_option linter.unusedVariables false
set_option linter.unusedSimpArgs false

/-- What only an announce says, what only a management message says. -/
def annS (d : Bd) : List UInt8 := putS d.ut 2 ++ putS 0 1 ++ putS d.p1 1 ++ qualS d.qc d.qa d.qv ++ putS d.p2 1 ++ putN d.gr.toNat 8 ++ putS d.sr 2 ++ putS d.og 1
def manS (d : Bd) : List UInt8 := putS d.sh 1 ++ putS d.hp 1 ++ putS d.ac 1 ++ putS 0 1

/-- A body's bytes. -/
def ownS (t : Int) (d : Bd) : List UInt8 := if t = 2 then List.replicate 10 0 else if t = 11 then annS d else if t = 13 then manS d else []
def bodyS (t : Int) (d : Bd) : List UInt8 := (if stB t then stampS d.st else []) ++ (if tgB t then portS d.tc d.tp else []) ++ ownS t d

theorem annS_length (d : Bd) : (annS d).length = 20 := by
  unfold annS
  simp only [List.length_append, putS1, putS2, qualS_length, putN_length]

theorem manS_length (d : Bd) : (manS d).length = 4 := by
  unfold manS
  simp only [List.length_append, putS1]

theorem ownS_length (t : Int) (d : Bd) : ((ownS t d).length : Int) = ownI t := by
  unfold ownS ownI
  repeat' split
  · rw [List.length_replicate]; rfl
  · rw [annS_length]; rfl
  · rw [manS_length]; rfl
  · rfl

theorem bodyS_length (t : Int) (d : Bd) : ((bodyS t d).length : Int) = lenI t := by
  unfold bodyS lenI
  rw [List.length_append, List.length_append]
  have h := ownS_length t d
  have h1 : (if stB t then stampS d.st else []).length = if stB t then 10 else 0 := by split <;> first | exact stampS_length _ | rfl
  have h2 : (if tgB t then portS d.tc d.tp else []).length = if tgB t then 10 else 0 := by split <;> first | exact portS_length _ _ | rfl
  rw [h1, h2]
  cases stB t <;> cases tgB t <;> simp <;> omega

set_option maxRecDepth 100000 in
set_option maxHeartbeats 4000000 in
theorem putAnn_any (v : Value) (l : List UInt8) (h : Hd) (d : Bd) (w : World) (hB : Bytes w v l) (hl : l.length ≤ 140737488355000) (hgr : 0 ≤ d.gr) :
    Calls Try.prog 81 #[v, .agg (msgF h d).toArray] w (NewBytes w (l ++ annS d)) := by
  have HB := hid fun (w' : World) (h : Below w.heap.size w w') => hB.below h
  have Hl := hid hl
  have Hgr := hid hgr
  clear hB hl hgr
  go_enter Try.func81, Try.ntmps81
  go_upto_region 1 with fail
  obtain ⟨W, hWe, hbw, hBox⟩ := box_msg w (msgF h d)
  rw [← hWe]
  clear hWe
  have HD := hid hBox.bd
  have hb := Below.refl W.heap.size W
  obtain ⟨c8, c9, c10, c11, c12, c13, c14, c15, c16, c17, c18, c19, c20, c21, c22⟩ := HD.out _ hb
  go_wp2_with fail
  refine (put_any _ (l) d.ut 2 _ (HB.out _ hbw) (by have := Hl.out; omega)).mono ?_
  rintro e w0 ⟨x0, rfl, own0, hb0⟩
  replace hb := bnext hb hb0
  clear c8 c9 c10 c11 c12 c13 c14 c15 c16 c17 c18 c19 c20 c21 c22
  obtain ⟨c8, c9, c10, c11, c12, c13, c14, c15, c16, c17, c18, c19, c20, c21, c22⟩ := HD.out _ hb
  go_wp2_with fail
  refine (put_any _ (l ++ putS d.ut 2) 0 1 _ own0.bytes (by have := Hl.out; rw [List.length_append, putS2]; omega)).mono ?_
  rintro e w1 ⟨x1, rfl, own1, hb1⟩
  replace hb := bnext hb hb1
  clear c8 c9 c10 c11 c12 c13 c14 c15 c16 c17 c18 c19 c20 c21 c22
  obtain ⟨c8, c9, c10, c11, c12, c13, c14, c15, c16, c17, c18, c19, c20, c21, c22⟩ := HD.out _ hb
  go_wp2_with fail
  refine (put_any _ (l ++ putS d.ut 2 ++ putS 0 1) d.p1 1 _ own1.bytes (by have := Hl.out; rw [List.length_append, List.length_append, putS2, putS1]; omega)).mono ?_
  rintro e w2 ⟨x2, rfl, own2, hb2⟩
  replace hb := bnext hb hb2
  clear c8 c9 c10 c11 c12 c13 c14 c15 c16 c17 c18 c19 c20 c21 c22
  obtain ⟨c8, c9, c10, c11, c12, c13, c14, c15, c16, c17, c18, c19, c20, c21, c22⟩ := HD.out _ hb
  go_wp2_with fail
  refine (qualPut_any _ (l ++ putS d.ut 2 ++ putS 0 1 ++ putS d.p1 1) d.qc d.qa d.qv _ own2.bytes (by have := Hl.out; rw [List.length_append, List.length_append, List.length_append, putS2, putS1, putS1]; omega)).mono ?_
  rintro e w3 ⟨x3, rfl, own3, hb3⟩
  replace hb := bnext hb hb3
  clear c8 c9 c10 c11 c12 c13 c14 c15 c16 c17 c18 c19 c20 c21 c22
  obtain ⟨c8, c9, c10, c11, c12, c13, c14, c15, c16, c17, c18, c19, c20, c21, c22⟩ := HD.out _ hb
  go_wp2_with fail
  refine (put_any _ (l ++ putS d.ut 2 ++ putS 0 1 ++ putS d.p1 1 ++ qualS d.qc d.qa d.qv) d.p2 1 _ own3.bytes (by have := Hl.out; rw [List.length_append, List.length_append, List.length_append, List.length_append, putS2, putS1, putS1, qualS_length]; omega)).mono ?_
  rintro e w4 ⟨x4, rfl, own4, hb4⟩
  replace hb := bnext hb hb4
  clear c8 c9 c10 c11 c12 c13 c14 c15 c16 c17 c18 c19 c20 c21 c22
  obtain ⟨c8, c9, c10, c11, c12, c13, c14, c15, c16, c17, c18, c19, c20, c21, c22⟩ := HD.out _ hb
  go_wp2_with fail
  refine (putId_any _ (l ++ putS d.ut 2 ++ putS 0 1 ++ putS d.p1 1 ++ qualS d.qc d.qa d.qv ++ putS d.p2 1) d.gr _ own4.bytes (by have := Hl.out; rw [List.length_append, List.length_append, List.length_append, List.length_append, List.length_append, putS2, putS1, putS1, qualS_length, putS1]; omega) Hgr.out).mono ?_
  rintro e w5 ⟨x5, rfl, own5, hb5⟩
  replace hb := bnext hb hb5
  clear c8 c9 c10 c11 c12 c13 c14 c15 c16 c17 c18 c19 c20 c21 c22
  obtain ⟨c8, c9, c10, c11, c12, c13, c14, c15, c16, c17, c18, c19, c20, c21, c22⟩ := HD.out _ hb
  go_wp2_with fail
  refine (put_any _ (l ++ putS d.ut 2 ++ putS 0 1 ++ putS d.p1 1 ++ qualS d.qc d.qa d.qv ++ putS d.p2 1 ++ putN d.gr.toNat 8) d.sr 2 _ own5.bytes (by have := Hl.out; rw [List.length_append, List.length_append, List.length_append, List.length_append, List.length_append, List.length_append, putS2, putS1, putS1, qualS_length, putS1, putN_length]; omega)).mono ?_
  rintro e w6 ⟨x6, rfl, own6, hb6⟩
  replace hb := bnext hb hb6
  clear c8 c9 c10 c11 c12 c13 c14 c15 c16 c17 c18 c19 c20 c21 c22
  obtain ⟨c8, c9, c10, c11, c12, c13, c14, c15, c16, c17, c18, c19, c20, c21, c22⟩ := HD.out _ hb
  go_wp2_with fail
  refine (put_any _ (l ++ putS d.ut 2 ++ putS 0 1 ++ putS d.p1 1 ++ qualS d.qc d.qa d.qv ++ putS d.p2 1 ++ putN d.gr.toNat 8 ++ putS d.sr 2) d.og 1 _ own6.bytes (by have := Hl.out; rw [List.length_append, List.length_append, List.length_append, List.length_append, List.length_append, List.length_append, List.length_append, putS2, putS1, putS1, qualS_length, putS1, putN_length, putS2]; omega)).mono ?_
  rintro e w7 ⟨x7, rfl, own7, hb7⟩
  have HSZ := hid hb.size
  replace hb := bnext hb hb7
  clear c8 c9 c10 c11 c12 c13 c14 c15 c16 c17 c18 c19 c20 c21 c22
  obtain ⟨c8, c9, c10, c11, c12, c13, c14, c15, c16, c17, c18, c19, c20, c21, c22⟩ := HD.out _ hb
  go_wp2_with fail
  go_ret
  refine ⟨x7, rfl, ?_, bnext hbw hb⟩
  have e : l ++ annS d = l ++ putS d.ut 2 ++ putS 0 1 ++ putS d.p1 1 ++ qualS d.qc d.qa d.qv ++ putS d.p2 1 ++ putN d.gr.toNat 8 ++ putS d.sr 2 ++ putS d.og 1 := by unfold annS; simp only [List.append_assoc]
  rw [e]
  exact own7.mono (Nat.le_trans hbw.size (by first | exact Nat.le_refl _ | exact HSZ.out))

set_option maxRecDepth 100000 in
set_option maxHeartbeats 4000000 in
theorem putMan_any (v : Value) (l : List UInt8) (h : Hd) (d : Bd) (w : World) (hB : Bytes w v l) (hl : l.length ≤ 140737488355000) (hgr : 0 ≤ d.gr) :
    Calls Try.prog 82 #[v, .agg (msgF h d).toArray] w (NewBytes w (l ++ manS d)) := by
  have HB := hid fun (w' : World) (h : Below w.heap.size w w') => hB.below h
  have Hl := hid hl
  have Hgr := hid hgr
  clear hB hl hgr
  go_enter Try.func82, Try.ntmps82
  go_upto_region 1 with fail
  obtain ⟨W, hWe, hbw, hBox⟩ := box_msg w (msgF h d)
  rw [← hWe]
  clear hWe
  have HD := hid hBox.bd
  have hb := Below.refl W.heap.size W
  obtain ⟨c8, c9, c10, c11, c12, c13, c14, c15, c16, c17, c18, c19, c20, c21, c22⟩ := HD.out _ hb
  go_wp2_with fail
  refine (put_any _ (l) d.sh 1 _ (HB.out _ hbw) (by have := Hl.out; omega)).mono ?_
  rintro e w0 ⟨x0, rfl, own0, hb0⟩
  replace hb := bnext hb hb0
  clear c8 c9 c10 c11 c12 c13 c14 c15 c16 c17 c18 c19 c20 c21 c22
  obtain ⟨c8, c9, c10, c11, c12, c13, c14, c15, c16, c17, c18, c19, c20, c21, c22⟩ := HD.out _ hb
  go_wp2_with fail
  refine (put_any _ (l ++ putS d.sh 1) d.hp 1 _ own0.bytes (by have := Hl.out; rw [List.length_append, putS1]; omega)).mono ?_
  rintro e w1 ⟨x1, rfl, own1, hb1⟩
  replace hb := bnext hb hb1
  clear c8 c9 c10 c11 c12 c13 c14 c15 c16 c17 c18 c19 c20 c21 c22
  obtain ⟨c8, c9, c10, c11, c12, c13, c14, c15, c16, c17, c18, c19, c20, c21, c22⟩ := HD.out _ hb
  go_wp2_with fail
  refine (put_any _ (l ++ putS d.sh 1 ++ putS d.hp 1) d.ac 1 _ own1.bytes (by have := Hl.out; rw [List.length_append, List.length_append, putS1, putS1]; omega)).mono ?_
  rintro e w2 ⟨x2, rfl, own2, hb2⟩
  replace hb := bnext hb hb2
  clear c8 c9 c10 c11 c12 c13 c14 c15 c16 c17 c18 c19 c20 c21 c22
  obtain ⟨c8, c9, c10, c11, c12, c13, c14, c15, c16, c17, c18, c19, c20, c21, c22⟩ := HD.out _ hb
  go_wp2_with fail
  refine (put_any _ (l ++ putS d.sh 1 ++ putS d.hp 1 ++ putS d.ac 1) 0 1 _ own2.bytes (by have := Hl.out; rw [List.length_append, List.length_append, List.length_append, putS1, putS1, putS1]; omega)).mono ?_
  rintro e w3 ⟨x3, rfl, own3, hb3⟩
  have HSZ := hid hb.size
  replace hb := bnext hb hb3
  clear c8 c9 c10 c11 c12 c13 c14 c15 c16 c17 c18 c19 c20 c21 c22
  obtain ⟨c8, c9, c10, c11, c12, c13, c14, c15, c16, c17, c18, c19, c20, c21, c22⟩ := HD.out _ hb
  go_wp2_with fail
  go_ret
  refine ⟨x3, rfl, ?_, bnext hbw hb⟩
  have e : l ++ manS d = l ++ putS d.sh 1 ++ putS d.hp 1 ++ putS d.ac 1 ++ putS 0 1 := by unfold manS; simp only [List.append_assoc]
  rw [e]
  exact own3.mono (Nat.le_trans hbw.size (by first | exact Nat.le_refl _ | exact HSZ.out))

set_option maxRecDepth 100000 in
set_option maxHeartbeats 4000000 in
theorem said_S (h : Hd) (d : Bd) (w : World) (hgr : 0 ≤ d.gr) (htc : 0 ≤ d.tc) (hs : stB h.ty = true) (hg : tgB h.ty = false) (h11 : h.ty ≠ 11) (h13 : h.ty ≠ 13) (h2 : h.ty ≠ 2) :
    Calls Try.prog 37 #[.agg (msgF h d).toArray] w (NewBytes w (bodyS h.ty d)) := by
  have eS : bodyS h.ty d = [] ++ stampS d.st := by unfold bodyS ownS; simp [hs, hg, h2, h11, h13]
  rw [eS]
  clear eS
  have e2 : (h.ty == 2) = false := by rw [beq_eq_false_iff_ne]; omega
  have e11 : (h.ty == 11) = false := by rw [beq_eq_false_iff_ne]; omega
  have e13 : (h.ty == 13) = false := by rw [beq_eq_false_iff_ne]; omega
  clear h2 h11 h13
  have Hgr := hid hgr
  have Htc := hid htc
  clear hgr htc
  go_enter Try.func37, Try.ntmps37
  go_upto_region 1 with fail
  obtain ⟨W, hWe, hb, hM⟩ := box_msg w (msgF h d)
  rw [← hWe]
  clear hWe
  have c0 := hM.cell 0 _ rfl
  go_wp2_with fail
  refine (partsOf_any h.ty _).mono ?_
  rintro e w1 ⟨rfl, hb1⟩
  replace hM := hM.below hb1
  replace hb := bnext hb hb1
  clear hb1 c0
  unfold partsV
  rw [hs, hg]
  go_upto_region 3 with fail
  have hP := Box.new w1 [Value.bool true, Value.bool false, Value.int IntKind.i64 (ownI h.ty)] 83
  have hnb := bnew w1 (Obj.cells ([Value.bool true, Value.bool false, Value.int IntKind.i64 (ownI h.ty)] : List Value).toArray 83)
  replace hM := hM.below hnb
  replace hb := bnext hb hnb
  clear hnb
  generalize w1.alloc _ = W2 at *
  generalize w1.heap.size = GP at *
  have c0 := hM.cell 0 _ rfl
  have p0 := hP.cell 0 _ rfl
  have p1 := hP.cell 1 _ rfl
  have m8 := hM.cell 8 _ rfl
  have m9 := hM.cell 9 _ rfl
  have m10 := hM.cell 10 _ rfl
  go_wp2_with fail
  refine (stampPut_any _ ([]) d.st _ (Bytes.nil _) (by decide)).mono ?_
  rintro e w2 ⟨x1, rfl, own1, hb1⟩
  replace hM := hM.below hb1
  replace hP := hP.below hb1
  have hbs := hb.size
  replace hb := bnext hb hb1
  have own1 := (own1.mono hbs)
  clear c0 p0 p1 m8 m9 m10 hbs
  have c0 := hM.cell 0 _ rfl
  have p0 := hP.cell 0 _ rfl
  have p1 := hP.cell 1 _ rfl
  have m8 := hM.cell 8 _ rfl
  have m9 := hM.cell 9 _ rfl
  have m10 := hM.cell 10 _ rfl
  clear hb1
  go_wp2_with fail
  go_ret
  exact ⟨x1, rfl, own1, hb⟩

set_option maxRecDepth 100000 in
set_option maxHeartbeats 4000000 in
theorem said_P (h : Hd) (d : Bd) (w : World) (hgr : 0 ≤ d.gr) (htc : 0 ≤ d.tc) (h2 : h.ty = 2) :
    Calls Try.prog 37 #[.agg (msgF h d).toArray] w (NewBytes w (bodyS h.ty d)) := by
  have hs : stB h.ty = true := by rw [h2]; decide
  have hg : tgB h.ty = false := by rw [h2]; decide
  have h11 : h.ty ≠ 11 := by omega
  have h13 : h.ty ≠ 13 := by omega
  have eS : bodyS h.ty d = [] ++ stampS d.st ++ List.replicate 10 0 := by unfold bodyS ownS; simp [hs, hg, h2, h11, h13, show stB 2 = true by decide, show tgB 2 = false by decide]
  rw [eS]
  clear eS
  have e2 : (h.ty == 2) = true := by rw [beq_iff_eq]; omega
  have e11 : (h.ty == 11) = false := by rw [beq_eq_false_iff_ne]; omega
  have e13 : (h.ty == 13) = false := by rw [beq_eq_false_iff_ne]; omega
  clear h2 h11 h13
  have Hgr := hid hgr
  have Htc := hid htc
  clear hgr htc
  go_enter Try.func37, Try.ntmps37
  go_upto_region 1 with fail
  obtain ⟨W, hWe, hb, hM⟩ := box_msg w (msgF h d)
  rw [← hWe]
  clear hWe
  have c0 := hM.cell 0 _ rfl
  go_wp2_with fail
  refine (partsOf_any h.ty _).mono ?_
  rintro e w1 ⟨rfl, hb1⟩
  replace hM := hM.below hb1
  replace hb := bnext hb hb1
  clear hb1 c0
  unfold partsV
  rw [hs, hg]
  go_upto_region 3 with fail
  have hP := Box.new w1 [Value.bool true, Value.bool false, Value.int IntKind.i64 (ownI h.ty)] 83
  have hnb := bnew w1 (Obj.cells ([Value.bool true, Value.bool false, Value.int IntKind.i64 (ownI h.ty)] : List Value).toArray 83)
  replace hM := hM.below hnb
  replace hb := bnext hb hnb
  clear hnb
  generalize w1.alloc _ = W2 at *
  generalize w1.heap.size = GP at *
  have c0 := hM.cell 0 _ rfl
  have p0 := hP.cell 0 _ rfl
  have p1 := hP.cell 1 _ rfl
  have m8 := hM.cell 8 _ rfl
  have m9 := hM.cell 9 _ rfl
  have m10 := hM.cell 10 _ rfl
  go_wp2_with fail
  refine (stampPut_any _ ([]) d.st _ (Bytes.nil _) (by decide)).mono ?_
  rintro e w2 ⟨x1, rfl, own1, hb1⟩
  replace hM := hM.below hb1
  replace hP := hP.below hb1
  have hbs := hb.size
  replace hb := bnext hb hb1
  have own1 := (own1.mono hbs)
  clear c0 p0 p1 m8 m9 m10 hbs
  have c0 := hM.cell 0 _ rfl
  have p0 := hP.cell 0 _ rfl
  have p1 := hP.cell 1 _ rfl
  have m8 := hM.cell 8 _ rfl
  have m9 := hM.cell 9 _ rfl
  have m10 := hM.cell 10 _ rfl
  clear hb1
  have hln : ([] ++ stampS d.st : List UInt8).length = 10 := by rw [List.nil_append, stampS_length]
  have hl0 : 0 < ([] ++ stampS d.st : List UInt8).length := by rw [hln]; decide
  have hsm : ([] ++ stampS d.st : List UInt8).length + 10 ≤ 1000000 := by rw [hln]; decide
  have hbs := hb.size
  have Hln := hid hln
  clear hln
  go_wp2_with (at_builtin; refine wpList_append_zeros (o := ⟨some 25, _, _, _, _, _⟩) rfl _ _ rfl rfl w.heap.size _ ([] ++ stampS d.st) 10 _ rfl rfl ?_ own1 hl0 hsm hbs ?_; rfl; intro v' w3 own3 hb3)
  go_ret
  exact ⟨v', rfl, own3, hb.trans hb3⟩

set_option maxRecDepth 100000 in
set_option maxHeartbeats 4000000 in
theorem said_B (h : Hd) (d : Bd) (w : World) (hgr : 0 ≤ d.gr) (htc : 0 ≤ d.tc) (hs : stB h.ty = true) (hg : tgB h.ty = true) (h11 : h.ty ≠ 11) (h13 : h.ty ≠ 13) :
    Calls Try.prog 37 #[.agg (msgF h d).toArray] w (NewBytes w (bodyS h.ty d)) := by
  have h2 : h.ty ≠ 2 := by intro e; rw [e] at hg; exact absurd hg (by decide)
  have eS : bodyS h.ty d = [] ++ stampS d.st ++ portS d.tc d.tp := by unfold bodyS ownS; simp [hs, hg, h2, h11, h13]
  rw [eS]
  clear eS
  have e2 : (h.ty == 2) = false := by rw [beq_eq_false_iff_ne]; omega
  have e11 : (h.ty == 11) = false := by rw [beq_eq_false_iff_ne]; omega
  have e13 : (h.ty == 13) = false := by rw [beq_eq_false_iff_ne]; omega
  clear h2 h11 h13
  have Hgr := hid hgr
  have Htc := hid htc
  clear hgr htc
  go_enter Try.func37, Try.ntmps37
  go_upto_region 1 with fail
  obtain ⟨W, hWe, hb, hM⟩ := box_msg w (msgF h d)
  rw [← hWe]
  clear hWe
  have c0 := hM.cell 0 _ rfl
  go_wp2_with fail
  refine (partsOf_any h.ty _).mono ?_
  rintro e w1 ⟨rfl, hb1⟩
  replace hM := hM.below hb1
  replace hb := bnext hb hb1
  clear hb1 c0
  unfold partsV
  rw [hs, hg]
  go_upto_region 3 with fail
  have hP := Box.new w1 [Value.bool true, Value.bool true, Value.int IntKind.i64 (ownI h.ty)] 83
  have hnb := bnew w1 (Obj.cells ([Value.bool true, Value.bool true, Value.int IntKind.i64 (ownI h.ty)] : List Value).toArray 83)
  replace hM := hM.below hnb
  replace hb := bnext hb hnb
  clear hnb
  generalize w1.alloc _ = W2 at *
  generalize w1.heap.size = GP at *
  have c0 := hM.cell 0 _ rfl
  have p0 := hP.cell 0 _ rfl
  have p1 := hP.cell 1 _ rfl
  have m8 := hM.cell 8 _ rfl
  have m9 := hM.cell 9 _ rfl
  have m10 := hM.cell 10 _ rfl
  go_wp2_with fail
  refine (stampPut_any _ ([]) d.st _ (Bytes.nil _) (by decide)).mono ?_
  rintro e w2 ⟨x1, rfl, own1, hb1⟩
  replace hM := hM.below hb1
  replace hP := hP.below hb1
  have hbs := hb.size
  replace hb := bnext hb hb1
  have own1 := (own1.mono hbs)
  clear c0 p0 p1 m8 m9 m10 hbs
  have c0 := hM.cell 0 _ rfl
  have p0 := hP.cell 0 _ rfl
  have p1 := hP.cell 1 _ rfl
  have m8 := hM.cell 8 _ rfl
  have m9 := hM.cell 9 _ rfl
  have m10 := hM.cell 10 _ rfl
  clear hb1
  go_wp2_with fail
  refine (identPut_any _ ([] ++ stampS d.st) d.tc d.tp _ own1.bytes (by rw [List.length_append, stampS_length]; decide) Htc.out).mono ?_
  rintro e w3 ⟨x2, rfl, own2, hb2⟩
  replace hM := hM.below hb2
  replace hP := hP.below hb2
  have hbs := hb.size
  replace hb := bnext hb hb2
  have own2 := (own2.mono hbs)
  clear c0 p0 p1 m8 m9 m10 hbs
  have c0 := hM.cell 0 _ rfl
  have p0 := hP.cell 0 _ rfl
  have p1 := hP.cell 1 _ rfl
  have m8 := hM.cell 8 _ rfl
  have m9 := hM.cell 9 _ rfl
  have m10 := hM.cell 10 _ rfl
  clear hb2
  go_wp2_with fail
  go_ret
  exact ⟨x2, rfl, own2, hb⟩

set_option maxRecDepth 100000 in
set_option maxHeartbeats 4000000 in
theorem said_A (h : Hd) (d : Bd) (w : World) (hgr : 0 ≤ d.gr) (htc : 0 ≤ d.tc) (h11 : h.ty = 11) :
    Calls Try.prog 37 #[.agg (msgF h d).toArray] w (NewBytes w (bodyS h.ty d)) := by
  have hs : stB h.ty = true := by rw [h11]; decide
  have hg : tgB h.ty = false := by rw [h11]; decide
  have h13 : h.ty ≠ 13 := by omega
  have h2 : h.ty ≠ 2 := by omega
  have eS : bodyS h.ty d = [] ++ stampS d.st ++ annS d := by unfold bodyS ownS; simp [hs, hg, h2, h11, h13, show stB 11 = true by decide, show tgB 11 = false by decide]
  rw [eS]
  clear eS
  have e2 : (h.ty == 2) = false := by rw [beq_eq_false_iff_ne]; omega
  have e11 : (h.ty == 11) = true := by rw [beq_iff_eq]; omega
  have e13 : (h.ty == 13) = false := by rw [beq_eq_false_iff_ne]; omega
  clear h2 h11 h13
  have Hgr := hid hgr
  have Htc := hid htc
  clear hgr htc
  go_enter Try.func37, Try.ntmps37
  go_upto_region 1 with fail
  obtain ⟨W, hWe, hb, hM⟩ := box_msg w (msgF h d)
  rw [← hWe]
  clear hWe
  have c0 := hM.cell 0 _ rfl
  go_wp2_with fail
  refine (partsOf_any h.ty _).mono ?_
  rintro e w1 ⟨rfl, hb1⟩
  replace hM := hM.below hb1
  replace hb := bnext hb hb1
  clear hb1 c0
  unfold partsV
  rw [hs, hg]
  go_upto_region 3 with fail
  have hP := Box.new w1 [Value.bool true, Value.bool false, Value.int IntKind.i64 (ownI h.ty)] 83
  have hnb := bnew w1 (Obj.cells ([Value.bool true, Value.bool false, Value.int IntKind.i64 (ownI h.ty)] : List Value).toArray 83)
  replace hM := hM.below hnb
  replace hb := bnext hb hnb
  clear hnb
  generalize w1.alloc _ = W2 at *
  generalize w1.heap.size = GP at *
  have c0 := hM.cell 0 _ rfl
  have p0 := hP.cell 0 _ rfl
  have p1 := hP.cell 1 _ rfl
  have m8 := hM.cell 8 _ rfl
  have m9 := hM.cell 9 _ rfl
  have m10 := hM.cell 10 _ rfl
  go_wp2_with fail
  refine (stampPut_any _ ([]) d.st _ (Bytes.nil _) (by decide)).mono ?_
  rintro e w2 ⟨x1, rfl, own1, hb1⟩
  replace hM := hM.below hb1
  replace hP := hP.below hb1
  have hbs := hb.size
  replace hb := bnext hb hb1
  have own1 := (own1.mono hbs)
  clear c0 p0 p1 m8 m9 m10 hbs
  have c0 := hM.cell 0 _ rfl
  have p0 := hP.cell 0 _ rfl
  have p1 := hP.cell 1 _ rfl
  have m8 := hM.cell 8 _ rfl
  have m9 := hM.cell 9 _ rfl
  have m10 := hM.cell 10 _ rfl
  clear hb1
  go_wp2_with (guard_target =~ wpList _ _ _ (⟨some 29, _, _, _, _, _⟩ :: _) _ _; refine wpList_load_msg (op := ⟨some 29, .load _ _, _, _, _, _⟩) (by rfl) _ (by rfl) w.heap.size (by rfl) (msgF h d) _ hM (msgF_length _ _) ?_)
  refine (putAnn_any _ ([] ++ stampS d.st) h d _ own1.bytes (by rw [List.length_append, stampS_length]; decide) Hgr.out).mono ?_
  rintro e w3 ⟨x2, rfl, own2, hb2⟩
  replace hM := hM.below hb2
  replace hP := hP.below hb2
  have hbs := hb.size
  replace hb := bnext hb hb2
  have own2 := (own2.mono hbs)
  clear c0 p0 p1 m8 m9 m10 hbs
  have c0 := hM.cell 0 _ rfl
  have p0 := hP.cell 0 _ rfl
  have p1 := hP.cell 1 _ rfl
  have m8 := hM.cell 8 _ rfl
  have m9 := hM.cell 9 _ rfl
  have m10 := hM.cell 10 _ rfl
  clear hb2
  go_wp2_with fail
  go_ret
  exact ⟨x2, rfl, own2, hb⟩

set_option maxRecDepth 100000 in
set_option maxHeartbeats 4000000 in
theorem said_G (h : Hd) (d : Bd) (w : World) (hgr : 0 ≤ d.gr) (htc : 0 ≤ d.tc) (hs : stB h.ty = false) (hg : tgB h.ty = true) (h11 : h.ty ≠ 11) (h13 : h.ty ≠ 13) :
    Calls Try.prog 37 #[.agg (msgF h d).toArray] w (NewBytes w (bodyS h.ty d)) := by
  have h2 : h.ty ≠ 2 := by intro e; rw [e] at hg; exact absurd hg (by decide)
  have eS : bodyS h.ty d = [] ++ portS d.tc d.tp := by unfold bodyS ownS; simp [hs, hg, h2, h11, h13]
  rw [eS]
  clear eS
  have e2 : (h.ty == 2) = false := by rw [beq_eq_false_iff_ne]; omega
  have e11 : (h.ty == 11) = false := by rw [beq_eq_false_iff_ne]; omega
  have e13 : (h.ty == 13) = false := by rw [beq_eq_false_iff_ne]; omega
  clear h2 h11 h13
  have Hgr := hid hgr
  have Htc := hid htc
  clear hgr htc
  go_enter Try.func37, Try.ntmps37
  go_upto_region 1 with fail
  obtain ⟨W, hWe, hb, hM⟩ := box_msg w (msgF h d)
  rw [← hWe]
  clear hWe
  have c0 := hM.cell 0 _ rfl
  go_wp2_with fail
  refine (partsOf_any h.ty _).mono ?_
  rintro e w1 ⟨rfl, hb1⟩
  replace hM := hM.below hb1
  replace hb := bnext hb hb1
  clear hb1 c0
  unfold partsV
  rw [hs, hg]
  go_upto_region 3 with fail
  have hP := Box.new w1 [Value.bool false, Value.bool true, Value.int IntKind.i64 (ownI h.ty)] 83
  have hnb := bnew w1 (Obj.cells ([Value.bool false, Value.bool true, Value.int IntKind.i64 (ownI h.ty)] : List Value).toArray 83)
  replace hM := hM.below hnb
  replace hb := bnext hb hnb
  clear hnb
  generalize w1.alloc _ = W2 at *
  generalize w1.heap.size = GP at *
  have c0 := hM.cell 0 _ rfl
  have p0 := hP.cell 0 _ rfl
  have p1 := hP.cell 1 _ rfl
  have m8 := hM.cell 8 _ rfl
  have m9 := hM.cell 9 _ rfl
  have m10 := hM.cell 10 _ rfl
  go_wp2_with fail
  refine (identPut_any _ ([]) d.tc d.tp _ (Bytes.nil _) (by decide) Htc.out).mono ?_
  rintro e w2 ⟨x1, rfl, own1, hb1⟩
  replace hM := hM.below hb1
  replace hP := hP.below hb1
  have hbs := hb.size
  replace hb := bnext hb hb1
  have own1 := (own1.mono hbs)
  clear c0 p0 p1 m8 m9 m10 hbs
  have c0 := hM.cell 0 _ rfl
  have p0 := hP.cell 0 _ rfl
  have p1 := hP.cell 1 _ rfl
  have m8 := hM.cell 8 _ rfl
  have m9 := hM.cell 9 _ rfl
  have m10 := hM.cell 10 _ rfl
  clear hb1
  go_wp2_with fail
  go_ret
  exact ⟨x1, rfl, own1, hb⟩

set_option maxRecDepth 100000 in
set_option maxHeartbeats 4000000 in
theorem said_M (h : Hd) (d : Bd) (w : World) (hgr : 0 ≤ d.gr) (htc : 0 ≤ d.tc) (h13 : h.ty = 13) :
    Calls Try.prog 37 #[.agg (msgF h d).toArray] w (NewBytes w (bodyS h.ty d)) := by
  have hs : stB h.ty = false := by rw [h13]; decide
  have hg : tgB h.ty = true := by rw [h13]; decide
  have h11 : h.ty ≠ 11 := by omega
  have h2 : h.ty ≠ 2 := by omega
  have eS : bodyS h.ty d = [] ++ portS d.tc d.tp ++ manS d := by unfold bodyS ownS; simp [hs, hg, h2, h11, h13, show stB 13 = false by decide, show tgB 13 = true by decide]
  rw [eS]
  clear eS
  have e2 : (h.ty == 2) = false := by rw [beq_eq_false_iff_ne]; omega
  have e11 : (h.ty == 11) = false := by rw [beq_eq_false_iff_ne]; omega
  have e13 : (h.ty == 13) = true := by rw [beq_iff_eq]; omega
  clear h2 h11 h13
  have Hgr := hid hgr
  have Htc := hid htc
  clear hgr htc
  go_enter Try.func37, Try.ntmps37
  go_upto_region 1 with fail
  obtain ⟨W, hWe, hb, hM⟩ := box_msg w (msgF h d)
  rw [← hWe]
  clear hWe
  have c0 := hM.cell 0 _ rfl
  go_wp2_with fail
  refine (partsOf_any h.ty _).mono ?_
  rintro e w1 ⟨rfl, hb1⟩
  replace hM := hM.below hb1
  replace hb := bnext hb hb1
  clear hb1 c0
  unfold partsV
  rw [hs, hg]
  go_upto_region 3 with fail
  have hP := Box.new w1 [Value.bool false, Value.bool true, Value.int IntKind.i64 (ownI h.ty)] 83
  have hnb := bnew w1 (Obj.cells ([Value.bool false, Value.bool true, Value.int IntKind.i64 (ownI h.ty)] : List Value).toArray 83)
  replace hM := hM.below hnb
  replace hb := bnext hb hnb
  clear hnb
  generalize w1.alloc _ = W2 at *
  generalize w1.heap.size = GP at *
  have c0 := hM.cell 0 _ rfl
  have p0 := hP.cell 0 _ rfl
  have p1 := hP.cell 1 _ rfl
  have m8 := hM.cell 8 _ rfl
  have m9 := hM.cell 9 _ rfl
  have m10 := hM.cell 10 _ rfl
  go_wp2_with fail
  refine (identPut_any _ ([]) d.tc d.tp _ (Bytes.nil _) (by decide) Htc.out).mono ?_
  rintro e w2 ⟨x1, rfl, own1, hb1⟩
  replace hM := hM.below hb1
  replace hP := hP.below hb1
  have hbs := hb.size
  replace hb := bnext hb hb1
  have own1 := (own1.mono hbs)
  clear c0 p0 p1 m8 m9 m10 hbs
  have c0 := hM.cell 0 _ rfl
  have p0 := hP.cell 0 _ rfl
  have p1 := hP.cell 1 _ rfl
  have m8 := hM.cell 8 _ rfl
  have m9 := hM.cell 9 _ rfl
  have m10 := hM.cell 10 _ rfl
  clear hb1
  go_wp2_with (guard_target =~ wpList _ _ _ (⟨some 34, _, _, _, _, _⟩ :: _) _ _; refine wpList_load_msg (op := ⟨some 34, .load _ _, _, _, _, _⟩) (by rfl) _ (by rfl) w.heap.size (by rfl) (msgF h d) _ hM (msgF_length _ _) ?_)
  refine (putMan_any _ ([] ++ portS d.tc d.tp) h d _ own1.bytes (by rw [List.length_append, portS_length]; decide) Hgr.out).mono ?_
  rintro e w3 ⟨x2, rfl, own2, hb2⟩
  replace hM := hM.below hb2
  replace hP := hP.below hb2
  have hbs := hb.size
  replace hb := bnext hb hb2
  have own2 := (own2.mono hbs)
  clear c0 p0 p1 m8 m9 m10 hbs
  have c0 := hM.cell 0 _ rfl
  have p0 := hP.cell 0 _ rfl
  have p1 := hP.cell 1 _ rfl
  have m8 := hM.cell 8 _ rfl
  have m9 := hM.cell 9 _ rfl
  have m10 := hM.cell 10 _ rfl
  clear hb2
  go_wp2_with fail
  go_ret
  exact ⟨x2, rfl, own2, hb⟩

theorem said_any (h : Hd) (d : Bd) (w : World) (hk : knownB h.ty = true) (hgr : 0 ≤ d.gr) (htc : 0 ≤ d.tc) :
    Calls Try.prog 37 #[.agg (msgF h d).toArray] w (NewBytes w (bodyS h.ty d)) := by
  rcases kinds h.ty with ⟨h1, h2, h3, h4⟩ | ⟨h1, h2, h3, h4⟩ | ⟨h1, h2, h3, h4⟩ | h1 | ⟨h1, h2, h3, h4⟩ | h1
  · rcases known_or hk with h | h | h | h | h | h | h | h | h | h <;> rw [h] at h1 h2 h3 h4 <;> first | exact absurd h1 (by decide) | exact absurd h2 (by decide) | omega
  · by_cases h5 : h.ty = 2
    · exact said_P h d w hgr htc h5
    · exact said_S h d w hgr htc h1 h2 h3 h4 h5
  · exact said_B h d w hgr htc h1 h2 h3 h4
  · exact said_A h d w hgr htc h1
  · exact said_G h d w hgr htc h1 h2 h3 h4
  · exact said_M h d w hgr htc h1

end Go.Proofs.Ytohgpnlihfcecaa