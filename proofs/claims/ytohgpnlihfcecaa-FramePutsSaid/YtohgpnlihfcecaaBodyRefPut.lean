/- The document's own Put of chapter 7 (gen_bodyrefput.py). -/
import Derived.Test.YtohgpnlihfcecaaBodyPut
import Derived.Test.YtohgpnlihfcecaaB3
import Derived.Test.YtohgpnlihfcecaaB5
import Derived.Test.YtohgpnlihfcecaaB4
namespace Go.Proofs.Ytohgpnlihfcecaa
open Go.RowKit Go.Proofs
set_option maxRecDepth 50000
set_option linter.unusedVariables false
set_option linter.unusedSimpArgs false

/-- A number's lowest byte. -/
def lowB (x : Int) : UInt8 := UInt8.ofNat (x % 18446744073709551616).toNat

theorem putS_low (x : Int) : putS x 1 = [lowB x] := by
  unfold putS lowB
  rw [show (min (max (1 : Int) 0) 8).toNat = 1 by decide]
  simp [putN]

theorem lowB_val (x : Int) : x % 256 = ((lowB x).toNat : Int) := by
  unfold lowB
  rw [UInt8.toNat_ofNat']
  omega

theorem lowB_wrap (x : Int) : IntKind.u8.wrap x = ((lowB x).toNat : Int) := by
  rw [← lowB_val]
  unfold IntKind.wrap
  simp [IntKind.signed, IntKind.bits]

theorem putS_zero1 : putS 0 1 = [0] := by decide +kernel

set_option maxRecDepth 100000 in
set_option maxHeartbeats 8000000 in
theorem refBodyPut_S (h : Hd) (d : Bd) (w : World) (hk : knownB h.ty = true) (hgr : 0 ≤ d.gr) (hgr2 : d.gr < 18446744073709551616) (htc : 0 ≤ d.tc) (htc2 : d.tc < 18446744073709551616) (hs : stB h.ty = true) (hg : tgB h.ty = false) (h11 : h.ty ≠ 11) (h13 : h.ty ≠ 13) (h2 : h.ty ≠ 2) :
    Calls Try.prog 27 #[.agg (msgF h d).toArray] w (NewBytes w (bodyS h.ty d)) := by
  have eS : bodyS h.ty d = [] ++ stampS d.st := by unfold bodyS ownS; simp [hs, hg, h2, h11, h13]
  rw [eS]
  clear eS
  have e2 : (h.ty == 2) = false := by rw [beq_eq_false_iff_ne]; omega
  have e11 : (h.ty == 11) = false := by rw [beq_eq_false_iff_ne]; omega
  have e13 : (h.ty == 13) = false := by rw [beq_eq_false_iff_ne]; omega
  clear h2 h11 h13
  have Hgr := hid hgr
  have Htc := hid htc
  have Hgr2 := hid hgr2
  have Htc2 := hid htc2
  have HK := hid hk
  clear hgr htc hgr2 htc2 hk
  go_enter Try.func27, Try.ntmps27
  go_upto_region 1 with fail
  obtain ⟨W, hWe, hbw, hM⟩ := box_msg w (msgF h d)
  rw [← hWe]
  clear hWe
  have HM := hid fun (wx : World) (hx : Below W.heap.size W wx) => (hM.hd wx hx).1
  have HD := hid hM.bd
  clear hM
  have hb := Below.refl W.heap.size W
  have own0 := Own.nil W W.heap.size
  have c0 := HM.out _ hb
  go_wp2_with fail
  refine (stamped_known _ _ HK.out).mono ?_
  rintro e w' ⟨rfl, rfl⟩
  rw [hs]
  obtain ⟨c8, c9, c10, c11, c12, c13, c14, c15, c16, c17, c18, c19, c20, c21, c22⟩ := HD.out _ hb
  have len0 : ([] : List UInt8).length = 0 := rfl
  go_wp2_with fail
  refine (refStampPut_any _ _).mono ?_
  rintro e wa0 ⟨xa0, rfl, ownx, hbx⟩
  have hB := (bnext hb hbx).size
  go_upto_region 4 with (at_builtin; refine wpList_append_bytes (o := ⟨some 11, _, _, _, _, _⟩) rfl _ _ rfl rfl W.heap.size _ _ ([]) (stampS d.st) rfl rfl (own0.below hbx) ownx.bytes ?_ hB ?_; (rw [len0, stampS_length]; decide); intro v0 wk0 own1 hbel0)
  replace hb := (bnext hb hbx).trans hbel0
  clear ownx hbx hbel0 hB own0 c0 c8 c9 c10 c11 c12 c13 c14 c15 c16 c17 c18 c19 c20 c21 c22
  have len1 : ([] ++ stampS d.st).length = 10 := by rw [List.length_append, len0, stampS_length]
  clear len0
  have c0 := HM.out _ hb
  obtain ⟨c8, c9, c10, c11, c12, c13, c14, c15, c16, c17, c18, c19, c20, c21, c22⟩ := HD.out _ hb
  go_wp2_with fail
  refine (targeted_known _ _ HK.out).mono ?_
  rintro e w' ⟨rfl, rfl⟩
  rw [hg]
  go_wp2_with fail
  go_ret
  exact ⟨v0, rfl, own1.mono hbw.size, bnext hbw hb⟩

set_option maxRecDepth 100000 in
set_option maxHeartbeats 8000000 in
theorem refBodyPut_P (h : Hd) (d : Bd) (w : World) (hk : knownB h.ty = true) (hgr : 0 ≤ d.gr) (hgr2 : d.gr < 18446744073709551616) (htc : 0 ≤ d.tc) (htc2 : d.tc < 18446744073709551616) (h2 : h.ty = 2) :
    Calls Try.prog 27 #[.agg (msgF h d).toArray] w (NewBytes w (bodyS h.ty d)) := by
  have hs : stB h.ty = true := by rw [h2]; decide
  have hg : tgB h.ty = false := by rw [h2]; decide
  have h11 : h.ty ≠ 11 := by omega
  have h13 : h.ty ≠ 13 := by omega
  have eS : bodyS h.ty d = [] ++ stampS d.st ++ List.replicate 10 0 := by unfold bodyS ownS; simp [hs, hg, h2, h11, h13, show stB 2 = true by decide, show tgB 2 = false by decide]
  rw [eS]
  clear eS
  have e2 : (h.ty == 2) = true := by rw [beq_iff_eq]; omega
  have e11 : (h.ty == 11) = false := by rw [beq_eq_false_iff_ne]; omega
  have e13 : (h.ty == 13) = false := by rw [beq_eq_false_iff_ne]; omega
  clear h2 h11 h13
  have Hgr := hid hgr
  have Htc := hid htc
  have Hgr2 := hid hgr2
  have Htc2 := hid htc2
  have HK := hid hk
  clear hgr htc hgr2 htc2 hk
  go_enter Try.func27, Try.ntmps27
  go_upto_region 1 with fail
  obtain ⟨W, hWe, hbw, hM⟩ := box_msg w (msgF h d)
  rw [← hWe]
  clear hWe
  have HM := hid fun (wx : World) (hx : Below W.heap.size W wx) => (hM.hd wx hx).1
  have HD := hid hM.bd
  clear hM
  have hb := Below.refl W.heap.size W
  have own0 := Own.nil W W.heap.size
  have c0 := HM.out _ hb
  go_wp2_with fail
  refine (stamped_known _ _ HK.out).mono ?_
  rintro e w' ⟨rfl, rfl⟩
  rw [hs]
  obtain ⟨c8, c9, c10, c11, c12, c13, c14, c15, c16, c17, c18, c19, c20, c21, c22⟩ := HD.out _ hb
  have len0 : ([] : List UInt8).length = 0 := rfl
  go_wp2_with fail
  refine (refStampPut_any _ _).mono ?_
  rintro e wa0 ⟨xa0, rfl, ownx, hbx⟩
  have hB := (bnext hb hbx).size
  go_upto_region 4 with (at_builtin; refine wpList_append_bytes (o := ⟨some 11, _, _, _, _, _⟩) rfl _ _ rfl rfl W.heap.size _ _ ([]) (stampS d.st) rfl rfl (own0.below hbx) ownx.bytes ?_ hB ?_; (rw [len0, stampS_length]; decide); intro v0 wk0 own1 hbel0)
  replace hb := (bnext hb hbx).trans hbel0
  clear ownx hbx hbel0 hB own0 c0 c8 c9 c10 c11 c12 c13 c14 c15 c16 c17 c18 c19 c20 c21 c22
  have len1 : ([] ++ stampS d.st).length = 10 := by rw [List.length_append, len0, stampS_length]
  clear len0
  have c0 := HM.out _ hb
  obtain ⟨c8, c9, c10, c11, c12, c13, c14, c15, c16, c17, c18, c19, c20, c21, c22⟩ := HD.out _ hb
  go_wp2_with fail
  refine (targeted_known _ _ HK.out).mono ?_
  rintro e w' ⟨rfl, rfl⟩
  rw [hg]
  have hl0 : 0 < ([] ++ stampS d.st).length := by rw [len1]; decide
  have hsm : ([] ++ stampS d.st).length + 10 ≤ 1000000 := by rw [len1]; decide
  have hB := hb.size
  have HLn := hid len1
  clear len1
  go_wp2_with (at_builtin; refine wpList_append_zeros (o := ⟨some 25, _, _, _, _, _⟩) rfl _ _ rfl rfl W.heap.size _ ([] ++ stampS d.st) 10 _ rfl rfl ?_ own1 hl0 hsm hB ?_; rfl; intro v' w3 own3 hb3)
  go_ret
  exact ⟨v', rfl, own3.mono hbw.size, bnext hbw (hb.trans hb3)⟩

set_option maxRecDepth 100000 in
set_option maxHeartbeats 8000000 in
theorem refBodyPut_B (h : Hd) (d : Bd) (w : World) (hk : knownB h.ty = true) (hgr : 0 ≤ d.gr) (hgr2 : d.gr < 18446744073709551616) (htc : 0 ≤ d.tc) (htc2 : d.tc < 18446744073709551616) (hs : stB h.ty = true) (hg : tgB h.ty = true) (h11 : h.ty ≠ 11) (h13 : h.ty ≠ 13) :
    Calls Try.prog 27 #[.agg (msgF h d).toArray] w (NewBytes w (bodyS h.ty d)) := by
  have h2 : h.ty ≠ 2 := by intro e; rw [e] at hg; exact absurd hg (by decide)
  have eS : bodyS h.ty d = [] ++ stampS d.st ++ portS d.tc d.tp := by unfold bodyS ownS; simp [hs, hg, h2, h11, h13]
  rw [eS]
  clear eS
  have e2 : (h.ty == 2) = false := by rw [beq_eq_false_iff_ne]; omega
  have e11 : (h.ty == 11) = false := by rw [beq_eq_false_iff_ne]; omega
  have e13 : (h.ty == 13) = false := by rw [beq_eq_false_iff_ne]; omega
  clear h2 h11 h13
  have Hgr := hid hgr
  have Htc := hid htc
  have Hgr2 := hid hgr2
  have Htc2 := hid htc2
  have HK := hid hk
  clear hgr htc hgr2 htc2 hk
  go_enter Try.func27, Try.ntmps27
  go_upto_region 1 with fail
  obtain ⟨W, hWe, hbw, hM⟩ := box_msg w (msgF h d)
  rw [← hWe]
  clear hWe
  have HM := hid fun (wx : World) (hx : Below W.heap.size W wx) => (hM.hd wx hx).1
  have HD := hid hM.bd
  clear hM
  have hb := Below.refl W.heap.size W
  have own0 := Own.nil W W.heap.size
  have c0 := HM.out _ hb
  go_wp2_with fail
  refine (stamped_known _ _ HK.out).mono ?_
  rintro e w' ⟨rfl, rfl⟩
  rw [hs]
  obtain ⟨c8, c9, c10, c11, c12, c13, c14, c15, c16, c17, c18, c19, c20, c21, c22⟩ := HD.out _ hb
  have len0 : ([] : List UInt8).length = 0 := rfl
  go_wp2_with fail
  refine (refStampPut_any _ _).mono ?_
  rintro e wa0 ⟨xa0, rfl, ownx, hbx⟩
  have hB := (bnext hb hbx).size
  go_upto_region 4 with (at_builtin; refine wpList_append_bytes (o := ⟨some 11, _, _, _, _, _⟩) rfl _ _ rfl rfl W.heap.size _ _ ([]) (stampS d.st) rfl rfl (own0.below hbx) ownx.bytes ?_ hB ?_; (rw [len0, stampS_length]; decide); intro v0 wk0 own1 hbel0)
  replace hb := (bnext hb hbx).trans hbel0
  clear ownx hbx hbel0 hB own0 c0 c8 c9 c10 c11 c12 c13 c14 c15 c16 c17 c18 c19 c20 c21 c22
  have len1 : ([] ++ stampS d.st).length = 10 := by rw [List.length_append, len0, stampS_length]
  clear len0
  have c0 := HM.out _ hb
  obtain ⟨c8, c9, c10, c11, c12, c13, c14, c15, c16, c17, c18, c19, c20, c21, c22⟩ := HD.out _ hb
  go_wp2_with fail
  refine (targeted_known _ _ HK.out).mono ?_
  rintro e w' ⟨rfl, rfl⟩
  rw [hg]
  go_wp2_with fail
  refine (refIdentPut_any _ _ _ Htc.out Htc2.out).mono ?_
  rintro e wa1 ⟨xa1, rfl, ownx, hbx⟩
  have hB := (bnext hb hbx).size
  go_upto_region 6 with (at_builtin; refine wpList_append_bytes (o := ⟨some 19, _, _, _, _, _⟩) rfl _ _ rfl rfl W.heap.size _ _ ([] ++ stampS d.st) (portS d.tc d.tp) rfl rfl (own1.below hbx) ownx.bytes ?_ hB ?_; (rw [len1, portS_length]; decide); intro v1 wk1 own2 hbel1)
  replace hb := (bnext hb hbx).trans hbel1
  clear ownx hbx hbel1 hB own1 c0 c8 c9 c10 c11 c12 c13 c14 c15 c16 c17 c18 c19 c20 c21 c22
  have len2 : ([] ++ stampS d.st ++ portS d.tc d.tp).length = 20 := by rw [List.length_append, len1, portS_length]
  clear len1
  have c0 := HM.out _ hb
  obtain ⟨c8, c9, c10, c11, c12, c13, c14, c15, c16, c17, c18, c19, c20, c21, c22⟩ := HD.out _ hb
  go_wp2_with fail
  go_ret
  exact ⟨v1, rfl, own2.mono hbw.size, bnext hbw hb⟩

set_option maxRecDepth 100000 in
set_option maxHeartbeats 8000000 in
theorem refBodyPut_A (h : Hd) (d : Bd) (w : World) (hk : knownB h.ty = true) (hgr : 0 ≤ d.gr) (hgr2 : d.gr < 18446744073709551616) (htc : 0 ≤ d.tc) (htc2 : d.tc < 18446744073709551616) (h11 : h.ty = 11) :
    Calls Try.prog 27 #[.agg (msgF h d).toArray] w (NewBytes w (bodyS h.ty d)) := by
  have hs : stB h.ty = true := by rw [h11]; decide
  have hg : tgB h.ty = false := by rw [h11]; decide
  have h13 : h.ty ≠ 13 := by omega
  have h2 : h.ty ≠ 2 := by omega
  have eS : bodyS h.ty d = [] ++ stampS d.st ++ putS d.ut 2 ++ [0, lowB d.p1] ++ qualS d.qc d.qa d.qv ++ [lowB d.p2] ++ putN d.gr.toNat 8 ++ putS d.sr 2 ++ [lowB d.og] := by unfold bodyS ownS annS; simp [hs, hg, h2, h11, h13, show stB 11 = true by decide, show tgB 11 = false by decide, putS_zero1, putS_low, show lowB 0 = 0 by decide +kernel]
  rw [eS]
  clear eS
  have e2 : (h.ty == 2) = false := by rw [beq_eq_false_iff_ne]; omega
  have e11 : (h.ty == 11) = true := by rw [beq_iff_eq]; omega
  have e13 : (h.ty == 13) = false := by rw [beq_eq_false_iff_ne]; omega
  clear h2 h11 h13
  have Hgr := hid hgr
  have Htc := hid htc
  have Hgr2 := hid hgr2
  have Htc2 := hid htc2
  have HK := hid hk
  clear hgr htc hgr2 htc2 hk
  have v1 := lowB_val d.p1
  have v2 := lowB_val d.p2
  have v3 := lowB_val d.og
  have u1 := lowB_wrap d.p1
  have u2 := lowB_wrap d.p2
  have u3 := lowB_wrap d.og
  go_enter Try.func27, Try.ntmps27
  go_upto_region 1 with fail
  obtain ⟨W, hWe, hbw, hM⟩ := box_msg w (msgF h d)
  rw [← hWe]
  clear hWe
  have HM := hid fun (wx : World) (hx : Below W.heap.size W wx) => (hM.hd wx hx).1
  have HD := hid hM.bd
  clear hM
  have hb := Below.refl W.heap.size W
  have own0 := Own.nil W W.heap.size
  have c0 := HM.out _ hb
  go_wp2_with fail
  refine (stamped_known _ _ HK.out).mono ?_
  rintro e w' ⟨rfl, rfl⟩
  rw [hs]
  obtain ⟨c8, c9, c10, c11, c12, c13, c14, c15, c16, c17, c18, c19, c20, c21, c22⟩ := HD.out _ hb
  have len0 : ([] : List UInt8).length = 0 := rfl
  go_wp2_with fail
  refine (refStampPut_any _ _).mono ?_
  rintro e wa0 ⟨xa0, rfl, ownx, hbx⟩
  have hB := (bnext hb hbx).size
  go_upto_region 4 with (at_builtin; refine wpList_append_bytes (o := ⟨some 11, _, _, _, _, _⟩) rfl _ _ rfl rfl W.heap.size _ _ ([]) (stampS d.st) rfl rfl (own0.below hbx) ownx.bytes ?_ hB ?_; (rw [len0, stampS_length]; decide); intro v0 wk0 own1 hbel0)
  replace hb := (bnext hb hbx).trans hbel0
  clear ownx hbx hbel0 hB own0 c0 c8 c9 c10 c11 c12 c13 c14 c15 c16 c17 c18 c19 c20 c21 c22
  have len1 : ([] ++ stampS d.st).length = 10 := by rw [List.length_append, len0, stampS_length]
  clear len0
  have c0 := HM.out _ hb
  obtain ⟨c8, c9, c10, c11, c12, c13, c14, c15, c16, c17, c18, c19, c20, c21, c22⟩ := HD.out _ hb
  go_wp2_with fail
  refine (targeted_known _ _ HK.out).mono ?_
  rintro e w' ⟨rfl, rfl⟩
  rw [hg]
  go_wp2_with fail
  refine (refPut_any _ _ _).mono ?_
  rintro e wa1 ⟨xa1, rfl, ownx, hbx⟩
  have hB := (bnext hb hbx).size
  go_upto_region 11 with (at_builtin; refine wpList_append_bytes (o := ⟨some 32, _, _, _, _, _⟩) rfl _ _ rfl rfl W.heap.size _ _ ([] ++ stampS d.st) (putS d.ut 2) rfl rfl (own1.below hbx) ownx.bytes ?_ hB ?_; (rw [len1, putS2]; decide); intro v1 wk1 own2 hbel1)
  replace hb := (bnext hb hbx).trans hbel1
  clear ownx hbx hbel1 hB own1 c0 c8 c9 c10 c11 c12 c13 c14 c15 c16 c17 c18 c19 c20 c21 c22
  have len2 : ([] ++ stampS d.st ++ putS d.ut 2).length = 12 := by rw [List.length_append, len1, putS2]
  clear len1
  have c0 := HM.out _ hb
  obtain ⟨c8, c9, c10, c11, c12, c13, c14, c15, c16, c17, c18, c19, c20, c21, c22⟩ := HD.out _ hb
  have hO := own2.below (bnew wk1 (Obj.cells (cellsOf [0, lowB d.p1]).toArray 5))
  have hx : Bytes (wk1.alloc (Obj.cells (cellsOf [0, lowB d.p1]).toArray 5)) (.slice (some ⟨wk1.heap.size, 0, none⟩) 2 2) [0, lowB d.p1] := (Own.lit wk1 [0, lowB d.p1] (by simp [maxLen])).bytes
  have hbn := bnext hb (bnew wk1 (Obj.cells (cellsOf [0, lowB d.p1]).toArray 5))
  have hB := hbn.size
  go_upto_region 12 with (at_builtin; refine wpList_append_bytes (o := ⟨some 38, _, _, _, _, _⟩) rfl _ _ rfl rfl W.heap.size _ _ ([] ++ stampS d.st ++ putS d.ut 2) [0, lowB d.p1] rfl rfl hO hx ?_ hB ?_; (rw [len2]; exact of_decide_eq_true (by kernel_rfl)); intro v2 wk2 own3 hbel2)
  replace hb := hbn.trans hbel2
  clear hO hx hbn hB hbel2 own2 c0 c8 c9 c10 c11 c12 c13 c14 c15 c16 c17 c18 c19 c20 c21 c22
  have len3 : ([] ++ stampS d.st ++ putS d.ut 2 ++ [0, lowB d.p1]).length = 14 := by rw [List.length_append, len2]; rfl
  clear len2
  have c0 := HM.out _ hb
  obtain ⟨c8, c9, c10, c11, c12, c13, c14, c15, c16, c17, c18, c19, c20, c21, c22⟩ := HD.out _ hb
  go_wp2_with fail
  refine (refQualPut_any _ _ _ _).mono ?_
  rintro e wa3 ⟨xa3, rfl, ownx, hbx⟩
  have hB := (bnext hb hbx).size
  go_upto_region 13 with (at_builtin; refine wpList_append_bytes (o := ⟨some 43, _, _, _, _, _⟩) rfl _ _ rfl rfl W.heap.size _ _ ([] ++ stampS d.st ++ putS d.ut 2 ++ [0, lowB d.p1]) (qualS d.qc d.qa d.qv) rfl rfl (own3.below hbx) ownx.bytes ?_ hB ?_; (rw [len3, qualS_length]; decide); intro v3 wk3 own4 hbel3)
  replace hb := (bnext hb hbx).trans hbel3
  clear ownx hbx hbel3 hB own3 c0 c8 c9 c10 c11 c12 c13 c14 c15 c16 c17 c18 c19 c20 c21 c22
  have len4 : ([] ++ stampS d.st ++ putS d.ut 2 ++ [0, lowB d.p1] ++ qualS d.qc d.qa d.qv).length = 18 := by rw [List.length_append, len3, qualS_length]
  clear len3
  have c0 := HM.out _ hb
  obtain ⟨c8, c9, c10, c11, c12, c13, c14, c15, c16, c17, c18, c19, c20, c21, c22⟩ := HD.out _ hb
  have hO := own4.below (bnew wk3 (Obj.cells (cellsOf [lowB d.p2]).toArray 5))
  have hx : Bytes (wk3.alloc (Obj.cells (cellsOf [lowB d.p2]).toArray 5)) (.slice (some ⟨wk3.heap.size, 0, none⟩) 1 1) [lowB d.p2] := (Own.lit wk3 [lowB d.p2] (by simp [maxLen])).bytes
  have hbn := bnext hb (bnew wk3 (Obj.cells (cellsOf [lowB d.p2]).toArray 5))
  have hB := hbn.size
  go_upto_region 14 with (at_builtin; refine wpList_append_bytes (o := ⟨some 49, _, _, _, _, _⟩) rfl _ _ rfl rfl W.heap.size _ _ ([] ++ stampS d.st ++ putS d.ut 2 ++ [0, lowB d.p1] ++ qualS d.qc d.qa d.qv) [lowB d.p2] rfl rfl hO hx ?_ hB ?_; (rw [len4]; exact of_decide_eq_true (by kernel_rfl)); intro v4 wk4 own5 hbel4)
  replace hb := hbn.trans hbel4
  clear hO hx hbn hB hbel4 own4 c0 c8 c9 c10 c11 c12 c13 c14 c15 c16 c17 c18 c19 c20 c21 c22
  have len5 : ([] ++ stampS d.st ++ putS d.ut 2 ++ [0, lowB d.p1] ++ qualS d.qc d.qa d.qv ++ [lowB d.p2]).length = 19 := by rw [List.length_append, len4]; rfl
  clear len4
  have c0 := HM.out _ hb
  obtain ⟨c8, c9, c10, c11, c12, c13, c14, c15, c16, c17, c18, c19, c20, c21, c22⟩ := HD.out _ hb
  go_wp2_with fail
  refine (refPutId_any _ _ Hgr.out Hgr2.out).mono ?_
  rintro e wa5 ⟨xa5, rfl, ownx, hbx⟩
  have hB := (bnext hb hbx).size
  go_upto_region 15 with (at_builtin; refine wpList_append_bytes (o := ⟨some 54, _, _, _, _, _⟩) rfl _ _ rfl rfl W.heap.size _ _ ([] ++ stampS d.st ++ putS d.ut 2 ++ [0, lowB d.p1] ++ qualS d.qc d.qa d.qv ++ [lowB d.p2]) (putN d.gr.toNat 8) rfl rfl (own5.below hbx) ownx.bytes ?_ hB ?_; (rw [len5, putN_length]; decide); intro v5 wk5 own6 hbel5)
  replace hb := (bnext hb hbx).trans hbel5
  clear ownx hbx hbel5 hB own5 c0 c8 c9 c10 c11 c12 c13 c14 c15 c16 c17 c18 c19 c20 c21 c22
  have len6 : ([] ++ stampS d.st ++ putS d.ut 2 ++ [0, lowB d.p1] ++ qualS d.qc d.qa d.qv ++ [lowB d.p2] ++ putN d.gr.toNat 8).length = 27 := by rw [List.length_append, len5, putN_length]
  clear len5
  have c0 := HM.out _ hb
  obtain ⟨c8, c9, c10, c11, c12, c13, c14, c15, c16, c17, c18, c19, c20, c21, c22⟩ := HD.out _ hb
  go_wp2_with fail
  refine (refPut_any _ _ _).mono ?_
  rintro e wa6 ⟨xa6, rfl, ownx, hbx⟩
  have hB := (bnext hb hbx).size
  go_upto_region 16 with (at_builtin; refine wpList_append_bytes (o := ⟨some 59, _, _, _, _, _⟩) rfl _ _ rfl rfl W.heap.size _ _ ([] ++ stampS d.st ++ putS d.ut 2 ++ [0, lowB d.p1] ++ qualS d.qc d.qa d.qv ++ [lowB d.p2] ++ putN d.gr.toNat 8) (putS d.sr 2) rfl rfl (own6.below hbx) ownx.bytes ?_ hB ?_; (rw [len6, putS2]; decide); intro v6 wk6 own7 hbel6)
  replace hb := (bnext hb hbx).trans hbel6
  clear ownx hbx hbel6 hB own6 c0 c8 c9 c10 c11 c12 c13 c14 c15 c16 c17 c18 c19 c20 c21 c22
  have len7 : ([] ++ stampS d.st ++ putS d.ut 2 ++ [0, lowB d.p1] ++ qualS d.qc d.qa d.qv ++ [lowB d.p2] ++ putN d.gr.toNat 8 ++ putS d.sr 2).length = 29 := by rw [List.length_append, len6, putS2]
  clear len6
  have c0 := HM.out _ hb
  obtain ⟨c8, c9, c10, c11, c12, c13, c14, c15, c16, c17, c18, c19, c20, c21, c22⟩ := HD.out _ hb
  have hO := own7.below (bnew wk6 (Obj.cells (cellsOf [lowB d.og]).toArray 5))
  have hx : Bytes (wk6.alloc (Obj.cells (cellsOf [lowB d.og]).toArray 5)) (.slice (some ⟨wk6.heap.size, 0, none⟩) 1 1) [lowB d.og] := (Own.lit wk6 [lowB d.og] (by simp [maxLen])).bytes
  have hbn := bnext hb (bnew wk6 (Obj.cells (cellsOf [lowB d.og]).toArray 5))
  have hB := hbn.size
  go_upto_region 19 with (at_builtin; refine wpList_append_bytes (o := ⟨some 65, _, _, _, _, _⟩) rfl _ _ rfl rfl W.heap.size _ _ ([] ++ stampS d.st ++ putS d.ut 2 ++ [0, lowB d.p1] ++ qualS d.qc d.qa d.qv ++ [lowB d.p2] ++ putN d.gr.toNat 8 ++ putS d.sr 2) [lowB d.og] rfl rfl hO hx ?_ hB ?_; (rw [len7]; exact of_decide_eq_true (by kernel_rfl)); intro v7 wk7 own8 hbel7)
  replace hb := hbn.trans hbel7
  clear hO hx hbn hB hbel7 own7 c0 c8 c9 c10 c11 c12 c13 c14 c15 c16 c17 c18 c19 c20 c21 c22
  have len8 : ([] ++ stampS d.st ++ putS d.ut 2 ++ [0, lowB d.p1] ++ qualS d.qc d.qa d.qv ++ [lowB d.p2] ++ putN d.gr.toNat 8 ++ putS d.sr 2 ++ [lowB d.og]).length = 30 := by rw [List.length_append, len7]; rfl
  clear len7
  have c0 := HM.out _ hb
  obtain ⟨c8, c9, c10, c11, c12, c13, c14, c15, c16, c17, c18, c19, c20, c21, c22⟩ := HD.out _ hb
  go_wp2_with fail
  go_ret
  exact ⟨v7, rfl, own8.mono hbw.size, bnext hbw hb⟩

set_option maxRecDepth 100000 in
set_option maxHeartbeats 8000000 in
theorem refBodyPut_G (h : Hd) (d : Bd) (w : World) (hk : knownB h.ty = true) (hgr : 0 ≤ d.gr) (hgr2 : d.gr < 18446744073709551616) (htc : 0 ≤ d.tc) (htc2 : d.tc < 18446744073709551616) (hs : stB h.ty = false) (hg : tgB h.ty = true) (h11 : h.ty ≠ 11) (h13 : h.ty ≠ 13) :
    Calls Try.prog 27 #[.agg (msgF h d).toArray] w (NewBytes w (bodyS h.ty d)) := by
  have h2 : h.ty ≠ 2 := by intro e; rw [e] at hg; exact absurd hg (by decide)
  have eS : bodyS h.ty d = [] ++ portS d.tc d.tp := by unfold bodyS ownS; simp [hs, hg, h2, h11, h13]
  rw [eS]
  clear eS
  have e2 : (h.ty == 2) = false := by rw [beq_eq_false_iff_ne]; omega
  have e11 : (h.ty == 11) = false := by rw [beq_eq_false_iff_ne]; omega
  have e13 : (h.ty == 13) = false := by rw [beq_eq_false_iff_ne]; omega
  clear h2 h11 h13
  have Hgr := hid hgr
  have Htc := hid htc
  have Hgr2 := hid hgr2
  have Htc2 := hid htc2
  have HK := hid hk
  clear hgr htc hgr2 htc2 hk
  go_enter Try.func27, Try.ntmps27
  go_upto_region 1 with fail
  obtain ⟨W, hWe, hbw, hM⟩ := box_msg w (msgF h d)
  rw [← hWe]
  clear hWe
  have HM := hid fun (wx : World) (hx : Below W.heap.size W wx) => (hM.hd wx hx).1
  have HD := hid hM.bd
  clear hM
  have hb := Below.refl W.heap.size W
  have own0 := Own.nil W W.heap.size
  have c0 := HM.out _ hb
  go_wp2_with fail
  refine (stamped_known _ _ HK.out).mono ?_
  rintro e w' ⟨rfl, rfl⟩
  rw [hs]
  obtain ⟨c8, c9, c10, c11, c12, c13, c14, c15, c16, c17, c18, c19, c20, c21, c22⟩ := HD.out _ hb
  have len0 : ([] : List UInt8).length = 0 := rfl
  go_wp2_with fail
  refine (targeted_known _ _ HK.out).mono ?_
  rintro e w' ⟨rfl, rfl⟩
  rw [hg]
  go_wp2_with fail
  refine (refIdentPut_any _ _ _ Htc.out Htc2.out).mono ?_
  rintro e wa0 ⟨xa0, rfl, ownx, hbx⟩
  have hB := (bnext hb hbx).size
  go_upto_region 6 with (at_builtin; refine wpList_append_bytes (o := ⟨some 19, _, _, _, _, _⟩) rfl _ _ rfl rfl W.heap.size _ _ ([]) (portS d.tc d.tp) rfl rfl (own0.below hbx) ownx.bytes ?_ hB ?_; (rw [len0, portS_length]; decide); intro v0 wk0 own1 hbel0)
  replace hb := (bnext hb hbx).trans hbel0
  clear ownx hbx hbel0 hB own0 c0 c8 c9 c10 c11 c12 c13 c14 c15 c16 c17 c18 c19 c20 c21 c22
  have len1 : ([] ++ portS d.tc d.tp).length = 10 := by rw [List.length_append, len0, portS_length]
  clear len0
  have c0 := HM.out _ hb
  obtain ⟨c8, c9, c10, c11, c12, c13, c14, c15, c16, c17, c18, c19, c20, c21, c22⟩ := HD.out _ hb
  go_wp2_with fail
  go_ret
  exact ⟨v0, rfl, own1.mono hbw.size, bnext hbw hb⟩

set_option maxRecDepth 100000 in
set_option maxHeartbeats 8000000 in
theorem refBodyPut_M (h : Hd) (d : Bd) (w : World) (hk : knownB h.ty = true) (hgr : 0 ≤ d.gr) (hgr2 : d.gr < 18446744073709551616) (htc : 0 ≤ d.tc) (htc2 : d.tc < 18446744073709551616) (h13 : h.ty = 13) :
    Calls Try.prog 27 #[.agg (msgF h d).toArray] w (NewBytes w (bodyS h.ty d)) := by
  have hs : stB h.ty = false := by rw [h13]; decide
  have hg : tgB h.ty = true := by rw [h13]; decide
  have h11 : h.ty ≠ 11 := by omega
  have h2 : h.ty ≠ 2 := by omega
  have eS : bodyS h.ty d = [] ++ portS d.tc d.tp ++ [lowB d.sh, lowB d.hp, lowB d.ac, 0] := by unfold bodyS ownS manS; simp [hs, hg, h2, h11, h13, show stB 13 = false by decide, show tgB 13 = true by decide, putS_zero1, putS_low, show lowB 0 = 0 by decide +kernel]
  rw [eS]
  clear eS
  have e2 : (h.ty == 2) = false := by rw [beq_eq_false_iff_ne]; omega
  have e11 : (h.ty == 11) = false := by rw [beq_eq_false_iff_ne]; omega
  have e13 : (h.ty == 13) = true := by rw [beq_iff_eq]; omega
  clear h2 h11 h13
  have Hgr := hid hgr
  have Htc := hid htc
  have Hgr2 := hid hgr2
  have Htc2 := hid htc2
  have HK := hid hk
  clear hgr htc hgr2 htc2 hk
  have v1 := lowB_val d.sh
  have v2 := lowB_val d.hp
  have v3 := lowB_val d.ac
  have u1 := lowB_wrap d.sh
  have u2 := lowB_wrap d.hp
  have u3 := lowB_wrap d.ac
  go_enter Try.func27, Try.ntmps27
  go_upto_region 1 with fail
  obtain ⟨W, hWe, hbw, hM⟩ := box_msg w (msgF h d)
  rw [← hWe]
  clear hWe
  have HM := hid fun (wx : World) (hx : Below W.heap.size W wx) => (hM.hd wx hx).1
  have HD := hid hM.bd
  clear hM
  have hb := Below.refl W.heap.size W
  have own0 := Own.nil W W.heap.size
  have c0 := HM.out _ hb
  go_wp2_with fail
  refine (stamped_known _ _ HK.out).mono ?_
  rintro e w' ⟨rfl, rfl⟩
  rw [hs]
  obtain ⟨c8, c9, c10, c11, c12, c13, c14, c15, c16, c17, c18, c19, c20, c21, c22⟩ := HD.out _ hb
  have len0 : ([] : List UInt8).length = 0 := rfl
  go_wp2_with fail
  refine (targeted_known _ _ HK.out).mono ?_
  rintro e w' ⟨rfl, rfl⟩
  rw [hg]
  go_wp2_with fail
  refine (refIdentPut_any _ _ _ Htc.out Htc2.out).mono ?_
  rintro e wa0 ⟨xa0, rfl, ownx, hbx⟩
  have hB := (bnext hb hbx).size
  go_upto_region 6 with (at_builtin; refine wpList_append_bytes (o := ⟨some 19, _, _, _, _, _⟩) rfl _ _ rfl rfl W.heap.size _ _ ([]) (portS d.tc d.tp) rfl rfl (own0.below hbx) ownx.bytes ?_ hB ?_; (rw [len0, portS_length]; decide); intro v0 wk0 own1 hbel0)
  replace hb := (bnext hb hbx).trans hbel0
  clear ownx hbx hbel0 hB own0 c0 c8 c9 c10 c11 c12 c13 c14 c15 c16 c17 c18 c19 c20 c21 c22
  have len1 : ([] ++ portS d.tc d.tp).length = 10 := by rw [List.length_append, len0, portS_length]
  clear len0
  have c0 := HM.out _ hb
  obtain ⟨c8, c9, c10, c11, c12, c13, c14, c15, c16, c17, c18, c19, c20, c21, c22⟩ := HD.out _ hb
  have hO := own1.below (bnew wk0 (Obj.cells (cellsOf [lowB d.sh, lowB d.hp, lowB d.ac, 0]).toArray 5))
  have hx : Bytes (wk0.alloc (Obj.cells (cellsOf [lowB d.sh, lowB d.hp, lowB d.ac, 0]).toArray 5)) (.slice (some ⟨wk0.heap.size, 0, none⟩) 4 4) [lowB d.sh, lowB d.hp, lowB d.ac, 0] := (Own.lit wk0 [lowB d.sh, lowB d.hp, lowB d.ac, 0] (by simp [maxLen])).bytes
  have hbn := bnext hb (bnew wk0 (Obj.cells (cellsOf [lowB d.sh, lowB d.hp, lowB d.ac, 0]).toArray 5))
  have hB := hbn.size
  go_upto_region 19 with (at_builtin; refine wpList_append_bytes (o := ⟨some 79, _, _, _, _, _⟩) rfl _ _ rfl rfl W.heap.size _ _ ([] ++ portS d.tc d.tp) [lowB d.sh, lowB d.hp, lowB d.ac, 0] rfl rfl hO hx ?_ hB ?_; (rw [len1]; exact of_decide_eq_true (by kernel_rfl)); intro v1 wk1 own2 hbel1)
  replace hb := hbn.trans hbel1
  clear hO hx hbn hB hbel1 own1 c0 c8 c9 c10 c11 c12 c13 c14 c15 c16 c17 c18 c19 c20 c21 c22
  have len2 : ([] ++ portS d.tc d.tp ++ [lowB d.sh, lowB d.hp, lowB d.ac, 0]).length = 14 := by rw [List.length_append, len1]; rfl
  clear len1
  have c0 := HM.out _ hb
  obtain ⟨c8, c9, c10, c11, c12, c13, c14, c15, c16, c17, c18, c19, c20, c21, c22⟩ := HD.out _ hb
  go_wp2_with fail
  go_ret
  exact ⟨v1, rfl, own2.mono hbw.size, bnext hbw hb⟩

theorem refBodyPut_any (h : Hd) (d : Bd) (w : World) (hk : knownB h.ty = true) (hgr : 0 ≤ d.gr) (hgr2 : d.gr < 18446744073709551616) (htc : 0 ≤ d.tc) (htc2 : d.tc < 18446744073709551616) :
    Calls Try.prog 27 #[.agg (msgF h d).toArray] w (NewBytes w (bodyS h.ty d)) := by
  rcases kinds h.ty with ⟨h1, h2, h3, h4⟩ | ⟨h1, h2, h3, h4⟩ | ⟨h1, h2, h3, h4⟩ | h1 | ⟨h1, h2, h3, h4⟩ | h1
  · rcases known_or hk with h | h | h | h | h | h | h | h | h | h <;> rw [h] at h1 h2 h3 h4 <;> first | exact absurd h1 (by decide) | exact absurd h2 (by decide) | omega
  · by_cases h5 : h.ty = 2
    · exact refBodyPut_P h d w hk hgr hgr2 htc htc2 h5
    · exact refBodyPut_S h d w hk hgr hgr2 htc htc2 h1 h2 h3 h4 h5
  · exact refBodyPut_B h d w hk hgr hgr2 htc htc2 h1 h2 h3 h4
  · exact refBodyPut_A h d w hk hgr hgr2 htc htc2 h1
  · exact refBodyPut_G h d w hk hgr hgr2 htc htc2 h1 h2 h3 h4
  · exact refBodyPut_M h d w hk hgr hgr2 htc htc2 h1
end Go.Proofs.Ytohgpnlihfcecaa