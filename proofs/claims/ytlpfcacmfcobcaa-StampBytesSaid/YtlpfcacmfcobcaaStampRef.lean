/- Contracts of the document's own answer for package stamp. -/
import Derived.Test.YtlpfcacmfcobcaaStamp
import Derived.Test.YtlpfcacmfcobcaaOctRef
namespace Go.Proofs.Ytlpfcacmfcobcaa
open Go.RowKit Go.Proofs
set_option linter.unusedVariables false

set_option maxHeartbeats 400000 in
theorem refMay_any (t : Int) (w : World) :
    Calls Try.prog 17 #[.int .i64 t] w fun e w' => e = .returned (.bool (mayB t)) ∧ w = w' := by
  by_cases h0 : 0 ≤ t
  · by_cases h1 : t ≤ 4000000000000000
    · go_enter Try.func17, Try.ntmps17
      go_wp2
      go_ret
      exact ⟨ret_bool (mayB_true h0 h1).symm, rfl⟩
    · go_enter Try.func17, Try.ntmps17
      go_wp2
      go_ret
      exact ⟨ret_bool (mayB_false (.inr (by omega))).symm, rfl⟩
  · go_enter Try.func17, Try.ntmps17
    go_wp2
    go_ret
    exact ⟨ret_bool (mayB_false (.inl (by omega))).symm, rfl⟩

theorem refMay_yes (t : Int) (w : World) (h : mayB t = true) :
    Calls Try.prog 17 #[.int .i64 t] w fun e w' => e = .returned (.bool true) ∧ w = w' := by
  have := refMay_any t w
  rwa [h] at this

theorem refMay_no (t : Int) (w : World) (h : mayB t = false) :
    Calls Try.prog 17 #[.int .i64 t] w fun e w' => e = .returned (.bool false) ∧ w = w' := by
  have := refMay_any t w
  rwa [h] at this

set_option maxHeartbeats 800000 in
theorem refStampPut_any (t : Int) (w : World) :
    Calls Try.prog 15 #[.int .i64 t] w (NewBytes w (stampS t)) := by
  have hin := stampT_in t
  obtain ⟨hin0, hin1⟩ := hin
  cases hm : mayB t
  · have hT : stampT t = 0 := by unfold stampT; rw [hm]; rfl
    have Hm := hid hm
    have HT := hid hT
    clear hm hT hin0 hin1
    go_enter Try.func15, Try.ntmps15
    go_wp2_with fail
    refine (refMay_no _ _ Hm.out).mono ?_
    rintro e w' ⟨rfl, rfl⟩
    go_wp2_with fail
    refine (refPut_any _ _ _).mono ?_
    rintro e w1 ⟨v1, rfl, hown, hbel⟩
    go_wp2_with fail
    refine (refPut_any _ _ _).mono ?_
    rintro e w2 ⟨v2, rfl, hown2, hbel2⟩
    have hownA := hown.below hbel2
    have hB2 := hown2.bytes
    have hbase : w.heap.size ≤ w2.heap.size := Nat.le_trans hbel.size hbel2.size
    have hlen : (putS 0 6).length + (putS 0 4).length ≤ 140737488355328 := by decide
    have hb12 := bnext hbel hbel2
    have Hlen := hid hlen
    clear hown hown2 hbel hbel2 hlen
    go_wp2_with (at_builtin; refine wpList_append_bytes rfl _ _ rfl rfl w.heap.size _ _ _ _ rfl rfl hownA hB2 Hlen.out hbase ?_; intro v3 w3 hown3 hbel3)
    go_ret
    refine ⟨v3, rfl, ?_, hb12.trans hbel3⟩
    unfold stampS
    rw [HT.out]
    exact hown3
  · have hT : stampT t = t := by unfold stampT; rw [hm]; rfl
    rw [hT] at hin0 hin1
    have Hm := hid hm
    have HT := hid hT
    clear hm hT
    have Hlen : Hid ((putS (t / 1000000000) 6).length + (putS (t % 1000000000) 4).length ≤ 140737488355328) := hid (by rw [putS_length _ 6 (by decide) (by decide), putS_length _ 4 (by decide) (by decide)]; decide)
    go_enter Try.func15, Try.ntmps15
    go_wp2_with fail
    refine (refMay_yes _ _ Hm.out).mono ?_
    rintro e w' ⟨rfl, rfl⟩
    go_wp2_with fail
    refine (refPut_any _ _ _).mono ?_
    rintro e w1 ⟨v1, rfl, hown, hbel⟩
    go_wp2_with fail
    refine (refPut_any _ _ _).mono ?_
    rintro e w2 ⟨v2, rfl, hown2, hbel2⟩
    have hownA := hown.below hbel2
    have hB2 := hown2.bytes
    have hbase : w.heap.size ≤ w2.heap.size := Nat.le_trans hbel.size hbel2.size
    have hb12 := bnext hbel hbel2
    clear hown hown2 hbel hbel2
    go_wp2_with (at_builtin; refine wpList_append_bytes rfl _ _ rfl rfl w.heap.size _ _ _ _ rfl rfl hownA hB2 Hlen.out hbase ?_; intro v3 w3 hown3 hbel3)
    go_ret
    refine ⟨v3, rfl, ?_, hb12.trans hbel3⟩
    unfold stampS
    rw [HT.out]
    exact hown3

set_option maxHeartbeats 1600000 in
theorem refStampGet_any (v : Value) (l : List UInt8) (at' : Int) (w : World) (hB : Bytes w v l) (hl : l.length ≤ 140737488351232) (hat0 : -9223372036854775808 ≤ at') (hat : at' ≤ 9223372036854775807) :
    Calls Try.prog 13 #[v, .int .i64 at'] w fun e w' => e = .returned (.tuple #[.int .i64 (getV l at'), .bool (getB l at')]) ∧ w = w' := by
  cases h6 : standB l.length at' 6
  · have hno : getB l at' = false := getB_false fun h => by
      have : standB l.length at' 6 = true := standB_true h.1 (by decide) (by omega)
      rw [h6] at this
      cases this
    rw [getV_false hno, hno]
    have H6 := hid h6
    clear h6 hno
    go_enter Try.func13, Try.ntmps13
    go_wp2_with fail
    refine (refGet_no _ _ _ _ _ hB (by omega) hat (.inr H6.out)).mono ?_
    rintro e w' ⟨rfl, rfl⟩
    go_wp2_with fail
    go_ret2
    exact ⟨rfl, rfl⟩
  obtain ⟨h60, _, h61⟩ := standB_iff.1 h6
  have hS : ((numAt l at'.toNat 6 : Nat) : Int) = (secAt l at' : Nat) := rfl
  have hSlt : ((secAt l at' : Nat) : Int) < 72057594037927936 := by have := num_at_lt l at'.toNat 6 (by decide); unfold secAt; omega
  obtain ⟨S, hSs⟩ : ∃ S : Int, S = (secAt l at' : Nat) := ⟨_, rfl⟩
  have hS0 : 0 ≤ S := by omega
  obtain ⟨p, cap, rfl, hcap, hmax, hpat⟩ := id hB
  by_cases h10 : (l.length : Int) - 10 < at'
  · have hno : getB l at' = false := getB_false fun h => by omega
    rw [getV_false hno, hno]
    rw [← hSs] at hS hSlt
    have H6 := hid h6
    have HS := hid hS
    clear h6 hno hS hSs hpat
    go_enter Try.func13, Try.ntmps13
    go_wp2_with fail
    refine (refGet_ok _ _ _ _ _ hB (by omega) hat (by decide) (by decide) H6.out).mono ?_
    rintro e w' ⟨rfl, rfl⟩
    rw [show (6 : Int).toNat = 6 from rfl, HS.out]
    go_wp2_with fail
    go_ret2
    exact ⟨rfl, rfl⟩
  have h4 : standB l.length (at' + 6) 4 = true := standB_true (by omega) (by decide) (by omega)
  have hN : ((numAt l (at' + 6).toNat 4 : Nat) : Int) = (nanAt l at' : Nat) := rfl
  have hNlt : ((nanAt l at' : Nat) : Int) < 4294967296 := by have := nanAt_lt l at'; omega
  obtain ⟨N, hNs⟩ : ∃ N : Int, N = (nanAt l at' : Nat) := ⟨_, rfl⟩
  have hN0 : 0 ≤ N := by omega
  by_cases hbn : 1000000000 ≤ N
  · have hno : getB l at' = false := getB_false fun h => by omega
    rw [getV_false hno, hno]
    rw [← hSs] at hS hSlt
    rw [← hNs] at hN hNlt
    have H6 := hid h6
    have H4 := hid h4
    have HS := hid hS
    have HN := hid hN
    clear h6 h4 hno hS hSs hN hNs hpat
    go_enter Try.func13, Try.ntmps13
    go_wp2_with fail
    refine (refGet_ok _ _ _ _ _ hB (by omega) hat (by decide) (by decide) H6.out).mono ?_
    rintro e w' ⟨rfl, rfl⟩
    rw [show (6 : Int).toNat = 6 from rfl, HS.out]
    go_wp2_with fail
    refine (refGet_ok _ _ _ _ _ hB (by omega) (by omega) (by decide) (by decide) H4.out).mono ?_
    rintro e w' ⟨rfl, rfl⟩
    rw [show (4 : Int).toNat = 4 from rfl, HN.out]
    go_wp2_with fail
    go_ret2
    exact ⟨rfl, rfl⟩
  have hnlt : N < 1000000000 := by omega
  by_cases hbig : 4000000 < S
  · have hno : getB l at' = false := getB_false fun h => by omega
    rw [getV_false hno, hno]
    rw [← hSs] at hS hSlt
    rw [← hNs] at hN hNlt
    have H6 := hid h6
    have H4 := hid h4
    have HS := hid hS
    have HN := hid hN
    clear h6 h4 hno hS hSs hN hNs hpat hbn
    go_enter Try.func13, Try.ntmps13
    go_wp2_with fail
    refine (refGet_ok _ _ _ _ _ hB (by omega) hat (by decide) (by decide) H6.out).mono ?_
    rintro e w' ⟨rfl, rfl⟩
    rw [show (6 : Int).toNat = 6 from rfl, HS.out]
    go_wp2_with fail
    refine (refGet_ok _ _ _ _ _ hB (by omega) (by omega) (by decide) (by decide) H4.out).mono ?_
    rintro e w' ⟨rfl, rfl⟩
    rw [show (4 : Int).toNat = 4 from rfl, HN.out]
    go_wp2_with fail
    go_ret2
    exact ⟨rfl, rfl⟩
  have hle : S ≤ 4000000 := by omega
  cases hm : mayB (S * 1000000000 + N)
  · have hno : getB l at' = false := getB_false fun h => by
      have : mayB (S * 1000000000 + N) = true := mayB_true (by omega) (by omega)
      rw [hm] at this
      cases this
    rw [getV_false hno, hno]
    rw [← hSs] at hS hSlt
    rw [← hNs] at hN hNlt
    have H6 := hid h6
    have H4 := hid h4
    have HS := hid hS
    have HN := hid hN
    have Hm := hid hm
    clear h6 h4 hno hS hSs hN hNs hpat hbn hbig hm
    go_enter Try.func13, Try.ntmps13
    go_wp2_with fail
    refine (refGet_ok _ _ _ _ _ hB (by omega) hat (by decide) (by decide) H6.out).mono ?_
    rintro e w' ⟨rfl, rfl⟩
    rw [show (6 : Int).toNat = 6 from rfl, HS.out]
    go_wp2_with fail
    refine (refGet_ok _ _ _ _ _ hB (by omega) (by omega) (by decide) (by decide) H4.out).mono ?_
    rintro e w' ⟨rfl, rfl⟩
    rw [show (4 : Int).toNat = 4 from rfl, HN.out]
    go_wp2_with fail
    refine (refMay_no _ _ Hm.out).mono ?_
    rintro e w' ⟨rfl, rfl⟩
    go_wp2_with fail
    go_ret2
    exact ⟨rfl, rfl⟩
  · have hm2 := mayB_iff.1 hm
    have hyes : getB l at' = true := getB_true ⟨h60, by omega, by omega, by omega, by omega⟩
    have hV : getV l at' = S * 1000000000 + N := by rw [getV_true hyes]; omega
    rw [hV, hyes]
    rw [← hSs] at hS hSlt
    rw [← hNs] at hN hNlt
    have H6 := hid h6
    have H4 := hid h4
    have HS := hid hS
    have HN := hid hN
    have Hm := hid hm
    clear h6 h4 hyes hV hm2 hS hSs hN hNs hpat hbn hbig hm
    go_enter Try.func13, Try.ntmps13
    go_wp2_with fail
    refine (refGet_ok _ _ _ _ _ hB (by omega) hat (by decide) (by decide) H6.out).mono ?_
    rintro e w' ⟨rfl, rfl⟩
    rw [show (6 : Int).toNat = 6 from rfl, HS.out]
    go_wp2_with fail
    refine (refGet_ok _ _ _ _ _ hB (by omega) (by omega) (by decide) (by decide) H4.out).mono ?_
    rintro e w' ⟨rfl, rfl⟩
    rw [show (4 : Int).toNat = 4 from rfl, HN.out]
    go_wp2_with fail
    refine (refMay_yes _ _ Hm.out).mono ?_
    rintro e w' ⟨rfl, rfl⟩
    go_wp2_with fail
    go_ret2
    exact ⟨rfl, rfl⟩

set_option maxHeartbeats 400000 in
theorem refFloor_any (c : Int) (w : World) (h0 : -9223372036854775808 ≤ c) (h1 : c ≤ 9223372036854775807) :
    Calls Try.prog 20 #[.int .i64 c] w fun e w' => e = .returned (.int .i64 (c / 65536)) ∧ w = w' := by
  have hf := floor_tdiv c
  have hb := tdiv_bd c h0 h1
  obtain ⟨hb0, hb1⟩ := hb
  by_cases h : c.tmod 65536 < 0
  · rw [if_pos h] at hf
    have Hf := hid hf
    clear hf
    go_enter Try.func20, Try.ntmps20
    go_wp2
    go_ret
    exact ⟨ret_int Hf.out, rfl⟩
  · rw [if_neg h] at hf
    have Hf := hid hf
    clear hf
    go_enter Try.func20, Try.ntmps20
    go_wp2
    go_ret
    exact ⟨ret_int (by have := Hf.out; omega), rfl⟩

set_option maxHeartbeats 400000 in
theorem refAdd_any (a b : Int) (w : World) (ha0 : -9223372036854775808 ≤ a) (ha1 : a ≤ 9223372036854775807) (hb0 : -9223372036854775808 ≤ b) (hb1 : b ≤ 9223372036854775807) :
    Calls Try.prog 22 #[.int .i64 a, .int .i64 b] w fun e w' => e = .returned (.int .i64 (addI a b)) ∧ w = w' := by
  by_cases h1 : 9223372036854775807 < a + b
  · go_enter Try.func22, Try.ntmps22
    go_wp2
    go_ret
    exact ⟨ret_int (by unfold addI; omega), rfl⟩
  by_cases h2 : a + b < -9223372036854775808
  · go_enter Try.func22, Try.ntmps22
    go_wp2
    go_ret
    exact ⟨ret_int (by unfold addI; omega), rfl⟩
  rcases Int.lt_trichotomy a 0 with h | rfl | h
  all_goals
    go_enter Try.func22, Try.ntmps22
    go_wp2
    go_ret
    exact ⟨ret_int (by unfold addI; omega), rfl⟩

set_option maxHeartbeats 400000 in
theorem refLog_any (l : Int) (w : World) :
    Calls Try.prog 33 #[.int .i64 l] w fun e w' => e = .returned (.int .u64 (min (max l (-3)) 4 + 3)) ∧ w = w' := by
  by_cases h4 : 4 < l
  · go_enter Try.func33, Try.ntmps33
    go_wp2
    go_ret
    exact ⟨ret_int (by omega), rfl⟩
  by_cases h3 : l < -3
  · go_enter Try.func33, Try.ntmps33
    go_wp2
    go_ret
    exact ⟨ret_int (by omega), rfl⟩
  go_enter Try.func33, Try.ntmps33
  go_wp2
  all_goals
    go_ret
    exact ⟨ret_int (by first | omega | (rw [IntKind.wrap_u64]; omega)), rfl⟩

theorem log_cases (l : Int) : ∃ k : Nat, k ≤ 7 ∧ min (max l (-3)) 4 + 3 = (k : Int) ∧ eighI l = 2 ^ k := by
  have h : min (max l (-3)) 4 + 3 = 0 ∨ min (max l (-3)) 4 + 3 = 1 ∨ min (max l (-3)) 4 + 3 = 2 ∨ min (max l (-3)) 4 + 3 = 3 ∨ min (max l (-3)) 4 + 3 = 4 ∨ min (max l (-3)) 4 + 3 = 5 ∨ min (max l (-3)) 4 + 3 = 6 ∨ min (max l (-3)) 4 + 3 = 7 := by omega
  rcases h with h | h | h | h | h | h | h | h
  · exact ⟨0, by omega, h, by unfold eighI; repeat' split <;> omega⟩
  · exact ⟨1, by omega, h, by unfold eighI; repeat' split <;> omega⟩
  · exact ⟨2, by omega, h, by unfold eighI; repeat' split <;> omega⟩
  · exact ⟨3, by omega, h, by unfold eighI; repeat' split <;> omega⟩
  · exact ⟨4, by omega, h, by unfold eighI; repeat' split <;> omega⟩
  · exact ⟨5, by omega, h, by unfold eighI; repeat' split <;> omega⟩
  · exact ⟨6, by omega, h, by unfold eighI; repeat' split <;> omega⟩
  · exact ⟨7, by omega, h, by unfold eighI; repeat' split <;> omega⟩

set_option maxHeartbeats 800000 in
theorem refTicks_any (l : Int) (w : World) :
    Calls Try.prog 24 #[.int .i64 l] w fun e w' => e = .returned (.int .i64 (eighI l)) ∧ w = w' := by
  obtain ⟨k, hk, h1, h2⟩ := log_cases l
  rw [h2]
  have H1 := hid h1
  clear h1 h2
  have hc : k = 0 ∨ k = 1 ∨ k = 2 ∨ k = 3 ∨ k = 4 ∨ k = 5 ∨ k = 6 ∨ k = 7 := by omega
  rcases hc with rfl | rfl | rfl | rfl | rfl | rfl | rfl | rfl
  all_goals
    go_enter Try.func24, Try.ntmps24
    go_wp2_with fail
    refine (refLog_any _ _).mono ?_
    rintro e w' ⟨rfl, rfl⟩
    rw [H1.out]
    go_wp2_with fail
    go_ret
    exact ⟨rfl, rfl⟩

set_option maxHeartbeats 800000 in
theorem refNanos_any (l : Int) (w : World) :
    Calls Try.prog 26 #[.int .i64 l] w fun e w' => e = .returned (.int .i64 (125000000 * eighI l)) ∧ w = w' := by
  obtain ⟨k, hk, h1, h2⟩ := log_cases l
  rw [h2]
  have H1 := hid h1
  clear h1 h2
  have hc : k = 0 ∨ k = 1 ∨ k = 2 ∨ k = 3 ∨ k = 4 ∨ k = 5 ∨ k = 6 ∨ k = 7 := by omega
  rcases hc with rfl | rfl | rfl | rfl | rfl | rfl | rfl | rfl
  all_goals
    go_enter Try.func26, Try.ntmps26
    go_wp2_with fail
    refine (refLog_any _ _).mono ?_
    rintro e w' ⟨rfl, rfl⟩
    rw [H1.out]
    go_wp2_with fail
    go_ret
    exact ⟨rfl, rfl⟩
end Go.Proofs.Ytlpfcacmfcobcaa
