/- Package stamp: the contracts of its calls. -/
import Derived.Test.YtpelgbcccgdlbaaStamp
namespace Go.Proofs.Ytpelgbcccgdlbaa
open Go.RowKit Go.Proofs
set_option linter.unusedVariables false

set_option maxHeartbeats 400000 in
theorem may_any (t : Int) (w : World) :
    Calls Try.prog 35 #[.int .i64 t] w fun e w' => e = .returned (.bool (mayB t)) ∧ w = w' := by
  by_cases h0 : 0 ≤ t
  · by_cases h1 : t ≤ 4000000000000000
    · go_enter Try.func35, Try.ntmps35
      go_wp2
      go_ret
      exact ⟨ret_bool (mayB_true h0 h1).symm, rfl⟩
    · go_enter Try.func35, Try.ntmps35
      go_wp2
      go_ret
      exact ⟨ret_bool (mayB_false (.inr (by omega))).symm, rfl⟩
  · go_enter Try.func35, Try.ntmps35
    go_wp2
    go_ret
    exact ⟨ret_bool (mayB_false (.inl (by omega))).symm, rfl⟩

theorem may_yes (t : Int) (w : World) (h : mayB t = true) :
    Calls Try.prog 35 #[.int .i64 t] w fun e w' => e = .returned (.bool true) ∧ w = w' := by
  have := may_any t w
  rwa [h] at this

theorem may_no (t : Int) (w : World) (h : mayB t = false) :
    Calls Try.prog 35 #[.int .i64 t] w fun e w' => e = .returned (.bool false) ∧ w = w' := by
  have := may_any t w
  rwa [h] at this

theorem new_on {w w1 w2 : World} {l m : List UInt8} {v2 : Value} (h1 : Below w.heap.size w w1) (h2 : Own w2 w1.heap.size v2 l) (h3 : Below w1.heap.size w1 w2) (e : l = m) : NewBytes w m (.returned v2) w2 :=
  ⟨v2, rfl, e ▸ h2.mono h1.size, bnext h1 h3⟩

set_option maxHeartbeats 400000 in
theorem stampPut_any (v : Value) (l : List UInt8) (t : Int) (w : World) (hB : Bytes w v l) (hl : l.length ≤ 140737488351232) :
    Calls Try.prog 46 #[v, .int .i64 t] w (NewBytes w (l ++ stampS t)) := by
  have hin := stampT_in t
  obtain ⟨hin0, hin1⟩ := hin
  cases hm : mayB t
  · have hT : stampT t = 0 := by unfold stampT; rw [hm]; rfl
    have Hm := hid hm
    have HT := hid hT
    clear hm hT hin0 hin1
    go_enter Try.func46, Try.ntmps46
    go_wp2_with fail
    refine (may_no _ _ Hm.out).mono ?_
    rintro e w' ⟨rfl, rfl⟩
    go_wp2_with fail
    refine (put_any _ l _ _ _ hB (by omega)).mono ?_
    rintro e w1 ⟨v1, rfl, hown, hbel⟩
    go_wp2_with fail
    refine (put_any _ _ _ _ _ hown.bytes (by rw [List.length_append, putS_length _ _ (by decide) (by decide)]; simp; omega)).mono ?_
    rintro e w2 ⟨v2, rfl, hown2, hbel2⟩
    go_wp2_with fail
    go_ret
    refine new_on hbel hown2 hbel2 ?_
    unfold stampS
    rw [HT.out, List.append_assoc]
    rfl
  · have hT : stampT t = t := by unfold stampT; rw [hm]; rfl
    rw [hT] at hin0 hin1
    have Hm := hid hm
    have HT := hid hT
    clear hm hT
    go_enter Try.func46, Try.ntmps46
    go_wp2_with fail
    refine (may_yes _ _ Hm.out).mono ?_
    rintro e w' ⟨rfl, rfl⟩
    go_wp2_with fail
    refine (put_any _ l _ _ _ hB (by omega)).mono ?_
    rintro e w1 ⟨v1, rfl, hown, hbel⟩
    go_wp2_with fail
    refine (put_any _ _ _ _ _ hown.bytes (by rw [List.length_append, putS_length _ _ (by decide) (by decide)]; simp; omega)).mono ?_
    rintro e w2 ⟨v2, rfl, hown2, hbel2⟩
    go_wp2_with fail
    go_ret
    refine new_on hbel hown2 hbel2 ?_
    unfold stampS
    rw [HT.out, List.append_assoc]

set_option maxHeartbeats 1600000 in
theorem stampGet_any (v : Value) (l : List UInt8) (at' : Int) (w : World) (hB : Bytes w v l) (hl : l.length ≤ 140737488351232) (hat : at' ≤ 9223372036854775807) :
    Calls Try.prog 40 #[v, .int .i64 at'] w fun e w' => e = .returned (.tuple #[.int .i64 (getV l at'), .bool (getB l at')]) ∧ w = w' := by
  cases h6 : standB l.length at' 6
  · have hno : getB l at' = false := getB_false fun h => by
      have : standB l.length at' 6 = true := standB_true h.1 (by decide) (by omega)
      rw [h6] at this
      cases this
    rw [getV_false hno, hno]
    have H6 := hid h6
    clear h6 hno
    go_enter Try.func40, Try.ntmps40
    go_wp2_with fail
    refine (get_no _ _ _ _ _ hB (by omega) hat (.inr H6.out)).mono ?_
    rintro e w' ⟨rfl, rfl⟩
    go_wp2_with fail
    go_ret2
    exact ⟨rfl, rfl⟩
  obtain ⟨h60, _, h61⟩ := standB_iff.1 h6
  have hS : ((numAt l at'.toNat 6 : Nat) : Int) = (secAt l at' : Nat) := rfl
  obtain ⟨S, hSs⟩ : ∃ S : Int, S = (secAt l at' : Nat) := ⟨_, rfl⟩
  have hS0 : 0 ≤ S := by omega
  by_cases hbig : 4000000 < S
  · have hno : getB l at' = false := getB_false fun h => by omega
    rw [getV_false hno, hno]
    rw [← hSs] at hS
    have H6 := hid h6
    have HS := hid hS
    clear h6 hno hS hSs
    go_enter Try.func40, Try.ntmps40
    go_wp2_with fail
    refine (get_ok _ _ _ _ _ hB (by omega) hat (by decide) (by decide) H6.out).mono ?_
    rintro e w' ⟨rfl, rfl⟩
    rw [show (6 : Int).toNat = 6 from rfl, HS.out]
    go_wp2_with fail
    go_ret2
    exact ⟨rfl, rfl⟩
  have hle : S ≤ 4000000 := by omega
  cases h4 : standB l.length (at' + 6) 4
  · have hno : getB l at' = false := getB_false fun h => by
      have : standB l.length (at' + 6) 4 = true := standB_true (by omega) (by decide) (by omega)
      rw [h4] at this
      cases this
    rw [getV_false hno, hno]
    rw [← hSs] at hS
    have H6 := hid h6
    have H4 := hid h4
    have HS := hid hS
    clear h6 h4 hno hS hSs hbig
    go_enter Try.func40, Try.ntmps40
    go_wp2_with fail
    refine (get_ok _ _ _ _ _ hB (by omega) hat (by decide) (by decide) H6.out).mono ?_
    rintro e w' ⟨rfl, rfl⟩
    rw [show (6 : Int).toNat = 6 from rfl, HS.out]
    go_wp2_with fail
    refine (get_no _ _ _ _ _ hB (by omega) (by omega) (.inr H4.out)).mono ?_
    rintro e w' ⟨rfl, rfl⟩
    go_wp2_with fail
    go_ret2
    exact ⟨rfl, rfl⟩
  obtain ⟨h40, _, h41⟩ := standB_iff.1 h4
  have hN : ((numAt l (at' + 6).toNat 4 : Nat) : Int) = (nanAt l at' : Nat) := rfl
  have hNlt : ((nanAt l at' : Nat) : Int) < 4294967296 := by have := nanAt_lt l at'; omega
  obtain ⟨N, hNs⟩ : ∃ N : Int, N = (nanAt l at' : Nat) := ⟨_, rfl⟩
  have hN0 : 0 ≤ N := by omega
  by_cases hbn : 1000000000 ≤ N
  · have hno : getB l at' = false := getB_false fun h => by omega
    rw [getV_false hno, hno]
    rw [← hSs] at hS
    rw [← hNs] at hN hNlt
    have H6 := hid h6
    have H4 := hid h4
    have HS := hid hS
    have HN := hid hN
    clear h6 h4 hno hS hSs hbig hN hNs
    go_enter Try.func40, Try.ntmps40
    go_wp2_with fail
    refine (get_ok _ _ _ _ _ hB (by omega) hat (by decide) (by decide) H6.out).mono ?_
    rintro e w' ⟨rfl, rfl⟩
    rw [show (6 : Int).toNat = 6 from rfl, HS.out]
    go_wp2_with fail
    refine (get_ok _ _ _ _ _ hB (by omega) (by omega) (by decide) (by decide) H4.out).mono ?_
    rintro e w' ⟨rfl, rfl⟩
    rw [show (4 : Int).toNat = 4 from rfl, HN.out]
    go_wp2_with fail
    go_ret2
    exact ⟨rfl, rfl⟩
  have hnlt : N < 1000000000 := by omega
  cases hm : mayB (S * 1000000000 + N)
  · have hno : getB l at' = false := getB_false fun h => by
      have : mayB (S * 1000000000 + N) = true := mayB_true (by omega) (by omega)
      rw [hm] at this
      cases this
    rw [getV_false hno, hno]
    rw [← hSs] at hS
    rw [← hNs] at hN hNlt
    have H6 := hid h6
    have H4 := hid h4
    have HS := hid hS
    have HN := hid hN
    have Hm := hid hm
    clear h6 h4 hno hS hSs hbig hN hNs hbn hm
    go_enter Try.func40, Try.ntmps40
    go_wp2_with fail
    refine (get_ok _ _ _ _ _ hB (by omega) hat (by decide) (by decide) H6.out).mono ?_
    rintro e w' ⟨rfl, rfl⟩
    rw [show (6 : Int).toNat = 6 from rfl, HS.out]
    go_wp2_with fail
    refine (get_ok _ _ _ _ _ hB (by omega) (by omega) (by decide) (by decide) H4.out).mono ?_
    rintro e w' ⟨rfl, rfl⟩
    rw [show (4 : Int).toNat = 4 from rfl, HN.out]
    go_wp2_with fail
    refine (may_no _ _ Hm.out).mono ?_
    rintro e w' ⟨rfl, rfl⟩
    go_wp2_with fail
    go_ret2
    exact ⟨rfl, rfl⟩
  · have hm2 := mayB_iff.1 hm
    have hyes : getB l at' = true := getB_true ⟨h60, by omega, by omega, by omega, by omega⟩
    have hV : getV l at' = S * 1000000000 + N := by rw [getV_true hyes]; omega
    rw [hV, hyes]
    rw [← hSs] at hS
    rw [← hNs] at hN hNlt
    have H6 := hid h6
    have H4 := hid h4
    have HS := hid hS
    have HN := hid hN
    have Hm := hid hm
    clear h6 h4 hyes hV hm2 hS hSs hbig hN hNs hbn hm
    go_enter Try.func40, Try.ntmps40
    go_wp2_with fail
    refine (get_ok _ _ _ _ _ hB (by omega) hat (by decide) (by decide) H6.out).mono ?_
    rintro e w' ⟨rfl, rfl⟩
    rw [show (6 : Int).toNat = 6 from rfl, HS.out]
    go_wp2_with fail
    refine (get_ok _ _ _ _ _ hB (by omega) (by omega) (by decide) (by decide) H4.out).mono ?_
    rintro e w' ⟨rfl, rfl⟩
    rw [show (4 : Int).toNat = 4 from rfl, HN.out]
    go_wp2_with fail
    refine (may_yes _ _ Hm.out).mono ?_
    rintro e w' ⟨rfl, rfl⟩
    go_wp2_with fail
    go_ret2
    exact ⟨rfl, rfl⟩





end Go.Proofs.Ytpelgbcccgdlbaa
