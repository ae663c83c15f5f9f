/- stamp.Get of bytes somewhat longer (the same walk as XStampb's). -/
import Derived.Test.YtpelgbcccgdlbaaStampb
namespace Go.Proofs.Ytpelgbcccgdlbaa
open Go.RowKit Go.Proofs
set_option linter.unusedVariables false

set_option maxHeartbeats 1600000 in
theorem stampGet_wide (v : Value) (l : List UInt8) (at' : Int) (w : World) (hB : Bytes w v l) (hl : l.length ≤ 140737488355328) (hat : at' ≤ 9223372036854775807) :
    Calls Try.prog 40 #[v, .int .i64 at'] w fun e w' => e = .returned (.tuple #[.int .i64 (getV l at'), .bool (getB l at')]) ∧ w = w' := by
  cases h6 : standB l.length at' 6
  · have hno : getB l at' = false := getB_false fun h => by
      have : standB l.length at' 6 = true := standB_true h.1 (by decide) (by omega)
      rw [h6] at this
      cases this
    rw [getV_false hno, hno]
    have H6 := hid h6
    clear h6 hno
    go_enter Try.func40, Try.ntmps40
    go_wp2_with fail
    refine (get_no _ _ _ _ _ hB (by omega) hat (.inr H6.out)).mono ?_
    rintro e w' ⟨rfl, rfl⟩
    go_wp2_with fail
    go_ret2
    exact ⟨rfl, rfl⟩
  obtain ⟨h60, _, h61⟩ := standB_iff.1 h6
  have hS : ((numAt l at'.toNat 6 : Nat) : Int) = (secAt l at' : Nat) := rfl
  obtain ⟨S, hSs⟩ : ∃ S : Int, S = (secAt l at' : Nat) := ⟨_, rfl⟩
  have hS0 : 0 ≤ S := by omega
  by_cases hbig : 4000000 < S
  · have hno : getB l at' = false := getB_false fun h => by omega
    rw [getV_false hno, hno]
    rw [← hSs] at hS
    have H6 := hid h6
    have HS := hid hS
    clear h6 hno hS hSs
    go_enter Try.func40, Try.ntmps40
    go_wp2_with fail
    refine (get_ok _ _ _ _ _ hB (by omega) hat (by decide) (by decide) H6.out).mono ?_
    rintro e w' ⟨rfl, rfl⟩
    rw [show (6 : Int).toNat = 6 from rfl, HS.out]
    go_wp2_with fail
    go_ret2
    exact ⟨rfl, rfl⟩
  have hle : S ≤ 4000000 := by omega
  cases h4 : standB l.length (at' + 6) 4
  · have hno : getB l at' = false := getB_false fun h => by
      have : standB l.length (at' + 6) 4 = true := standB_true (by omega) (by decide) (by omega)
      rw [h4] at this
      cases this
    rw [getV_false hno, hno]
    rw [← hSs] at hS
    have H6 := hid h6
    have H4 := hid h4
    have HS := hid hS
    clear h6 h4 hno hS hSs hbig
    go_enter Try.func40, Try.ntmps40
    go_wp2_with fail
    refine (get_ok _ _ _ _ _ hB (by omega) hat (by decide) (by decide) H6.out).mono ?_
    rintro e w' ⟨rfl, rfl⟩
    rw [show (6 : Int).toNat = 6 from rfl, HS.out]
    go_wp2_with fail
    refine (get_no _ _ _ _ _ hB (by omega) (by omega) (.inr H4.out)).mono ?_
    rintro e w' ⟨rfl, rfl⟩
    go_wp2_with fail
    go_ret2
    exact ⟨rfl, rfl⟩
  obtain ⟨h40, _, h41⟩ := standB_iff.1 h4
  have hN : ((numAt l (at' + 6).toNat 4 : Nat) : Int) = (nanAt l at' : Nat) := rfl
  have hNlt : ((nanAt l at' : Nat) : Int) < 4294967296 := by have := nanAt_lt l at'; omega
  obtain ⟨N, hNs⟩ : ∃ N : Int, N = (nanAt l at' : Nat) := ⟨_, rfl⟩
  have hN0 : 0 ≤ N := by omega
  by_cases hbn : 1000000000 ≤ N
  · have hno : getB l at' = false := getB_false fun h => by omega
    rw [getV_false hno, hno]
    rw [← hSs] at hS
    rw [← hNs] at hN hNlt
    have H6 := hid h6
    have H4 := hid h4
    have HS := hid hS
    have HN := hid hN
    clear h6 h4 hno hS hSs hbig hN hNs
    go_enter Try.func40, Try.ntmps40
    go_wp2_with fail
    refine (get_ok _ _ _ _ _ hB (by omega) hat (by decide) (by decide) H6.out).mono ?_
    rintro e w' ⟨rfl, rfl⟩
    rw [show (6 : Int).toNat = 6 from rfl, HS.out]
    go_wp2_with fail
    refine (get_ok _ _ _ _ _ hB (by omega) (by omega) (by decide) (by decide) H4.out).mono ?_
    rintro e w' ⟨rfl, rfl⟩
    rw [show (4 : Int).toNat = 4 from rfl, HN.out]
    go_wp2_with fail
    go_ret2
    exact ⟨rfl, rfl⟩
  have hnlt : N < 1000000000 := by omega
  cases hm : mayB (S * 1000000000 + N)
  · have hno : getB l at' = false := getB_false fun h => by
      have : mayB (S * 1000000000 + N) = true := mayB_true (by omega) (by omega)
      rw [hm] at this
      cases this
    rw [getV_false hno, hno]
    rw [← hSs] at hS
    rw [← hNs] at hN hNlt
    have H6 := hid h6
    have H4 := hid h4
    have HS := hid hS
    have HN := hid hN
    have Hm := hid hm
    clear h6 h4 hno hS hSs hbig hN hNs hbn hm
    go_enter Try.func40, Try.ntmps40
    go_wp2_with fail
    refine (get_ok _ _ _ _ _ hB (by omega) hat (by decide) (by decide) H6.out).mono ?_
    rintro e w' ⟨rfl, rfl⟩
    rw [show (6 : Int).toNat = 6 from rfl, HS.out]
    go_wp2_with fail
    refine (get_ok _ _ _ _ _ hB (by omega) (by omega) (by decide) (by decide) H4.out).mono ?_
    rintro e w' ⟨rfl, rfl⟩
    rw [show (4 : Int).toNat = 4 from rfl, HN.out]
    go_wp2_with fail
    refine (may_no _ _ Hm.out).mono ?_
    rintro e w' ⟨rfl, rfl⟩
    go_wp2_with fail
    go_ret2
    exact ⟨rfl, rfl⟩
  · have hm2 := mayB_iff.1 hm
    have hyes : getB l at' = true := getB_true ⟨h60, by omega, by omega, by omega, by omega⟩
    have hV : getV l at' = S * 1000000000 + N := by rw [getV_true hyes]; omega
    rw [hV, hyes]
    rw [← hSs] at hS
    rw [← hNs] at hN hNlt
    have H6 := hid h6
    have H4 := hid h4
    have HS := hid hS
    have HN := hid hN
    have Hm := hid hm
    clear h6 h4 hyes hV hm2 hS hSs hbig hN hNs hbn hm
    go_enter Try.func40, Try.ntmps40
    go_wp2_with fail
    refine (get_ok _ _ _ _ _ hB (by omega) hat (by decide) (by decide) H6.out).mono ?_
    rintro e w' ⟨rfl, rfl⟩
    rw [show (6 : Int).toNat = 6 from rfl, HS.out]
    go_wp2_with fail
    refine (get_ok _ _ _ _ _ hB (by omega) (by omega) (by decide) (by decide) H4.out).mono ?_
    rintro e w' ⟨rfl, rfl⟩
    rw [show (4 : Int).toNat = 4 from rfl, HN.out]
    go_wp2_with fail
    refine (may_yes _ _ Hm.out).mono ?_
    rintro e w' ⟨rfl, rfl⟩
    go_wp2_with fail
    go_ret2
    exact ⟨rfl, rfl⟩
end Go.Proofs.Ytpelgbcccgdlbaa
