/- The walk of the law HeaderTypes (gen_types.py). -/
import Derived.Test.YtomfpmoglamflaaHeadAwake
import Derived.Test.YtomfpmoglamflaaHeadIgn
namespace Go.Proofs.Ytomfpmoglamflaa
open Go.RowKit Go.Proofs
set_option linter.unusedVariables false
set_option linter.unusedSimpArgs false

/-- How many types there are from -2 on, of k numbers. -/
def cntK : Nat → Int
  | 0 => 0
  | k + 1 => cntK k + (if knownB ((k : Int) - 2) then 1 else 0)

theorem own_at {w : World} {base g cap n : Nat} {l : List UInt8} (h : Own w base (.slice (some ⟨g, 0, none⟩) n cap) l) (i : Nat) (v : UInt8) (hv : l[i]? = some v) : w.cell? ⟨g, i, none⟩ = some (bv v) := by
  obtain ⟨hi, rfl⟩ := List.getElem?_eq_some_iff.1 hv
  exact h.cell i hi

/-- A message of that type alone. -/
def hdT (t : Int) : Hd := ⟨t, 0, 0, 0, 0, 0, 0, 0⟩

theorem putB_type (t : Int) : putB (hdT t) 34 = knownB t := by
  unfold putB checkB hdT inB mayP
  simp

set_option maxRecDepth 100000 in
set_option maxHeartbeats 8000000 in
theorem headerTypes_walk (w : World) :
    Calls Try.prog 9 #[] w fun e w' => e = .returned (.bool true) ∧ Below w.heap.size w w' := by
  go_enter Try.func9, Try.ntmps9
  go_wp2_with fail
  go_loopw [1, 2] (fun n t wr => ∃ (k : Nat) (T N : Int), k ≤ 22 ∧ Hid (T = (k : Int) - 2) ∧ -2 ≤ T ∧ n = .int .i64 N ∧ t = .int .i64 T ∧ Hid (N = cntK k) ∧ 0 ≤ N ∧ N ≤ k ∧ Below w.heap.size w wr) (fun _ t _ => (20 - intOf t).toNat)
  case atStart => exact ⟨0, _, _, by decide, hid rfl, by decide, rfl, rfl, hid rfl, by decide, by decide, Below.refl _ _⟩
  case round =>
    obtain ⟨k, T, N, hk, hT, hT2, rfl, rfl, hN, hN0, hNk, hb⟩ := hrel
    by_cases hlt : T < 20
    · cases hkn : knownB T
      · have hP : putB (hdT T) 34 = false := by rw [putB_type, hkn]
        have hN2 : Hid (N = cntK (k + 1)) := hid (show N = cntK k + (if knownB ((k : Int) - 2) then 1 else 0) by rw [← hN.out, ← hT.out, hkn]; simp)
        clear hN
        go_wp2_with fail
        refine (headPut_no (hdT T) zr 34 _ rfl hP).mono ?_
        rintro e w1 ⟨rfl, hb1⟩
        clear hP
        go_wp2_with fail
        refine (known_any _ _).mono ?_
        rintro e w' ⟨rfl, rfl⟩
        rw [hkn]
        go_wp2_with fail
        go_roundw
        case rel => exact ⟨k + 1, _, _, by have := hT.out; omega, hid (by have := hT.out; omega), by omega, rfl, rfl, hN2, hN0, by omega, bnext hb hb1⟩
        case measure => simp [intOf]; omega
      · have hN2 : Hid (N + 1 = cntK (k + 1)) := hid (show N + 1 = cntK k + (if knownB ((k : Int) - 2) then 1 else 0) by rw [← hN.out, ← hT.out, hkn]; simp)
        clear hN
        rcases known_or hkn with rfl | rfl | rfl | rfl | rfl | rfl | rfl | rfl | rfl | rfl
        · go_wp2_with fail
          refine (headPut_yes (hdT 0) zr 34 _ rfl (by decide) (by decide)).mono ?_
          rintro e w1 ⟨v1, rfl, own, hb1⟩
          obtain ⟨g, cap, rfl, hcap, -, hmax, hg⟩ := own.form (by rw [headS_length]; decide)
          rw [headS_length] at hcap own ⊢
          have hc0 : w1.cell? ⟨g, 0, none⟩ = some (.int .u8 0) := own_at own 0 0 (by decide +kernel)
          have hc32 : w1.cell? ⟨g, 32, none⟩ = some (.int .u8 0) := own_at own 32 0 (by decide +kernel)
          have hc1 : w1.cell? ⟨g, 1, none⟩ = some (.int .u8 18) := own_at own 1 18 (by decide +kernel)
          have hc2 : w1.cell? ⟨g, 2, none⟩ = some (.int .u8 0) := own_at own 2 0 (by decide +kernel)
          have hc3 : w1.cell? ⟨g, 3, none⟩ = some (.int .u8 34) := own_at own 3 34 (by decide +kernel)
          clear own hkn hcap hmax hg
          go_wp2_with fail
          refine (known_any _ _).mono ?_
          rintro e w' ⟨rfl, rfl⟩
          rw [show knownB 0 = true by decide]
          go_wp2_with fail
          go_roundw
          case rel => exact ⟨k + 1, _, _, by have := hT.out; omega, hid (by have := hT.out; omega), by decide, rfl, rfl, hN2, by omega, by omega, bnext hb hb1⟩
          case measure => simp [intOf]
        · go_wp2_with fail
          refine (headPut_yes (hdT 1) zr 34 _ rfl (by decide) (by decide)).mono ?_
          rintro e w1 ⟨v1, rfl, own, hb1⟩
          obtain ⟨g, cap, rfl, hcap, -, hmax, hg⟩ := own.form (by rw [headS_length]; decide)
          rw [headS_length] at hcap own ⊢
          have hc0 : w1.cell? ⟨g, 0, none⟩ = some (.int .u8 1) := own_at own 0 1 (by decide +kernel)
          have hc32 : w1.cell? ⟨g, 32, none⟩ = some (.int .u8 1) := own_at own 32 1 (by decide +kernel)
          have hc1 : w1.cell? ⟨g, 1, none⟩ = some (.int .u8 18) := own_at own 1 18 (by decide +kernel)
          have hc2 : w1.cell? ⟨g, 2, none⟩ = some (.int .u8 0) := own_at own 2 0 (by decide +kernel)
          have hc3 : w1.cell? ⟨g, 3, none⟩ = some (.int .u8 34) := own_at own 3 34 (by decide +kernel)
          clear own hkn hcap hmax hg
          go_wp2_with fail
          refine (known_any _ _).mono ?_
          rintro e w' ⟨rfl, rfl⟩
          rw [show knownB 1 = true by decide]
          go_wp2_with fail
          go_roundw
          case rel => exact ⟨k + 1, _, _, by have := hT.out; omega, hid (by have := hT.out; omega), by decide, rfl, rfl, hN2, by omega, by omega, bnext hb hb1⟩
          case measure => simp [intOf]
        · go_wp2_with fail
          refine (headPut_yes (hdT 2) zr 34 _ rfl (by decide) (by decide)).mono ?_
          rintro e w1 ⟨v1, rfl, own, hb1⟩
          obtain ⟨g, cap, rfl, hcap, -, hmax, hg⟩ := own.form (by rw [headS_length]; decide)
          rw [headS_length] at hcap own ⊢
          have hc0 : w1.cell? ⟨g, 0, none⟩ = some (.int .u8 2) := own_at own 0 2 (by decide +kernel)
          have hc32 : w1.cell? ⟨g, 32, none⟩ = some (.int .u8 5) := own_at own 32 5 (by decide +kernel)
          have hc1 : w1.cell? ⟨g, 1, none⟩ = some (.int .u8 18) := own_at own 1 18 (by decide +kernel)
          have hc2 : w1.cell? ⟨g, 2, none⟩ = some (.int .u8 0) := own_at own 2 0 (by decide +kernel)
          have hc3 : w1.cell? ⟨g, 3, none⟩ = some (.int .u8 34) := own_at own 3 34 (by decide +kernel)
          clear own hkn hcap hmax hg
          go_wp2_with fail
          refine (known_any _ _).mono ?_
          rintro e w' ⟨rfl, rfl⟩
          rw [show knownB 2 = true by decide]
          go_wp2_with fail
          go_roundw
          case rel => exact ⟨k + 1, _, _, by have := hT.out; omega, hid (by have := hT.out; omega), by decide, rfl, rfl, hN2, by omega, by omega, bnext hb hb1⟩
          case measure => simp [intOf]
        · go_wp2_with fail
          refine (headPut_yes (hdT 3) zr 34 _ rfl (by decide) (by decide)).mono ?_
          rintro e w1 ⟨v1, rfl, own, hb1⟩
          obtain ⟨g, cap, rfl, hcap, -, hmax, hg⟩ := own.form (by rw [headS_length]; decide)
          rw [headS_length] at hcap own ⊢
          have hc0 : w1.cell? ⟨g, 0, none⟩ = some (.int .u8 3) := own_at own 0 3 (by decide +kernel)
          have hc32 : w1.cell? ⟨g, 32, none⟩ = some (.int .u8 5) := own_at own 32 5 (by decide +kernel)
          have hc1 : w1.cell? ⟨g, 1, none⟩ = some (.int .u8 18) := own_at own 1 18 (by decide +kernel)
          have hc2 : w1.cell? ⟨g, 2, none⟩ = some (.int .u8 0) := own_at own 2 0 (by decide +kernel)
          have hc3 : w1.cell? ⟨g, 3, none⟩ = some (.int .u8 34) := own_at own 3 34 (by decide +kernel)
          clear own hkn hcap hmax hg
          go_wp2_with fail
          refine (known_any _ _).mono ?_
          rintro e w' ⟨rfl, rfl⟩
          rw [show knownB 3 = true by decide]
          go_wp2_with fail
          go_roundw
          case rel => exact ⟨k + 1, _, _, by have := hT.out; omega, hid (by have := hT.out; omega), by decide, rfl, rfl, hN2, by omega, by omega, bnext hb hb1⟩
          case measure => simp [intOf]
        · go_wp2_with fail
          refine (headPut_yes (hdT 8) zr 34 _ rfl (by decide) (by decide)).mono ?_
          rintro e w1 ⟨v1, rfl, own, hb1⟩
          obtain ⟨g, cap, rfl, hcap, -, hmax, hg⟩ := own.form (by rw [headS_length]; decide)
          rw [headS_length] at hcap own ⊢
          have hc0 : w1.cell? ⟨g, 0, none⟩ = some (.int .u8 8) := own_at own 0 8 (by decide +kernel)
          have hc32 : w1.cell? ⟨g, 32, none⟩ = some (.int .u8 2) := own_at own 32 2 (by decide +kernel)
          have hc1 : w1.cell? ⟨g, 1, none⟩ = some (.int .u8 18) := own_at own 1 18 (by decide +kernel)
          have hc2 : w1.cell? ⟨g, 2, none⟩ = some (.int .u8 0) := own_at own 2 0 (by decide +kernel)
          have hc3 : w1.cell? ⟨g, 3, none⟩ = some (.int .u8 34) := own_at own 3 34 (by decide +kernel)
          clear own hkn hcap hmax hg
          go_wp2_with fail
          refine (known_any _ _).mono ?_
          rintro e w' ⟨rfl, rfl⟩
          rw [show knownB 8 = true by decide]
          go_wp2_with fail
          go_roundw
          case rel => exact ⟨k + 1, _, _, by have := hT.out; omega, hid (by have := hT.out; omega), by decide, rfl, rfl, hN2, by omega, by omega, bnext hb hb1⟩
          case measure => simp [intOf]
        · go_wp2_with fail
          refine (headPut_yes (hdT 9) zr 34 _ rfl (by decide) (by decide)).mono ?_
          rintro e w1 ⟨v1, rfl, own, hb1⟩
          obtain ⟨g, cap, rfl, hcap, -, hmax, hg⟩ := own.form (by rw [headS_length]; decide)
          rw [headS_length] at hcap own ⊢
          have hc0 : w1.cell? ⟨g, 0, none⟩ = some (.int .u8 9) := own_at own 0 9 (by decide +kernel)
          have hc32 : w1.cell? ⟨g, 32, none⟩ = some (.int .u8 3) := own_at own 32 3 (by decide +kernel)
          have hc1 : w1.cell? ⟨g, 1, none⟩ = some (.int .u8 18) := own_at own 1 18 (by decide +kernel)
          have hc2 : w1.cell? ⟨g, 2, none⟩ = some (.int .u8 0) := own_at own 2 0 (by decide +kernel)
          have hc3 : w1.cell? ⟨g, 3, none⟩ = some (.int .u8 34) := own_at own 3 34 (by decide +kernel)
          clear own hkn hcap hmax hg
          go_wp2_with fail
          refine (known_any _ _).mono ?_
          rintro e w' ⟨rfl, rfl⟩
          rw [show knownB 9 = true by decide]
          go_wp2_with fail
          go_roundw
          case rel => exact ⟨k + 1, _, _, by have := hT.out; omega, hid (by have := hT.out; omega), by decide, rfl, rfl, hN2, by omega, by omega, bnext hb hb1⟩
          case measure => simp [intOf]
        · go_wp2_with fail
          refine (headPut_yes (hdT 10) zr 34 _ rfl (by decide) (by decide)).mono ?_
          rintro e w1 ⟨v1, rfl, own, hb1⟩
          obtain ⟨g, cap, rfl, hcap, -, hmax, hg⟩ := own.form (by rw [headS_length]; decide)
          rw [headS_length] at hcap own ⊢
          have hc0 : w1.cell? ⟨g, 0, none⟩ = some (.int .u8 10) := own_at own 0 10 (by decide +kernel)
          have hc32 : w1.cell? ⟨g, 32, none⟩ = some (.int .u8 5) := own_at own 32 5 (by decide +kernel)
          have hc1 : w1.cell? ⟨g, 1, none⟩ = some (.int .u8 18) := own_at own 1 18 (by decide +kernel)
          have hc2 : w1.cell? ⟨g, 2, none⟩ = some (.int .u8 0) := own_at own 2 0 (by decide +kernel)
          have hc3 : w1.cell? ⟨g, 3, none⟩ = some (.int .u8 34) := own_at own 3 34 (by decide +kernel)
          clear own hkn hcap hmax hg
          go_wp2_with fail
          refine (known_any _ _).mono ?_
          rintro e w' ⟨rfl, rfl⟩
          rw [show knownB 10 = true by decide]
          go_wp2_with fail
          go_roundw
          case rel => exact ⟨k + 1, _, _, by have := hT.out; omega, hid (by have := hT.out; omega), by decide, rfl, rfl, hN2, by omega, by omega, bnext hb hb1⟩
          case measure => simp [intOf]
        · go_wp2_with fail
          refine (headPut_yes (hdT 11) zr 34 _ rfl (by decide) (by decide)).mono ?_
          rintro e w1 ⟨v1, rfl, own, hb1⟩
          obtain ⟨g, cap, rfl, hcap, -, hmax, hg⟩ := own.form (by rw [headS_length]; decide)
          rw [headS_length] at hcap own ⊢
          have hc0 : w1.cell? ⟨g, 0, none⟩ = some (.int .u8 11) := own_at own 0 11 (by decide +kernel)
          have hc32 : w1.cell? ⟨g, 32, none⟩ = some (.int .u8 5) := own_at own 32 5 (by decide +kernel)
          have hc1 : w1.cell? ⟨g, 1, none⟩ = some (.int .u8 18) := own_at own 1 18 (by decide +kernel)
          have hc2 : w1.cell? ⟨g, 2, none⟩ = some (.int .u8 0) := own_at own 2 0 (by decide +kernel)
          have hc3 : w1.cell? ⟨g, 3, none⟩ = some (.int .u8 34) := own_at own 3 34 (by decide +kernel)
          clear own hkn hcap hmax hg
          go_wp2_with fail
          refine (known_any _ _).mono ?_
          rintro e w' ⟨rfl, rfl⟩
          rw [show knownB 11 = true by decide]
          go_wp2_with fail
          go_roundw
          case rel => exact ⟨k + 1, _, _, by have := hT.out; omega, hid (by have := hT.out; omega), by decide, rfl, rfl, hN2, by omega, by omega, bnext hb hb1⟩
          case measure => simp [intOf]
        · go_wp2_with fail
          refine (headPut_yes (hdT 12) zr 34 _ rfl (by decide) (by decide)).mono ?_
          rintro e w1 ⟨v1, rfl, own, hb1⟩
          obtain ⟨g, cap, rfl, hcap, -, hmax, hg⟩ := own.form (by rw [headS_length]; decide)
          rw [headS_length] at hcap own ⊢
          have hc0 : w1.cell? ⟨g, 0, none⟩ = some (.int .u8 12) := own_at own 0 12 (by decide +kernel)
          have hc32 : w1.cell? ⟨g, 32, none⟩ = some (.int .u8 5) := own_at own 32 5 (by decide +kernel)
          have hc1 : w1.cell? ⟨g, 1, none⟩ = some (.int .u8 18) := own_at own 1 18 (by decide +kernel)
          have hc2 : w1.cell? ⟨g, 2, none⟩ = some (.int .u8 0) := own_at own 2 0 (by decide +kernel)
          have hc3 : w1.cell? ⟨g, 3, none⟩ = some (.int .u8 34) := own_at own 3 34 (by decide +kernel)
          clear own hkn hcap hmax hg
          go_wp2_with fail
          refine (known_any _ _).mono ?_
          rintro e w' ⟨rfl, rfl⟩
          rw [show knownB 12 = true by decide]
          go_wp2_with fail
          go_roundw
          case rel => exact ⟨k + 1, _, _, by have := hT.out; omega, hid (by have := hT.out; omega), by decide, rfl, rfl, hN2, by omega, by omega, bnext hb hb1⟩
          case measure => simp [intOf]
        · go_wp2_with fail
          refine (headPut_yes (hdT 13) zr 34 _ rfl (by decide) (by decide)).mono ?_
          rintro e w1 ⟨v1, rfl, own, hb1⟩
          obtain ⟨g, cap, rfl, hcap, -, hmax, hg⟩ := own.form (by rw [headS_length]; decide)
          rw [headS_length] at hcap own ⊢
          have hc0 : w1.cell? ⟨g, 0, none⟩ = some (.int .u8 13) := own_at own 0 13 (by decide +kernel)
          have hc32 : w1.cell? ⟨g, 32, none⟩ = some (.int .u8 4) := own_at own 32 4 (by decide +kernel)
          have hc1 : w1.cell? ⟨g, 1, none⟩ = some (.int .u8 18) := own_at own 1 18 (by decide +kernel)
          have hc2 : w1.cell? ⟨g, 2, none⟩ = some (.int .u8 0) := own_at own 2 0 (by decide +kernel)
          have hc3 : w1.cell? ⟨g, 3, none⟩ = some (.int .u8 34) := own_at own 3 34 (by decide +kernel)
          clear own hkn hcap hmax hg
          go_wp2_with fail
          refine (known_any _ _).mono ?_
          rintro e w' ⟨rfl, rfl⟩
          rw [show knownB 13 = true by decide]
          go_wp2_with fail
          go_roundw
          case rel => exact ⟨k + 1, _, _, by have := hT.out; omega, hid (by have := hT.out; omega), by decide, rfl, rfl, hN2, by omega, by omega, bnext hb hb1⟩
          case measure => simp [intOf]
    · obtain rfl : k = 22 := by have := hT.out; omega
      obtain rfl : T = 20 := hT.out
      have hN10 : N = 10 := by rw [hN.out]; decide +kernel
      subst hN10
      clear hN
      go_wp2_with fail
      refine (awake06_any _).mono ?_
      rintro e w1 ⟨rfl, hb1⟩
      go_wp2_with fail
      go_ret
      exact ⟨rfl, bnext hb hb1⟩
end Go.Proofs.Ytomfpmoglamflaa
