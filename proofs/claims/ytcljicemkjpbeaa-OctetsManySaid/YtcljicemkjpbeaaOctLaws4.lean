/- The walks of the laws of package octets: numbers one behind the other. -/
import Derived.Test.YtcljicemkjpbeaaOctc
import Derived.Deep.RegionWith
import Derived.Deep.DeepCutAuto
namespace Go.Proofs.Ytcljicemkjpbeaa
open Go.RowKit Go.Proofs
set_option linter.unusedVariables false

open Go.RowKit Go.Proofs
set_option linter.unusedVariables false

set_option maxRecDepth 100000 in
set_option maxHeartbeats 1600000 in
theorem octetsMany_walk {w : World} (v0 : Value) (z0 : List Int) (b0 : Ints w v0 z0) (r0 : z0.length * 8 ≤ 140737488351232) (a1 : Int) (w1 : (Lit.int .i64 a1).wf = true) :
    Calls Try.prog 6 #[v0, .int .i64 a1] w fun e w' => e = .returned (.bool true) ∧ Below w.heap.size w w' := by
  obtain ⟨p, cap, rfl, hcap, hmax, hat⟩ := b0
  have hmax' := hmax
  unfold maxLen at hmax'
  go_enter Try.func6, Try.ntmps6
  go_wp2_with fail
  refine (place_in _ _ _ (by decide) (by decide)).mono ?_
  rintro e w' ⟨k, rfl, hk0, hk1, _, rfl⟩
  obtain ⟨k, rfl⟩ := Int.eq_ofNat_of_zero_le hk0
  go_upto_if 18 with (fail)
  go_cut [0] (fun s0 w' => w = w' ∧ ∃ (q : Option Addr) (n : Nat) (zs : List Int), s0 = .slice q n cap ∧ n = zs.length ∧ n ≤ 100 ∧ IntsAt w q zs)
  case first =>
    by_cases h100 : 100 < (z0.length : Int)
    all_goals (go_wp2_with fail; go_meet)
    · exact ⟨rfl, _, _, z0.take 100, rfl, by rw [List.length_take]; omega, by omega, hat.take 100⟩
    · exact ⟨rfl, _, _, z0, rfl, rfl, by omega, hat⟩
  case rest =>
    obtain ⟨rfl, q, n, zs, rfl, hn, hn100, hzs⟩ := hcut
    have Hn := hid hn
    clear hn hat hcap hmax hmax'
    go_wp2_with fail
    go_loopw [6, 7] (fun b i wr => ∃ j : Nat, j ≤ n ∧ i = .int .i64 j ∧ Bytes wr b (flatS (1 + k) (zs.take j)) ∧ Below w.heap.size w wr) (fun _ i _ => n - (intOf i).toNat)
    case atStart => exact ⟨0, Nat.zero_le _, rfl, Bytes.nil w, Below.refl _ _⟩
    case round =>
      obtain ⟨j, hj, rfl, hB, hbel⟩ := hrel
      by_cases hlt : j < n
      · obtain ⟨b, off, rfl, hblt, hc⟩ := hzs.pos (by have := Hn.out; omega)
        have hcell := hc j (by have := Hn.out; omega)
        rw [← hbel.cell (p := ⟨b, off + j, none⟩) hblt] at hcell
        clear hc hzs
        go_wp2_with (go_at_call 9; refine (put_any _ _ _ _ _ hB (by rw [flatS_length _ (by omega), List.length_take]; have := Nat.mul_le_mul (show 1 + k ≤ 8 by omega) (show min j zs.length ≤ 100 by omega); omega)).mono ?_; rintro e w2 ⟨v, rfl, hown, hbel2⟩)
        go_roundw
        case rel =>
          refine ⟨j + 1, by omega, by go_num, ?_, bnext hbel hbel2⟩
          have h := hown.bytes
          rw [take_snoc zs j (by have := Hn.out; omega), flatS_snoc]
          exact h
        case measure => simp [intOf]; omega
      · obtain rfl : j = n := by omega
        rw [Hn.out, List.take_length] at hB
        have hB' := hB
        obtain ⟨pb, cb, rfl, hb1, hb2, hb3⟩ := hB
        have hlen := flatS_length (1 + k) (by omega) zs
        rw [← Hn.out] at hlen
        have hp : (1 + k) * j ≤ 800 := Nat.mul_le_mul (show 1 + k ≤ 8 by omega) hn100
        have hp1 : (1 + (k : Int)) * (j : Int) = (((1 + k) * j : Nat) : Int) := by simp
        have hstep : ∀ t, t < j → (1 + k) * t + (1 + k) ≤ (1 + k) * j := fun t ht => by
          have := Nat.mul_le_mul_left (1 + k) (show t + 1 ≤ j by omega)
          rwa [Nat.mul_add, Nat.mul_one] at this
        have hfirst : 0 < j → 1 + k ≤ (1 + k) * j := fun h => by have := hstep 0 h; omega
        generalize (1 + k) * j = P at *
        have Hlen := hid hlen
        rw [hlen] at hB' ⊢
        have HB := hid hB'
        have Hstep := hid hstep
        clear hlen hB' hb1 hb2 hb3 hstep
        go_wp2_with fail
        go_loop [8] (fun i => ∃ t : Nat, t ≤ j ∧ i = .int .i64 t) (fun i => j - (intOf i).toNat)
        case atStart => exact ⟨0, Nat.zero_le _, rfl⟩
        case round =>
          obtain ⟨t, ht, rfl⟩ := hrel
          by_cases htj : t < j
          · obtain ⟨b, off, rfl, hblt, hc⟩ := hzs.pos (by have := Hn.out; omega)
            have htz : t < zs.length := by have := Hn.out; omega
            have hcell := hc t htz
            rw [← hbel.cell (p := ⟨b, off + t, none⟩) hblt] at hcell
            have hT := Hstep.out t htj
            have hT1 : (1 + (k : Int)) * (t : Int) = (((1 + k) * t : Nat) : Int) := by simp
            have hnum := numAt_flatS (1 + k) (by omega) zs t htz
            have hmask := hand_mask k (by omega) zs[t]
            generalize (1 + k) * t = T at *
            generalize zs[t] % 256 ^ (1 + k) = r at *
            have Hnum := hid hnum
            have hst : standB (P : Int) (T : Int) (1 + (k : Int)) = true := standB_true (by omega) (by omega) (by omega)
            have Hst := hid hst
            clear hc hzs hnum hst
            go_wp2_with fail
            refine (get_ok _ _ _ _ _ HB.out (by rw [Hlen.out]; omega) (by omega) (by omega) (by omega) (by rw [Hlen.out]; exact Hst.out)).mono ?_
            rintro e w' ⟨rfl, rfl⟩
            rw [show (1 + (k : Int)).toNat = 1 + k by omega, Int.toNat_natCast, Hnum.out]
            go_wp2_with fail
            go_round
            case rel => exact ⟨t + 1, by omega, by go_num⟩
            case measure => simp [intOf]; omega
          · obtain rfl : t = j := by omega
            go_wp2_with fail
            refine (get_no _ _ _ _ _ HB.out (by rw [Hlen.out]; omega) (by omega) (.inr (by rw [Hlen.out]; exact standB_false (by omega)))).mono ?_
            rintro e w' ⟨rfl, rfl⟩
            go_wp2_with fail
            refine (awake_any _).mono ?_
            rintro e w4 ⟨rfl, hb4⟩
            go_wp2_with fail
            go_ret
            exact ⟨rfl, bnext hbel hb4⟩
end Go.Proofs.Ytcljicemkjpbeaa
