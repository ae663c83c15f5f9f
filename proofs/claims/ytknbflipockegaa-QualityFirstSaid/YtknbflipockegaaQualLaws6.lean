/- The walk of the law QualityFirst (its region: gen_quality.py). -/
import Derived.Test.YtknbflipockegaaQualBest
namespace Go.Proofs.Ytknbflipockegaa
open Go.RowKit Go.Proofs
set_option linter.unusedVariables false
set_option linter.unusedSimpArgs false

set_option maxRecDepth 100000 in
set_option maxHeartbeats 4000000 in
theorem qualityFirst_walk {w : World} (v0 : Value) (qs : List Q3) (b0 : Quals w v0 qs) (r0 : qs.length * 24 ≤ 140737488351232) :
    Calls Try.prog 7 #[v0] w fun e w' => e = .returned (.bool true) ∧ Below w.heap.size w w' := by
  obtain ⟨p, cap, rfl, hcap, hmax, hat⟩ := b0
  go_enter Try.func7, Try.ntmps7
  go_upto_if 8 with fail
  go_cut [0] (fun s0 wx => wx = w ∧ ∃ ms : List Q3, Quals w s0 ms ∧ ms.length ≤ 40)
  case first =>
    by_cases h40 : (40 : Int) < (qs.length : Int)
    · obtain ⟨b, off, rfl, hrow⟩ := hat.row (by omega)
      have hc40 : (40 : Int) ≤ (cap : Int) := by omega
      have HAT := hid hat
      have Hmax := hid hmax
      clear hrow hat hmax
      go_wp2_with fail
      go_meet
      case rel => exact ⟨rfl, qs.take 40, ⟨_, cap, by rw [List.length_take, Nat.min_eq_left (by omega)], by rw [List.length_take]; omega, Hmax.out, HAT.out.take 40⟩, by rw [List.length_take]; omega⟩
    · have HAT := hid hat
      have Hmax := hid hmax
      clear hat hmax
      go_wp2_with fail
      go_meet
      case rel => exact ⟨rfl, qs, ⟨p, cap, rfl, hcap, Hmax.out, HAT.out⟩, by omega⟩
  case rest =>
    obtain ⟨rfl, ms, hQ, h40⟩ := hcut
    clear hat hcap hmax
    obtain ⟨p', cap', rfl, hcap', hmax', hat'⟩ := id hQ
    have HAT := hid fun h => hat'.row h
    have hn := OwnQ.nil wc wc.heap.size
    clear hat' hmax'
    go_wp2_with (at_builtin; refine wpList_append_quals (o := ⟨some 12, _, _, _, _, _⟩) rfl _ _ rfl rfl wc.heap.size _ _ [] ms rfl rfl hn hQ ?_ (Nat.le_refl _) ?_; (simp; omega); intro v1 w1 hown hb1; rw [List.nil_append] at hown)
    refine (best_any _ ms _ hown.quals).mono ?_
    rintro e w2 ⟨rfl, hb2⟩
    have hb12 := hb1.trans (hb2.mono hb1.size)
    clear hown hn hQ hb1 hb2
    by_cases h0 : ms.length = 0
    · obtain rfl : ms = [] := List.eq_nil_of_length_eq_zero h0
      rw [show bestN [] ([] : List Q3).length = -1 from rfl]
      clear h0 HAT
      go_wp2_with fail
      refine (awake05_any _).mono ?_
      rintro e w3 ⟨rfl, hb3⟩
      go_wp2_with fail
      go_ret
      exact ⟨rfl, bnext hb12 hb3⟩
    · obtain ⟨b, off, rfl, hrow⟩ := HAT.out (by omega)
      have HR := hid (hrow.below hb12)
      have HBest := hid (fun i hi => bestN_best ms ms.length i hi)
      obtain ⟨hK0, hKl⟩ : 0 ≤ bestN ms ms.length ∧ bestN ms ms.length < ms.length := by
        rcases bestN_range ms ms.length with h | h
        · omega
        · exact h
      generalize bestN ms ms.length = B at *
      obtain ⟨K, rfl⟩ := Int.eq_ofNat_of_zero_le hK0
      have hKn : K < ms.length := by omega
      clear hrow
      go_wp2_with fail
      go_loopw [4] (fun i wr => ∃ k : Nat, k ≤ ms.length ∧ i = .int .i64 k ∧ Below w2.heap.size w2 wr) (fun i _ => ms.length - (intOf i).toNat)
      case atStart => exact ⟨0, Nat.zero_le _, rfl, Below.refl _ _⟩
      case round =>
        obtain ⟨k, hk, rfl, hbel⟩ := hrel
        by_cases hlt : k < ms.length
        · obtain ⟨c, a, v, hq, HX, HY, HZ⟩ := (HR.out.below hbel).get K hKn
          obtain ⟨c', a', v', hq', HU, HV, HT⟩ := (HR.out.below hbel).get k hlt
          obtain ⟨hle, hls⟩ := HBest.out k hlt
          rw [hq, hq'] at hle hls
          have hle' : cmpQ c a v c' a' v' ≤ 0 := hle
          have hls' : (k : Int) < K → cmpQ c a v c' a' v' < 0 := hls
          generalize hX : cmpQ c a v c' a' v' = X at *
          have HX' := hid hX
          have HLS := hid hls'
          have hx0 : ¬ 0 < X := by omega
          clear hle hls hls' hX hq hq' hle'
          go_upto_region 11 with fail
          -- REGION first
          refine wp_region_held_drew (S := fun w' => Below wr.drew.heap.size wr.drew w') (by kernel_rfl) (Below.refl _ _) ?_
          intro hHeld
          have hbW := Below.drew (Below.refl wr.heap.size wr)
          generalize wr.drew = wd at *
          have hcX := fun wx h => HX.out wx (bnext hbW h)
          have hcY := fun wx h => HY.out wx (bnext hbW h)
          have hcZ := fun wx h => HZ.out wx (bnext hbW h)
          have hcU := fun wx h => HU.out wx (bnext hbW h)
          have hcV := fun wx h => HV.out wx (bnext hbW h)
          have hcT := fun wx h => HT.out wx (bnext hbW h)
          refine rtake 0 rfl (by rfl) (by kernel_rfl) (by kernel_rfl) (by kernel_rfl) (fun _ _ _ h => h) hHeld (fun wx hwx => by go_simp; try with_reducible rfl) ?_
          try simp only [Act.put, List.setIfInBounds_toArray, List.set_cons_zero, List.set_cons_succ]
          refine rtake 1 rfl (by rfl) (by kernel_rfl) (by kernel_rfl) (by kernel_rfl) (fun _ _ _ h => h) hHeld (fun wx hwx => by go_simp; try with_reducible rfl) ?_
          try simp only [Act.put, List.setIfInBounds_toArray, List.set_cons_zero, List.set_cons_succ]
          refine rtake 2 rfl (by rfl) (by kernel_rfl) (by kernel_rfl) (by kernel_rfl) (fun _ _ _ h => h) hHeld (fun wx hwx => by go_simp; try with_reducible rfl) ?_
          try simp only [Act.put, List.setIfInBounds_toArray, List.set_cons_zero, List.set_cons_succ]
          refine rtake 3 rfl (by rfl) (by kernel_rfl) (by kernel_rfl) (by kernel_rfl) (fun _ _ _ h => h) hHeld (fun wx hwx => by go_simp; try with_reducible rfl) ?_
          try simp only [Act.put, List.setIfInBounds_toArray, List.set_cons_zero, List.set_cons_succ]
          refine rtake 4 rfl (by rfl) (by kernel_rfl) (by kernel_rfl) (by kernel_rfl) (fun _ _ _ h => h) hHeld (fun wx hwx => by go_simp; try with_reducible rfl) ?_
          try simp only [Act.put, List.setIfInBounds_toArray, List.set_cons_zero, List.set_cons_succ]
          refine rtake 5 rfl (by rfl) (by kernel_rfl) (by kernel_rfl) (by kernel_rfl) (fun _ _ _ h => h) hHeld (fun wx hwx => by go_simp; try with_reducible rfl) ?_
          try simp only [Act.put, List.setIfInBounds_toArray, List.set_cons_zero, List.set_cons_succ]
          refine rtake 6 rfl (by rfl) (by kernel_rfl) (by kernel_rfl) (by kernel_rfl) (fun _ _ _ h => h) hHeld (fun wx hwx => by go_simp; try with_reducible rfl) ?_
          try simp only [Act.put, List.setIfInBounds_toArray, List.set_cons_zero, List.set_cons_succ]
          refine rtake 7 rfl (by rfl) (by kernel_rfl) (by kernel_rfl) (by kernel_rfl) (fun _ _ _ h => h) hHeld (fun wx hwx => by go_simp; try with_reducible rfl) ?_
          try simp only [Act.put, List.setIfInBounds_toArray, List.set_cons_zero, List.set_cons_succ]
          -- CALL 8: some 44 := Op.call { callee := Callee.value (Operand.func 17), args := #[Operand.tmp 39, Operand.tmp 43], argTypes := #[24, 24] }
          refine rcall 8 rfl (by kernel_rfl) (by rfl) (fun K hK => ?_)
          go_simp
          refine (compareQ_is HX' _).mono ?_
          rintro e wx8 ⟨rfl, hbel⟩
          refine hK.out _ _ hbel ?_
          clear hK K
          refine wpAnyH_mono (S' := fun w' => Below wx8.heap.size wx8 w') (fun w' h => bnext hbel h) _ _ _ _ ?_
          have hH := Below.refl wx8.heap.size wx8
          have hW := bnext hbW hbel
          clear hbel hbW hHeld
          have hHeld := hH
          have hbW := hW
          clear hH hW
          have hsz8 := hbW.size
          replace hcX := fun wx h => HX.out wx (bnext hbW h)
          replace hcY := fun wx h => HY.out wx (bnext hbW h)
          replace hcZ := fun wx h => HZ.out wx (bnext hbW h)
          replace hcU := fun wx h => HU.out wx (bnext hbW h)
          replace hcV := fun wx h => HV.out wx (bnext hbW h)
          replace hcT := fun wx h => HT.out wx (bnext hbW h)
          try simp only [Act.put, List.setIfInBounds_toArray, List.set_cons_zero, List.set_cons_succ]
          refine rtake 9 rfl (by rfl) (by kernel_rfl) (by kernel_rfl) (by kernel_rfl) (fun _ _ _ h => h) hHeld (fun wx hwx => by go_simp; try with_reducible rfl) ?_
          try simp only [Act.put, List.setIfInBounds_toArray, List.set_cons_zero, List.set_cons_succ]
          refine wpAnyH_done (by kernel_rfl) ?_ _
          -- END REGION first
          by_cases hik : (k : Int) < (K : Int)
          · have hneg := HLS.out hik
            have hne : (X == 0) = false := beq_false_of_ne (by omega)
            go_wp2_with fail
            go_roundw
            case rel => exact ⟨k + 1, by omega, by go_num, bnext hbel hbW⟩
            case measure => simp [intOf]; omega
          · go_wp2_with fail
            go_roundw
            case rel => exact ⟨k + 1, by omega, by go_num, bnext hbel hbW⟩
            case measure => simp [intOf]; omega
        · obtain rfl : k = ms.length := by omega
          go_wp2_with fail
          refine (awake05_any _).mono ?_
          rintro e w3 ⟨rfl, hb3⟩
          go_wp2_with fail
          go_ret
          exact ⟨rfl, bnext hb12 (bnext hbel hb3)⟩
end Go.Proofs.Ytknbflipockegaa
