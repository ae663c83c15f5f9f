/- The walk of the law QualityBest (its regions: gen_quality.py). -/
import Derived.Test.YtknbflipockegaaQualBest
namespace Go.Proofs.Ytknbflipockegaa
open Go.RowKit Go.Proofs
set_option linter.unusedVariables false
set_option linter.unusedSimpArgs false

theorem refCompareQ_is {c a v c' a' v' x : Int} (h : Hid (cmpQ c a v c' a' v' = x)) (w : World) :
    Calls Try.prog 16 #[qualV c a v, qualV c' a' v'] w fun e w' => e = .returned (.int .i64 x) ∧ Below w.heap.size w w' := h.out ▸ refCompareQ_any c a v c' a' v' w

set_option maxRecDepth 100000 in
set_option maxHeartbeats 8000000 in
theorem qualityBest_walk {w : World} (v0 : Value) (qs : List Q3) (b0 : Quals w v0 qs) (r0 : qs.length * 24 ≤ 140737488351232) :
    Calls Try.prog 4 #[v0] w fun e w' => e = .returned (.bool true) ∧ Below w.heap.size w w' := by
  have HQ := hid b0
  obtain ⟨p, cap, rfl, hcap, hmax, hat⟩ := b0
  have HAT := hid fun h => hat.row h
  clear hat hmax
  by_cases h30 : (30 : Int) < (qs.length : Int)
  · go_enter Try.func4, Try.ntmps4
    go_wp2_with fail
    refine (awake05_any _).mono ?_
    rintro e w3 ⟨rfl, hb3⟩
    go_wp2_with fail
    go_ret
    exact ⟨rfl, hb3⟩
  go_enter Try.func4, Try.ntmps4
  go_wp2_with fail
  go_loopw [3, 4] (fun best i wr => ∃ (k : Nat) (B : Int), k ≤ qs.length ∧ i = .int .i64 k ∧ best = .int .i64 B ∧ Hid (B = bestN qs k) ∧ Below w.heap.size w wr) (fun _ i _ => qs.length - (intOf i).toNat)
  case atStart => exact ⟨0, -1, Nat.zero_le _, rfl, rfl, hid rfl, Below.refl _ _⟩
  case round =>
    obtain ⟨k, B, hk, rfl, rfl, hB, hbel⟩ := hrel
    by_cases hlt : k < qs.length
    · obtain ⟨b, off, rfl, hrow⟩ := HAT.out (by omega)
      have HR := hid hrow
      clear hrow
      rcases bestN_range qs k with ⟨hk0, hB1⟩ | ⟨hB0, hB1⟩
      · have HN := hid (bestN_first qs k (by omega))
        obtain rfl : B = -1 := hB.out.trans hB1
        clear hB1 hk0
        go_upto_region 7 with fail
        -- REGION first
        refine wp_region_held_drew (S := fun w' => Below wr.drew.heap.size wr.drew w') (by kernel_rfl) (Below.refl _ _) ?_
        intro hHeld
        have hbW := Below.drew (Below.refl wr.heap.size wr)
        generalize wr.drew = wd at *
        refine rtake 0 rfl (by rfl) (by kernel_rfl) (by kernel_rfl) (by kernel_rfl) (fun _ _ _ h => h) hHeld (fun wx hwx => by go_simp; try with_reducible rfl) ?_
        try simp only [Act.put, List.setIfInBounds_toArray, List.set_cons_zero, List.set_cons_succ]
        refine rtake 1 rfl (by rfl) (by kernel_rfl) (by kernel_rfl) (by kernel_rfl) (fun _ _ _ h => h) hHeld (fun wx hwx => by go_simp; try with_reducible rfl) ?_
        try simp only [Act.put, List.setIfInBounds_toArray, List.set_cons_zero, List.set_cons_succ]
        refine rtake 2 rfl (by rfl) (by kernel_rfl) (by kernel_rfl) (by kernel_rfl) (fun _ _ _ h => h) hHeld (fun wx hwx => by go_simp; try with_reducible rfl) ?_
        try simp only [Act.put, List.setIfInBounds_toArray, List.set_cons_zero, List.set_cons_succ]
        refine rpass 3 rfl (by rfl) (by kernel_rfl) (by kernel_rfl) (by kernel_rfl) (fun _ _ _ h => h) hHeld ?_
        try simp only [Act.put, List.setIfInBounds_toArray, List.set_cons_zero, List.set_cons_succ]
        refine rpass 4 rfl (by rfl) (by kernel_rfl) (by kernel_rfl) (by kernel_rfl) (fun _ _ _ h => h) hHeld ?_
        try simp only [Act.put, List.setIfInBounds_toArray, List.set_cons_zero, List.set_cons_succ]
        refine rpass 5 rfl (by rfl) (by kernel_rfl) (by kernel_rfl) (by kernel_rfl) (fun _ _ _ h => h) hHeld ?_
        try simp only [Act.put, List.setIfInBounds_toArray, List.set_cons_zero, List.set_cons_succ]
        refine rpass 6 rfl (by rfl) (by kernel_rfl) (by kernel_rfl) (by kernel_rfl) (fun _ _ _ h => h) hHeld ?_
        try simp only [Act.put, List.setIfInBounds_toArray, List.set_cons_zero, List.set_cons_succ]
        refine rpass 7 rfl (by rfl) (by kernel_rfl) (by kernel_rfl) (by kernel_rfl) (fun _ _ _ h => h) hHeld ?_
        try simp only [Act.put, List.setIfInBounds_toArray, List.set_cons_zero, List.set_cons_succ]
        refine rpass 8 rfl (by rfl) (by kernel_rfl) (by kernel_rfl) (by kernel_rfl) (fun _ _ _ h => h) hHeld ?_
        try simp only [Act.put, List.setIfInBounds_toArray, List.set_cons_zero, List.set_cons_succ]
        refine rpass 9 rfl (by rfl) (by kernel_rfl) (by kernel_rfl) (by kernel_rfl) (fun _ _ _ h => h) hHeld ?_
        try simp only [Act.put, List.setIfInBounds_toArray, List.set_cons_zero, List.set_cons_succ]
        refine rpass 10 rfl (by rfl) (by kernel_rfl) (by kernel_rfl) (by kernel_rfl) (fun _ _ _ h => h) hHeld ?_
        try simp only [Act.put, List.setIfInBounds_toArray, List.set_cons_zero, List.set_cons_succ]
        refine rpass 11 rfl (by rfl) (by kernel_rfl) (by kernel_rfl) (by kernel_rfl) (fun _ _ _ h => h) hHeld ?_
        try simp only [Act.put, List.setIfInBounds_toArray, List.set_cons_zero, List.set_cons_succ]
        refine rpass 12 rfl (by rfl) (by kernel_rfl) (by kernel_rfl) (by kernel_rfl) (fun _ _ _ h => h) hHeld ?_
        try simp only [Act.put, List.setIfInBounds_toArray, List.set_cons_zero, List.set_cons_succ]
        refine rtake 13 rfl (by rfl) (by kernel_rfl) (by kernel_rfl) (by kernel_rfl) (fun _ _ _ h => h) hHeld (fun wx hwx => by go_simp; try with_reducible rfl) ?_
        try simp only [Act.put, List.setIfInBounds_toArray, List.set_cons_zero, List.set_cons_succ]
        refine wpAnyH_done (by kernel_rfl) ?_ _
        -- END REGION first
        go_wp2_with fail
        go_loopw [5] (fun j wq => ∃ m : Nat, m ≤ qs.length ∧ j = .int .i64 m ∧ Below w.heap.size w wq) (fun j _ => qs.length - (intOf j).toNat)
        case atStart => exact ⟨0, Nat.zero_le _, rfl, bnext hbel hbW⟩
        case round =>
          obtain ⟨m, hm, rfl, hbelq⟩ := hrel
          by_cases hltq : m < qs.length
          · obtain ⟨c, a, v, hq, HX, HY, HZ⟩ := (HR.out.below hbelq).get k hlt
            obtain ⟨c', a', v', hq', HU, HV, HT⟩ := (HR.out.below hbelq).get m hltq
            have HX1 : Hid (cmpQ c a v c' a' v' = cmpQ c a v c' a' v') := hid rfl
            obtain ⟨X, hX⟩ : ∃ X, cmpQ c a v c' a' v' = X := ⟨_, rfl⟩
            have HX' := hid hX
            clear hX HX1 hq hq'
            go_upto_region 12 with fail
            -- REGION firsti
            refine wp_region_held_drew (S := fun w' => Below wr.drew.heap.size wr.drew w') (by kernel_rfl) (Below.refl _ _) ?_
            intro hHeld
            have hbW := Below.drew (Below.refl wr.heap.size wr)
            generalize wr.drew = wd at *
            have hcX := fun wx h => HX.out wx (bnext hbW h)
            have hcY := fun wx h => HY.out wx (bnext hbW h)
            have hcZ := fun wx h => HZ.out wx (bnext hbW h)
            have hcU := fun wx h => HU.out wx (bnext hbW h)
            have hcV := fun wx h => HV.out wx (bnext hbW h)
            have hcT := fun wx h => HT.out wx (bnext hbW h)
            refine rtake 0 rfl (by rfl) (by kernel_rfl) (by kernel_rfl) (by kernel_rfl) (fun _ _ _ h => h) hHeld (fun wx hwx => by go_simp; try with_reducible rfl) ?_
            try simp only [Act.put, List.setIfInBounds_toArray, List.set_cons_zero, List.set_cons_succ]
            refine rtake 1 rfl (by rfl) (by kernel_rfl) (by kernel_rfl) (by kernel_rfl) (fun _ _ _ h => h) hHeld (fun wx hwx => by go_simp; try with_reducible rfl) ?_
            try simp only [Act.put, List.setIfInBounds_toArray, List.set_cons_zero, List.set_cons_succ]
            refine rtake 2 rfl (by rfl) (by kernel_rfl) (by kernel_rfl) (by kernel_rfl) (fun _ _ _ h => h) hHeld (fun wx hwx => by go_simp; try with_reducible rfl) ?_
            try simp only [Act.put, List.setIfInBounds_toArray, List.set_cons_zero, List.set_cons_succ]
            refine rtake 3 rfl (by rfl) (by kernel_rfl) (by kernel_rfl) (by kernel_rfl) (fun _ _ _ h => h) hHeld (fun wx hwx => by go_simp; try with_reducible rfl) ?_
            try simp only [Act.put, List.setIfInBounds_toArray, List.set_cons_zero, List.set_cons_succ]
            refine rtake 4 rfl (by rfl) (by kernel_rfl) (by kernel_rfl) (by kernel_rfl) (fun _ _ _ h => h) hHeld (fun wx hwx => by go_simp; try with_reducible rfl) ?_
            try simp only [Act.put, List.setIfInBounds_toArray, List.set_cons_zero, List.set_cons_succ]
            refine rtake 5 rfl (by rfl) (by kernel_rfl) (by kernel_rfl) (by kernel_rfl) (fun _ _ _ h => h) hHeld (fun wx hwx => by go_simp; try with_reducible rfl) ?_
            try simp only [Act.put, List.setIfInBounds_toArray, List.set_cons_zero, List.set_cons_succ]
            refine rtake 6 rfl (by rfl) (by kernel_rfl) (by kernel_rfl) (by kernel_rfl) (fun _ _ _ h => h) hHeld (fun wx hwx => by go_simp; try with_reducible rfl) ?_
            try simp only [Act.put, List.setIfInBounds_toArray, List.set_cons_zero, List.set_cons_succ]
            refine rtake 7 rfl (by rfl) (by kernel_rfl) (by kernel_rfl) (by kernel_rfl) (fun _ _ _ h => h) hHeld (fun wx hwx => by go_simp; try with_reducible rfl) ?_
            try simp only [Act.put, List.setIfInBounds_toArray, List.set_cons_zero, List.set_cons_succ]
            refine rtake 9 rfl (by rfl) (by kernel_rfl) (by kernel_rfl) (by kernel_rfl) (fun _ _ _ h => h) hHeld (fun wx hwx => by go_simp; try with_reducible rfl) ?_
            try simp only [Act.put, List.setIfInBounds_toArray, List.set_cons_zero, List.set_cons_succ]
            refine rtake 10 rfl (by rfl) (by kernel_rfl) (by kernel_rfl) (by kernel_rfl) (fun _ _ _ h => h) hHeld (fun wx hwx => by go_simp; try with_reducible rfl) ?_
            try simp only [Act.put, List.setIfInBounds_toArray, List.set_cons_zero, List.set_cons_succ]
            refine rtake 11 rfl (by rfl) (by kernel_rfl) (by kernel_rfl) (by kernel_rfl) (fun _ _ _ h => h) hHeld (fun wx hwx => by go_simp; try with_reducible rfl) ?_
            try simp only [Act.put, List.setIfInBounds_toArray, List.set_cons_zero, List.set_cons_succ]
            refine rtake 12 rfl (by rfl) (by kernel_rfl) (by kernel_rfl) (by kernel_rfl) (fun _ _ _ h => h) hHeld (fun wx hwx => by go_simp; try with_reducible rfl) ?_
            try simp only [Act.put, List.setIfInBounds_toArray, List.set_cons_zero, List.set_cons_succ]
            refine rtake 13 rfl (by rfl) (by kernel_rfl) (by kernel_rfl) (by kernel_rfl) (fun _ _ _ h => h) hHeld (fun wx hwx => by go_simp; try with_reducible rfl) ?_
            try simp only [Act.put, List.setIfInBounds_toArray, List.set_cons_zero, List.set_cons_succ]
            refine rtake 14 rfl (by rfl) (by kernel_rfl) (by kernel_rfl) (by kernel_rfl) (fun _ _ _ h => h) hHeld (fun wx hwx => by go_simp; try with_reducible rfl) ?_
            try simp only [Act.put, List.setIfInBounds_toArray, List.set_cons_zero, List.set_cons_succ]
            refine rtake 15 rfl (by rfl) (by kernel_rfl) (by kernel_rfl) (by kernel_rfl) (fun _ _ _ h => h) hHeld (fun wx hwx => by go_simp; try with_reducible rfl) ?_
            try simp only [Act.put, List.setIfInBounds_toArray, List.set_cons_zero, List.set_cons_succ]
            refine rtake 16 rfl (by rfl) (by kernel_rfl) (by kernel_rfl) (by kernel_rfl) (fun _ _ _ h => h) hHeld (fun wx hwx => by go_simp; try with_reducible rfl) ?_
            try simp only [Act.put, List.setIfInBounds_toArray, List.set_cons_zero, List.set_cons_succ]
            -- CALL 8: some 45 := Op.call { callee := Callee.value (Operand.func 17), args := #[Operand.tmp 40, Operand.tmp 44], argTypes := #[24, 24] }
            refine rcall 8 rfl (by kernel_rfl) (by rfl) (fun K hK => ?_)
            go_simp
            refine (compareQ_is HX' _).mono ?_
            rintro e wx8 ⟨rfl, hbel⟩
            refine hK.out _ _ hbel ?_
            clear hK K
            refine wpAnyH_mono (S' := fun w' => Below wx8.heap.size wx8 w') (fun w' h => bnext hbel h) _ _ _ _ ?_
            have hH := Below.refl wx8.heap.size wx8
            have hW := bnext hbW hbel
            clear hbel hbW hHeld
            have hHeld := hH
            have hbW := hW
            clear hH hW
            have hsz8 := hbW.size
            replace hcX := fun wx h => HX.out wx (bnext hbW h)
            replace hcY := fun wx h => HY.out wx (bnext hbW h)
            replace hcZ := fun wx h => HZ.out wx (bnext hbW h)
            replace hcU := fun wx h => HU.out wx (bnext hbW h)
            replace hcV := fun wx h => HV.out wx (bnext hbW h)
            replace hcT := fun wx h => HT.out wx (bnext hbW h)
            try simp only [Act.put, List.setIfInBounds_toArray, List.set_cons_zero, List.set_cons_succ]
            -- CALL 17: some 54 := Op.call { callee := Callee.value (Operand.func 16), args := #[Operand.tmp 49, Operand.tmp 53], argTypes := #[24, 24] }
            refine rcall 17 rfl (by kernel_rfl) (by rfl) (fun K hK => ?_)
            go_simp
            refine (refCompareQ_is HX' _).mono ?_
            rintro e wx17 ⟨rfl, hbel⟩
            refine hK.out _ _ hbel ?_
            clear hK K
            refine wpAnyH_mono (S' := fun w' => Below wx17.heap.size wx17 w') (fun w' h => bnext hbel h) _ _ _ _ ?_
            have hH := Below.refl wx17.heap.size wx17
            have hW := bnext hbW hbel
            clear hbel hbW hHeld
            have hHeld := hH
            have hbW := hW
            clear hH hW
            have hsz17 := hbW.size
            replace hcX := fun wx h => HX.out wx (bnext hbW h)
            replace hcY := fun wx h => HY.out wx (bnext hbW h)
            replace hcZ := fun wx h => HZ.out wx (bnext hbW h)
            replace hcU := fun wx h => HU.out wx (bnext hbW h)
            replace hcV := fun wx h => HV.out wx (bnext hbW h)
            replace hcT := fun wx h => HT.out wx (bnext hbW h)
            try simp only [Act.put, List.setIfInBounds_toArray, List.set_cons_zero, List.set_cons_succ]
            refine rtake 18 rfl (by rfl) (by kernel_rfl) (by kernel_rfl) (by kernel_rfl) (fun _ _ _ h => h) hHeld (fun wx hwx => by go_simp; try with_reducible rfl) ?_
            try simp only [Act.put, List.setIfInBounds_toArray, List.set_cons_zero, List.set_cons_succ]
            refine wpAnyH_done (by kernel_rfl) ?_ _
            -- END REGION firsti
            go_wp2_with fail
            go_roundw
            case rel => exact ⟨m + 1, by omega, by go_num, bnext hbelq hbW⟩
            case measure => simp [intOf]; omega
          · obtain rfl : m = qs.length := by omega
            go_wp2_with fail
            go_roundw
            case rel => exact ⟨k + 1, k, by omega, by go_num, rfl, hid HN.out.symm, hbelq⟩
            case measure => simp [intOf]; omega
      · rw [← hB.out] at hB0 hB1
        obtain ⟨K, rfl⟩ := Int.eq_ofNat_of_zero_le hB0
        have hKk : K < k := by omega
        have hKl : K < qs.length := by omega
        have hKn : ¬ (K : Int) < 0 := by omega
        obtain ⟨c, a, v, hq, HX, HY, HZ⟩ := (HR.out.below hbel).get k hlt
        obtain ⟨c', a', v', hq', HU, HV, HT⟩ := (HR.out.below hbel).get K hKl
        have hcmp : cmpT (qat qs k) (qat qs (bestN qs k)) = cmpQ c a v c' a' v' := by rw [hq, ← hB.out, hq']; rfl
        by_cases hx : cmpQ c a v c' a' v' < 0
        · have HN := hid (bestN_better qs k (by have := hB.out; omega) (by rw [hcmp]; exact hx))
          generalize hX : cmpQ c a v c' a' v' = X at *
          have HX' := hid hX
          clear hX hcmp hq hq' hB0 hB1
          go_upto_region 7 with fail
          -- REGION better
          refine wp_region_held_drew (S := fun w' => Below wr.drew.heap.size wr.drew w') (by kernel_rfl) (Below.refl _ _) ?_
          intro hHeld
          have hbW := Below.drew (Below.refl wr.heap.size wr)
          generalize wr.drew = wd at *
          have hcX := fun wx h => HX.out wx (bnext hbW h)
          have hcY := fun wx h => HY.out wx (bnext hbW h)
          have hcZ := fun wx h => HZ.out wx (bnext hbW h)
          have hcU := fun wx h => HU.out wx (bnext hbW h)
          have hcV := fun wx h => HV.out wx (bnext hbW h)
          have hcT := fun wx h => HT.out wx (bnext hbW h)
          refine rtake 0 rfl (by rfl) (by kernel_rfl) (by kernel_rfl) (by kernel_rfl) (fun _ _ _ h => h) hHeld (fun wx hwx => by go_simp; try with_reducible rfl) ?_
          try simp only [Act.put, List.setIfInBounds_toArray, List.set_cons_zero, List.set_cons_succ]
          refine rtake 1 rfl (by rfl) (by kernel_rfl) (by kernel_rfl) (by kernel_rfl) (fun _ _ _ h => h) hHeld (fun wx hwx => by go_simp; try with_reducible rfl) ?_
          try simp only [Act.put, List.setIfInBounds_toArray, List.set_cons_zero, List.set_cons_succ]
          refine rtake 2 rfl (by rfl) (by kernel_rfl) (by kernel_rfl) (by kernel_rfl) (fun _ _ _ h => h) hHeld (fun wx hwx => by go_simp; try with_reducible rfl) ?_
          try simp only [Act.put, List.setIfInBounds_toArray, List.set_cons_zero, List.set_cons_succ]
          refine rtake 3 rfl (by rfl) (by kernel_rfl) (by kernel_rfl) (by kernel_rfl) (fun _ _ _ h => h) hHeld (fun wx hwx => by go_simp; try with_reducible rfl) ?_
          try simp only [Act.put, List.setIfInBounds_toArray, List.set_cons_zero, List.set_cons_succ]
          refine rtake 4 rfl (by rfl) (by kernel_rfl) (by kernel_rfl) (by kernel_rfl) (fun _ _ _ h => h) hHeld (fun wx hwx => by go_simp; try with_reducible rfl) ?_
          try simp only [Act.put, List.setIfInBounds_toArray, List.set_cons_zero, List.set_cons_succ]
          refine rtake 5 rfl (by rfl) (by kernel_rfl) (by kernel_rfl) (by kernel_rfl) (fun _ _ _ h => h) hHeld (fun wx hwx => by go_simp; try with_reducible rfl) ?_
          try simp only [Act.put, List.setIfInBounds_toArray, List.set_cons_zero, List.set_cons_succ]
          refine rtake 6 rfl (by rfl) (by kernel_rfl) (by kernel_rfl) (by kernel_rfl) (fun _ _ _ h => h) hHeld (fun wx hwx => by go_simp; try with_reducible rfl) ?_
          try simp only [Act.put, List.setIfInBounds_toArray, List.set_cons_zero, List.set_cons_succ]
          refine rtake 7 rfl (by rfl) (by kernel_rfl) (by kernel_rfl) (by kernel_rfl) (fun _ _ _ h => h) hHeld (fun wx hwx => by go_simp; try with_reducible rfl) ?_
          try simp only [Act.put, List.setIfInBounds_toArray, List.set_cons_zero, List.set_cons_succ]
          refine rtake 8 rfl (by rfl) (by kernel_rfl) (by kernel_rfl) (by kernel_rfl) (fun _ _ _ h => h) hHeld (fun wx hwx => by go_simp; try with_reducible rfl) ?_
          try simp only [Act.put, List.setIfInBounds_toArray, List.set_cons_zero, List.set_cons_succ]
          refine rtake 9 rfl (by rfl) (by kernel_rfl) (by kernel_rfl) (by kernel_rfl) (fun _ _ _ h => h) hHeld (fun wx hwx => by go_simp; try with_reducible rfl) ?_
          try simp only [Act.put, List.setIfInBounds_toArray, List.set_cons_zero, List.set_cons_succ]
          refine rtake 10 rfl (by rfl) (by kernel_rfl) (by kernel_rfl) (by kernel_rfl) (fun _ _ _ h => h) hHeld (fun wx hwx => by go_simp; try with_reducible rfl) ?_
          try simp only [Act.put, List.setIfInBounds_toArray, List.set_cons_zero, List.set_cons_succ]
          -- CALL 11: some 27 := Op.call { callee := Callee.value (Operand.func 16), args := #[Operand.tmp 22, Operand.tmp 26], argTypes := #[24, 24] }
          refine rcall 11 rfl (by kernel_rfl) (by rfl) (fun K hK => ?_)
          go_simp
          refine (refCompareQ_is HX' _).mono ?_
          rintro e wx11 ⟨rfl, hbel⟩
          refine hK.out _ _ hbel ?_
          clear hK K
          refine wpAnyH_mono (S' := fun w' => Below wx11.heap.size wx11 w') (fun w' h => bnext hbel h) _ _ _ _ ?_
          have hH := Below.refl wx11.heap.size wx11
          have hW := bnext hbW hbel
          clear hbel hbW hHeld
          have hHeld := hH
          have hbW := hW
          clear hH hW
          have hsz11 := hbW.size
          replace hcX := fun wx h => HX.out wx (bnext hbW h)
          replace hcY := fun wx h => HY.out wx (bnext hbW h)
          replace hcZ := fun wx h => HZ.out wx (bnext hbW h)
          replace hcU := fun wx h => HU.out wx (bnext hbW h)
          replace hcV := fun wx h => HV.out wx (bnext hbW h)
          replace hcT := fun wx h => HT.out wx (bnext hbW h)
          try simp only [Act.put, List.setIfInBounds_toArray, List.set_cons_zero, List.set_cons_succ]
          refine rtake 12 rfl (by rfl) (by kernel_rfl) (by kernel_rfl) (by kernel_rfl) (fun _ _ _ h => h) hHeld (fun wx hwx => by go_simp; try with_reducible rfl) ?_
          try simp only [Act.put, List.setIfInBounds_toArray, List.set_cons_zero, List.set_cons_succ]
          refine rtake 13 rfl (by rfl) (by kernel_rfl) (by kernel_rfl) (by kernel_rfl) (fun _ _ _ h => h) hHeld (fun wx hwx => by go_simp; try with_reducible rfl) ?_
          try simp only [Act.put, List.setIfInBounds_toArray, List.set_cons_zero, List.set_cons_succ]
          refine wpAnyH_done (by kernel_rfl) ?_ _
          -- END REGION better
          clear hx hcX hcY hcZ hcU hcV hcT HX HY HZ HU HV HT HX'
          go_wp2_with fail
          go_loopw [5] (fun j wq => ∃ m : Nat, m ≤ qs.length ∧ j = .int .i64 m ∧ Below w.heap.size w wq) (fun j _ => qs.length - (intOf j).toNat)
          case atStart => exact ⟨0, Nat.zero_le _, rfl, bnext hbel hbW⟩
          case round =>
            obtain ⟨m, hm, rfl, hbelq⟩ := hrel
            by_cases hltq : m < qs.length
            · obtain ⟨c, a, v, hq, HX, HY, HZ⟩ := (HR.out.below hbelq).get k hlt
              obtain ⟨c', a', v', hq', HU, HV, HT⟩ := (HR.out.below hbelq).get m hltq
              have HX1 : Hid (cmpQ c a v c' a' v' = cmpQ c a v c' a' v') := hid rfl
              obtain ⟨X, hX⟩ : ∃ X, cmpQ c a v c' a' v' = X := ⟨_, rfl⟩
              have HX' := hid hX
              clear hX HX1 hq hq'
              go_upto_region 12 with fail
              -- REGION betteri
              refine wp_region_held_drew (S := fun w' => Below wr.drew.heap.size wr.drew w') (by kernel_rfl) (Below.refl _ _) ?_
              intro hHeld
              have hbW := Below.drew (Below.refl wr.heap.size wr)
              generalize wr.drew = wd at *
              have hcX := fun wx h => HX.out wx (bnext hbW h)
              have hcY := fun wx h => HY.out wx (bnext hbW h)
              have hcZ := fun wx h => HZ.out wx (bnext hbW h)
              have hcU := fun wx h => HU.out wx (bnext hbW h)
              have hcV := fun wx h => HV.out wx (bnext hbW h)
              have hcT := fun wx h => HT.out wx (bnext hbW h)
              refine rtake 0 rfl (by rfl) (by kernel_rfl) (by kernel_rfl) (by kernel_rfl) (fun _ _ _ h => h) hHeld (fun wx hwx => by go_simp; try with_reducible rfl) ?_
              try simp only [Act.put, List.setIfInBounds_toArray, List.set_cons_zero, List.set_cons_succ]
              refine rtake 1 rfl (by rfl) (by kernel_rfl) (by kernel_rfl) (by kernel_rfl) (fun _ _ _ h => h) hHeld (fun wx hwx => by go_simp; try with_reducible rfl) ?_
              try simp only [Act.put, List.setIfInBounds_toArray, List.set_cons_zero, List.set_cons_succ]
              refine rtake 2 rfl (by rfl) (by kernel_rfl) (by kernel_rfl) (by kernel_rfl) (fun _ _ _ h => h) hHeld (fun wx hwx => by go_simp; try with_reducible rfl) ?_
              try simp only [Act.put, List.setIfInBounds_toArray, List.set_cons_zero, List.set_cons_succ]
              refine rtake 3 rfl (by rfl) (by kernel_rfl) (by kernel_rfl) (by kernel_rfl) (fun _ _ _ h => h) hHeld (fun wx hwx => by go_simp; try with_reducible rfl) ?_
              try simp only [Act.put, List.setIfInBounds_toArray, List.set_cons_zero, List.set_cons_succ]
              refine rtake 4 rfl (by rfl) (by kernel_rfl) (by kernel_rfl) (by kernel_rfl) (fun _ _ _ h => h) hHeld (fun wx hwx => by go_simp; try with_reducible rfl) ?_
              try simp only [Act.put, List.setIfInBounds_toArray, List.set_cons_zero, List.set_cons_succ]
              refine rtake 5 rfl (by rfl) (by kernel_rfl) (by kernel_rfl) (by kernel_rfl) (fun _ _ _ h => h) hHeld (fun wx hwx => by go_simp; try with_reducible rfl) ?_
              try simp only [Act.put, List.setIfInBounds_toArray, List.set_cons_zero, List.set_cons_succ]
              refine rtake 6 rfl (by rfl) (by kernel_rfl) (by kernel_rfl) (by kernel_rfl) (fun _ _ _ h => h) hHeld (fun wx hwx => by go_simp; try with_reducible rfl) ?_
              try simp only [Act.put, List.setIfInBounds_toArray, List.set_cons_zero, List.set_cons_succ]
              refine rtake 7 rfl (by rfl) (by kernel_rfl) (by kernel_rfl) (by kernel_rfl) (fun _ _ _ h => h) hHeld (fun wx hwx => by go_simp; try with_reducible rfl) ?_
              try simp only [Act.put, List.setIfInBounds_toArray, List.set_cons_zero, List.set_cons_succ]
              refine rtake 9 rfl (by rfl) (by kernel_rfl) (by kernel_rfl) (by kernel_rfl) (fun _ _ _ h => h) hHeld (fun wx hwx => by go_simp; try with_reducible rfl) ?_
              try simp only [Act.put, List.setIfInBounds_toArray, List.set_cons_zero, List.set_cons_succ]
              refine rtake 10 rfl (by rfl) (by kernel_rfl) (by kernel_rfl) (by kernel_rfl) (fun _ _ _ h => h) hHeld (fun wx hwx => by go_simp; try with_reducible rfl) ?_
              try simp only [Act.put, List.setIfInBounds_toArray, List.set_cons_zero, List.set_cons_succ]
              refine rtake 11 rfl (by rfl) (by kernel_rfl) (by kernel_rfl) (by kernel_rfl) (fun _ _ _ h => h) hHeld (fun wx hwx => by go_simp; try with_reducible rfl) ?_
              try simp only [Act.put, List.setIfInBounds_toArray, List.set_cons_zero, List.set_cons_succ]
              refine rtake 12 rfl (by rfl) (by kernel_rfl) (by kernel_rfl) (by kernel_rfl) (fun _ _ _ h => h) hHeld (fun wx hwx => by go_simp; try with_reducible rfl) ?_
              try simp only [Act.put, List.setIfInBounds_toArray, List.set_cons_zero, List.set_cons_succ]
              refine rtake 13 rfl (by rfl) (by kernel_rfl) (by kernel_rfl) (by kernel_rfl) (fun _ _ _ h => h) hHeld (fun wx hwx => by go_simp; try with_reducible rfl) ?_
              try simp only [Act.put, List.setIfInBounds_toArray, List.set_cons_zero, List.set_cons_succ]
              refine rtake 14 rfl (by rfl) (by kernel_rfl) (by kernel_rfl) (by kernel_rfl) (fun _ _ _ h => h) hHeld (fun wx hwx => by go_simp; try with_reducible rfl) ?_
              try simp only [Act.put, List.setIfInBounds_toArray, List.set_cons_zero, List.set_cons_succ]
              refine rtake 15 rfl (by rfl) (by kernel_rfl) (by kernel_rfl) (by kernel_rfl) (fun _ _ _ h => h) hHeld (fun wx hwx => by go_simp; try with_reducible rfl) ?_
              try simp only [Act.put, List.setIfInBounds_toArray, List.set_cons_zero, List.set_cons_succ]
              refine rtake 16 rfl (by rfl) (by kernel_rfl) (by kernel_rfl) (by kernel_rfl) (fun _ _ _ h => h) hHeld (fun wx hwx => by go_simp; try with_reducible rfl) ?_
              try simp only [Act.put, List.setIfInBounds_toArray, List.set_cons_zero, List.set_cons_succ]
              -- CALL 8: some 45 := Op.call { callee := Callee.value (Operand.func 17), args := #[Operand.tmp 40, Operand.tmp 44], argTypes := #[24, 24] }
              refine rcall 8 rfl (by kernel_rfl) (by rfl) (fun K hK => ?_)
              go_simp
              refine (compareQ_is HX' _).mono ?_
              rintro e wx8 ⟨rfl, hbel⟩
              refine hK.out _ _ hbel ?_
              clear hK K
              refine wpAnyH_mono (S' := fun w' => Below wx8.heap.size wx8 w') (fun w' h => bnext hbel h) _ _ _ _ ?_
              have hH := Below.refl wx8.heap.size wx8
              have hW := bnext hbW hbel
              clear hbel hbW hHeld
              have hHeld := hH
              have hbW := hW
              clear hH hW
              have hsz8 := hbW.size
              replace hcX := fun wx h => HX.out wx (bnext hbW h)
              replace hcY := fun wx h => HY.out wx (bnext hbW h)
              replace hcZ := fun wx h => HZ.out wx (bnext hbW h)
              replace hcU := fun wx h => HU.out wx (bnext hbW h)
              replace hcV := fun wx h => HV.out wx (bnext hbW h)
              replace hcT := fun wx h => HT.out wx (bnext hbW h)
              try simp only [Act.put, List.setIfInBounds_toArray, List.set_cons_zero, List.set_cons_succ]
              -- CALL 17: some 54 := Op.call { callee := Callee.value (Operand.func 16), args := #[Operand.tmp 49, Operand.tmp 53], argTypes := #[24, 24] }
              refine rcall 17 rfl (by kernel_rfl) (by rfl) (fun K hK => ?_)
              go_simp
              refine (refCompareQ_is HX' _).mono ?_
              rintro e wx17 ⟨rfl, hbel⟩
              refine hK.out _ _ hbel ?_
              clear hK K
              refine wpAnyH_mono (S' := fun w' => Below wx17.heap.size wx17 w') (fun w' h => bnext hbel h) _ _ _ _ ?_
              have hH := Below.refl wx17.heap.size wx17
              have hW := bnext hbW hbel
              clear hbel hbW hHeld
              have hHeld := hH
              have hbW := hW
              clear hH hW
              have hsz17 := hbW.size
              replace hcX := fun wx h => HX.out wx (bnext hbW h)
              replace hcY := fun wx h => HY.out wx (bnext hbW h)
              replace hcZ := fun wx h => HZ.out wx (bnext hbW h)
              replace hcU := fun wx h => HU.out wx (bnext hbW h)
              replace hcV := fun wx h => HV.out wx (bnext hbW h)
              replace hcT := fun wx h => HT.out wx (bnext hbW h)
              try simp only [Act.put, List.setIfInBounds_toArray, List.set_cons_zero, List.set_cons_succ]
              refine rtake 18 rfl (by rfl) (by kernel_rfl) (by kernel_rfl) (by kernel_rfl) (fun _ _ _ h => h) hHeld (fun wx hwx => by go_simp; try with_reducible rfl) ?_
              try simp only [Act.put, List.setIfInBounds_toArray, List.set_cons_zero, List.set_cons_succ]
              refine wpAnyH_done (by kernel_rfl) ?_ _
              -- END REGION betteri
              go_wp2_with fail
              go_roundw
              case rel => exact ⟨m + 1, by omega, by go_num, bnext hbelq hbW⟩
              case measure => simp [intOf]; omega
            · obtain rfl : m = qs.length := by omega
              go_wp2_with fail
              go_roundw
              case rel => exact ⟨k + 1, k, by omega, by go_num, rfl, hid HN.out.symm, hbelq⟩
              case measure => simp [intOf]; omega
        · have HN := hid (bestN_keep qs k (by have := hB.out; omega) (by rw [hcmp]; exact hx))
          generalize hX : cmpQ c a v c' a' v' = X at *
          have HX' := hid hX
          clear hX hcmp hq hq' hB0 hB1
          go_upto_region 7 with fail
          -- REGION keep
          refine wp_region_held_drew (S := fun w' => Below wr.drew.heap.size wr.drew w') (by kernel_rfl) (Below.refl _ _) ?_
          intro hHeld
          have hbW := Below.drew (Below.refl wr.heap.size wr)
          generalize wr.drew = wd at *
          have hcX := fun wx h => HX.out wx (bnext hbW h)
          have hcY := fun wx h => HY.out wx (bnext hbW h)
          have hcZ := fun wx h => HZ.out wx (bnext hbW h)
          have hcU := fun wx h => HU.out wx (bnext hbW h)
          have hcV := fun wx h => HV.out wx (bnext hbW h)
          have hcT := fun wx h => HT.out wx (bnext hbW h)
          refine rtake 0 rfl (by rfl) (by kernel_rfl) (by kernel_rfl) (by kernel_rfl) (fun _ _ _ h => h) hHeld (fun wx hwx => by go_simp; try with_reducible rfl) ?_
          try simp only [Act.put, List.setIfInBounds_toArray, List.set_cons_zero, List.set_cons_succ]
          refine rtake 1 rfl (by rfl) (by kernel_rfl) (by kernel_rfl) (by kernel_rfl) (fun _ _ _ h => h) hHeld (fun wx hwx => by go_simp; try with_reducible rfl) ?_
          try simp only [Act.put, List.setIfInBounds_toArray, List.set_cons_zero, List.set_cons_succ]
          refine rtake 2 rfl (by rfl) (by kernel_rfl) (by kernel_rfl) (by kernel_rfl) (fun _ _ _ h => h) hHeld (fun wx hwx => by go_simp; try with_reducible rfl) ?_
          try simp only [Act.put, List.setIfInBounds_toArray, List.set_cons_zero, List.set_cons_succ]
          refine rtake 3 rfl (by rfl) (by kernel_rfl) (by kernel_rfl) (by kernel_rfl) (fun _ _ _ h => h) hHeld (fun wx hwx => by go_simp; try with_reducible rfl) ?_
          try simp only [Act.put, List.setIfInBounds_toArray, List.set_cons_zero, List.set_cons_succ]
          refine rtake 4 rfl (by rfl) (by kernel_rfl) (by kernel_rfl) (by kernel_rfl) (fun _ _ _ h => h) hHeld (fun wx hwx => by go_simp; try with_reducible rfl) ?_
          try simp only [Act.put, List.setIfInBounds_toArray, List.set_cons_zero, List.set_cons_succ]
          refine rtake 5 rfl (by rfl) (by kernel_rfl) (by kernel_rfl) (by kernel_rfl) (fun _ _ _ h => h) hHeld (fun wx hwx => by go_simp; try with_reducible rfl) ?_
          try simp only [Act.put, List.setIfInBounds_toArray, List.set_cons_zero, List.set_cons_succ]
          refine rtake 6 rfl (by rfl) (by kernel_rfl) (by kernel_rfl) (by kernel_rfl) (fun _ _ _ h => h) hHeld (fun wx hwx => by go_simp; try with_reducible rfl) ?_
          try simp only [Act.put, List.setIfInBounds_toArray, List.set_cons_zero, List.set_cons_succ]
          refine rtake 7 rfl (by rfl) (by kernel_rfl) (by kernel_rfl) (by kernel_rfl) (fun _ _ _ h => h) hHeld (fun wx hwx => by go_simp; try with_reducible rfl) ?_
          try simp only [Act.put, List.setIfInBounds_toArray, List.set_cons_zero, List.set_cons_succ]
          refine rtake 8 rfl (by rfl) (by kernel_rfl) (by kernel_rfl) (by kernel_rfl) (fun _ _ _ h => h) hHeld (fun wx hwx => by go_simp; try with_reducible rfl) ?_
          try simp only [Act.put, List.setIfInBounds_toArray, List.set_cons_zero, List.set_cons_succ]
          refine rtake 9 rfl (by rfl) (by kernel_rfl) (by kernel_rfl) (by kernel_rfl) (fun _ _ _ h => h) hHeld (fun wx hwx => by go_simp; try with_reducible rfl) ?_
          try simp only [Act.put, List.setIfInBounds_toArray, List.set_cons_zero, List.set_cons_succ]
          refine rtake 10 rfl (by rfl) (by kernel_rfl) (by kernel_rfl) (by kernel_rfl) (fun _ _ _ h => h) hHeld (fun wx hwx => by go_simp; try with_reducible rfl) ?_
          try simp only [Act.put, List.setIfInBounds_toArray, List.set_cons_zero, List.set_cons_succ]
          -- CALL 11: some 27 := Op.call { callee := Callee.value (Operand.func 16), args := #[Operand.tmp 22, Operand.tmp 26], argTypes := #[24, 24] }
          refine rcall 11 rfl (by kernel_rfl) (by rfl) (fun K hK => ?_)
          go_simp
          refine (refCompareQ_is HX' _).mono ?_
          rintro e wx11 ⟨rfl, hbel⟩
          refine hK.out _ _ hbel ?_
          clear hK K
          refine wpAnyH_mono (S' := fun w' => Below wx11.heap.size wx11 w') (fun w' h => bnext hbel h) _ _ _ _ ?_
          have hH := Below.refl wx11.heap.size wx11
          have hW := bnext hbW hbel
          clear hbel hbW hHeld
          have hHeld := hH
          have hbW := hW
          clear hH hW
          have hsz11 := hbW.size
          replace hcX := fun wx h => HX.out wx (bnext hbW h)
          replace hcY := fun wx h => HY.out wx (bnext hbW h)
          replace hcZ := fun wx h => HZ.out wx (bnext hbW h)
          replace hcU := fun wx h => HU.out wx (bnext hbW h)
          replace hcV := fun wx h => HV.out wx (bnext hbW h)
          replace hcT := fun wx h => HT.out wx (bnext hbW h)
          try simp only [Act.put, List.setIfInBounds_toArray, List.set_cons_zero, List.set_cons_succ]
          refine rtake 12 rfl (by rfl) (by kernel_rfl) (by kernel_rfl) (by kernel_rfl) (fun _ _ _ h => h) hHeld (fun wx hwx => by go_simp; try with_reducible rfl) ?_
          try simp only [Act.put, List.setIfInBounds_toArray, List.set_cons_zero, List.set_cons_succ]
          refine rtake 13 rfl (by rfl) (by kernel_rfl) (by kernel_rfl) (by kernel_rfl) (fun _ _ _ h => h) hHeld (fun wx hwx => by go_simp; try with_reducible rfl) ?_
          try simp only [Act.put, List.setIfInBounds_toArray, List.set_cons_zero, List.set_cons_succ]
          refine wpAnyH_done (by kernel_rfl) ?_ _
          -- END REGION keep
          clear hcX hcY hcZ hcU hcV hcT HX HY HZ HU HV HT HX'
          go_wp2_with fail
          go_loopw [5] (fun j wq => ∃ m : Nat, m ≤ qs.length ∧ j = .int .i64 m ∧ Below w.heap.size w wq) (fun j _ => qs.length - (intOf j).toNat)
          case atStart => exact ⟨0, Nat.zero_le _, rfl, bnext hbel hbW⟩
          case round =>
            obtain ⟨m, hm, rfl, hbelq⟩ := hrel
            by_cases hltq : m < qs.length
            · obtain ⟨c, a, v, hq, HX, HY, HZ⟩ := (HR.out.below hbelq).get k hlt
              obtain ⟨c', a', v', hq', HU, HV, HT⟩ := (HR.out.below hbelq).get m hltq
              have HX1 : Hid (cmpQ c a v c' a' v' = cmpQ c a v c' a' v') := hid rfl
              obtain ⟨X, hX⟩ : ∃ X, cmpQ c a v c' a' v' = X := ⟨_, rfl⟩
              have HX' := hid hX
              clear hX HX1 hq hq'
              go_upto_region 12 with fail
              -- REGION keepi
              refine wp_region_held_drew (S := fun w' => Below wr.drew.heap.size wr.drew w') (by kernel_rfl) (Below.refl _ _) ?_
              intro hHeld
              have hbW := Below.drew (Below.refl wr.heap.size wr)
              generalize wr.drew = wd at *
              have hcX := fun wx h => HX.out wx (bnext hbW h)
              have hcY := fun wx h => HY.out wx (bnext hbW h)
              have hcZ := fun wx h => HZ.out wx (bnext hbW h)
              have hcU := fun wx h => HU.out wx (bnext hbW h)
              have hcV := fun wx h => HV.out wx (bnext hbW h)
              have hcT := fun wx h => HT.out wx (bnext hbW h)
              refine rtake 0 rfl (by rfl) (by kernel_rfl) (by kernel_rfl) (by kernel_rfl) (fun _ _ _ h => h) hHeld (fun wx hwx => by go_simp; try with_reducible rfl) ?_
              try simp only [Act.put, List.setIfInBounds_toArray, List.set_cons_zero, List.set_cons_succ]
              refine rtake 1 rfl (by rfl) (by kernel_rfl) (by kernel_rfl) (by kernel_rfl) (fun _ _ _ h => h) hHeld (fun wx hwx => by go_simp; try with_reducible rfl) ?_
              try simp only [Act.put, List.setIfInBounds_toArray, List.set_cons_zero, List.set_cons_succ]
              refine rtake 2 rfl (by rfl) (by kernel_rfl) (by kernel_rfl) (by kernel_rfl) (fun _ _ _ h => h) hHeld (fun wx hwx => by go_simp; try with_reducible rfl) ?_
              try simp only [Act.put, List.setIfInBounds_toArray, List.set_cons_zero, List.set_cons_succ]
              refine rtake 3 rfl (by rfl) (by kernel_rfl) (by kernel_rfl) (by kernel_rfl) (fun _ _ _ h => h) hHeld (fun wx hwx => by go_simp; try with_reducible rfl) ?_
              try simp only [Act.put, List.setIfInBounds_toArray, List.set_cons_zero, List.set_cons_succ]
              refine rtake 4 rfl (by rfl) (by kernel_rfl) (by kernel_rfl) (by kernel_rfl) (fun _ _ _ h => h) hHeld (fun wx hwx => by go_simp; try with_reducible rfl) ?_
              try simp only [Act.put, List.setIfInBounds_toArray, List.set_cons_zero, List.set_cons_succ]
              refine rtake 5 rfl (by rfl) (by kernel_rfl) (by kernel_rfl) (by kernel_rfl) (fun _ _ _ h => h) hHeld (fun wx hwx => by go_simp; try with_reducible rfl) ?_
              try simp only [Act.put, List.setIfInBounds_toArray, List.set_cons_zero, List.set_cons_succ]
              refine rtake 6 rfl (by rfl) (by kernel_rfl) (by kernel_rfl) (by kernel_rfl) (fun _ _ _ h => h) hHeld (fun wx hwx => by go_simp; try with_reducible rfl) ?_
              try simp only [Act.put, List.setIfInBounds_toArray, List.set_cons_zero, List.set_cons_succ]
              refine rtake 7 rfl (by rfl) (by kernel_rfl) (by kernel_rfl) (by kernel_rfl) (fun _ _ _ h => h) hHeld (fun wx hwx => by go_simp; try with_reducible rfl) ?_
              try simp only [Act.put, List.setIfInBounds_toArray, List.set_cons_zero, List.set_cons_succ]
              refine rtake 9 rfl (by rfl) (by kernel_rfl) (by kernel_rfl) (by kernel_rfl) (fun _ _ _ h => h) hHeld (fun wx hwx => by go_simp; try with_reducible rfl) ?_
              try simp only [Act.put, List.setIfInBounds_toArray, List.set_cons_zero, List.set_cons_succ]
              refine rtake 10 rfl (by rfl) (by kernel_rfl) (by kernel_rfl) (by kernel_rfl) (fun _ _ _ h => h) hHeld (fun wx hwx => by go_simp; try with_reducible rfl) ?_
              try simp only [Act.put, List.setIfInBounds_toArray, List.set_cons_zero, List.set_cons_succ]
              refine rtake 11 rfl (by rfl) (by kernel_rfl) (by kernel_rfl) (by kernel_rfl) (fun _ _ _ h => h) hHeld (fun wx hwx => by go_simp; try with_reducible rfl) ?_
              try simp only [Act.put, List.setIfInBounds_toArray, List.set_cons_zero, List.set_cons_succ]
              refine rtake 12 rfl (by rfl) (by kernel_rfl) (by kernel_rfl) (by kernel_rfl) (fun _ _ _ h => h) hHeld (fun wx hwx => by go_simp; try with_reducible rfl) ?_
              try simp only [Act.put, List.setIfInBounds_toArray, List.set_cons_zero, List.set_cons_succ]
              refine rtake 13 rfl (by rfl) (by kernel_rfl) (by kernel_rfl) (by kernel_rfl) (fun _ _ _ h => h) hHeld (fun wx hwx => by go_simp; try with_reducible rfl) ?_
              try simp only [Act.put, List.setIfInBounds_toArray, List.set_cons_zero, List.set_cons_succ]
              refine rtake 14 rfl (by rfl) (by kernel_rfl) (by kernel_rfl) (by kernel_rfl) (fun _ _ _ h => h) hHeld (fun wx hwx => by go_simp; try with_reducible rfl) ?_
              try simp only [Act.put, List.setIfInBounds_toArray, List.set_cons_zero, List.set_cons_succ]
              refine rtake 15 rfl (by rfl) (by kernel_rfl) (by kernel_rfl) (by kernel_rfl) (fun _ _ _ h => h) hHeld (fun wx hwx => by go_simp; try with_reducible rfl) ?_
              try simp only [Act.put, List.setIfInBounds_toArray, List.set_cons_zero, List.set_cons_succ]
              refine rtake 16 rfl (by rfl) (by kernel_rfl) (by kernel_rfl) (by kernel_rfl) (fun _ _ _ h => h) hHeld (fun wx hwx => by go_simp; try with_reducible rfl) ?_
              try simp only [Act.put, List.setIfInBounds_toArray, List.set_cons_zero, List.set_cons_succ]
              -- CALL 8: some 45 := Op.call { callee := Callee.value (Operand.func 17), args := #[Operand.tmp 40, Operand.tmp 44], argTypes := #[24, 24] }
              refine rcall 8 rfl (by kernel_rfl) (by rfl) (fun K hK => ?_)
              go_simp
              refine (compareQ_is HX' _).mono ?_
              rintro e wx8 ⟨rfl, hbel⟩
              refine hK.out _ _ hbel ?_
              clear hK K
              refine wpAnyH_mono (S' := fun w' => Below wx8.heap.size wx8 w') (fun w' h => bnext hbel h) _ _ _ _ ?_
              have hH := Below.refl wx8.heap.size wx8
              have hW := bnext hbW hbel
              clear hbel hbW hHeld
              have hHeld := hH
              have hbW := hW
              clear hH hW
              have hsz8 := hbW.size
              replace hcX := fun wx h => HX.out wx (bnext hbW h)
              replace hcY := fun wx h => HY.out wx (bnext hbW h)
              replace hcZ := fun wx h => HZ.out wx (bnext hbW h)
              replace hcU := fun wx h => HU.out wx (bnext hbW h)
              replace hcV := fun wx h => HV.out wx (bnext hbW h)
              replace hcT := fun wx h => HT.out wx (bnext hbW h)
              try simp only [Act.put, List.setIfInBounds_toArray, List.set_cons_zero, List.set_cons_succ]
              -- CALL 17: some 54 := Op.call { callee := Callee.value (Operand.func 16), args := #[Operand.tmp 49, Operand.tmp 53], argTypes := #[24, 24] }
              refine rcall 17 rfl (by kernel_rfl) (by rfl) (fun K hK => ?_)
              go_simp
              refine (refCompareQ_is HX' _).mono ?_
              rintro e wx17 ⟨rfl, hbel⟩
              refine hK.out _ _ hbel ?_
              clear hK K
              refine wpAnyH_mono (S' := fun w' => Below wx17.heap.size wx17 w') (fun w' h => bnext hbel h) _ _ _ _ ?_
              have hH := Below.refl wx17.heap.size wx17
              have hW := bnext hbW hbel
              clear hbel hbW hHeld
              have hHeld := hH
              have hbW := hW
              clear hH hW
              have hsz17 := hbW.size
              replace hcX := fun wx h => HX.out wx (bnext hbW h)
              replace hcY := fun wx h => HY.out wx (bnext hbW h)
              replace hcZ := fun wx h => HZ.out wx (bnext hbW h)
              replace hcU := fun wx h => HU.out wx (bnext hbW h)
              replace hcV := fun wx h => HV.out wx (bnext hbW h)
              replace hcT := fun wx h => HT.out wx (bnext hbW h)
              try simp only [Act.put, List.setIfInBounds_toArray, List.set_cons_zero, List.set_cons_succ]
              refine rtake 18 rfl (by rfl) (by kernel_rfl) (by kernel_rfl) (by kernel_rfl) (fun _ _ _ h => h) hHeld (fun wx hwx => by go_simp; try with_reducible rfl) ?_
              try simp only [Act.put, List.setIfInBounds_toArray, List.set_cons_zero, List.set_cons_succ]
              refine wpAnyH_done (by kernel_rfl) ?_ _
              -- END REGION keepi
              go_wp2_with fail
              go_roundw
              case rel => exact ⟨m + 1, by omega, by go_num, bnext hbelq hbW⟩
              case measure => simp [intOf]; omega
            · obtain rfl : m = qs.length := by omega
              go_wp2_with fail
              go_roundw
              case rel => exact ⟨k + 1, K, by omega, by go_num, rfl, hid (hB.out.trans HN.out.symm), hbelq⟩
              case measure => simp [intOf]; omega
    · obtain rfl : k = qs.length := by omega
      have hn := OwnQ.nil wr wr.heap.size
      have hQ := HQ.out.below hbel
      go_wp2_with (at_builtin; refine wpList_append_quals (o := ⟨some 57, _, _, _, _, _⟩) rfl _ _ rfl rfl wr.heap.size _ _ [] qs rfl rfl hn hQ ?_ (Nat.le_refl _) ?_; (simp; omega); intro v1 w1 hown hb1; rw [List.nil_append] at hown)
      refine (best_any _ qs _ hown.quals).mono ?_
      rintro e w2 ⟨rfl, hb2⟩
      rw [← hB.out]
      have hb12 := hb1.trans (hb2.mono hb1.size)
      clear hown hn hQ hb1 hb2
      go_wp2_with fail
      refine (awake05_any _).mono ?_
      rintro e w3 ⟨rfl, hb3⟩
      go_wp2_with fail
      go_ret
      exact ⟨rfl, bnext hbel (bnext hb12 hb3)⟩
end Go.Proofs.Ytknbflipockegaa
