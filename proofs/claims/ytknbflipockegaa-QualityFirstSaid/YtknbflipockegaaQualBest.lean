/- Package quality: Best, a loop over a row (its regions: gen_quality.py). -/
import Derived.Test.YtknbflipockegaaQualRow
namespace Go.Proofs.Ytknbflipockegaa
open Go.RowKit Go.Proofs
set_option linter.unusedVariables false
set_option linter.unusedSimpArgs false

set_option maxRecDepth 100000 in
set_option maxHeartbeats 4000000 in
theorem best_any (v : Value) (qs : List Q3) (w : World) (hQ : Quals w v qs) :
    Calls Try.prog 18 #[v] w fun e w' => e = .returned (.int .i64 (bestN qs qs.length)) ∧ Below w.heap.size w w' := by
  obtain ⟨p, cap, rfl, hcap, hmax, hat⟩ := hQ
  have HAT := hid fun h => hat.row h
  unfold maxLen at hmax
  clear hat
  go_enter Try.func18, Try.ntmps18
  go_wp2_with fail
  go_loopw [3, 8] (fun best i wr => ∃ (k : Nat) (B : Int), k ≤ qs.length ∧ i = .int .i64 k ∧ best = .int .i64 B ∧ Hid (B = bestN qs k) ∧ Below w.heap.size w wr) (fun _ i _ => qs.length - (intOf i).toNat)
  case atStart => exact ⟨0, -1, Nat.zero_le _, rfl, rfl, hid rfl, Below.refl _ _⟩
  case round =>
    obtain ⟨k, B, hk, rfl, rfl, hB, hbel⟩ := hrel
    by_cases hlt : k < qs.length
    · obtain ⟨b, off, rfl, hrow⟩ := HAT.out (by omega)
      have HR := hid (hrow.below hbel)
      obtain ⟨c, a, v, hq, HA, HB, HC⟩ := HR.out.get k hlt
      have Hq := hid hq
      clear hrow hq
      have cA := HA.out _ (Below.refl _ _)
      have cB := HB.out _ (Below.refl _ _)
      have cC := HC.out _ (Below.refl _ _)
      go_upto_region 5 with fail
      clear cA cB cC
      obtain ⟨W, hWe, hbw, HX, HY, HZ⟩ := qbox1 wr c a v
      rw [← hWe]
      clear hWe
      rcases bestN_range qs k with ⟨hk0, hB1⟩ | ⟨hB0, hB1⟩
      · have HN := hid (bestN_first qs k (by omega))
        obtain rfl : B = -1 := hB.out.trans hB1
        clear hB1
        -- REGION first
        refine wp_region_held_drew (S := fun w' => Below W.drew.heap.size W.drew w') (by kernel_rfl) (Below.refl _ _) ?_
        intro hHeld
        have hbW := Below.drew (Below.refl W.heap.size W)
        generalize W.drew = wd at *
        have hcX := fun wx h => HX.out wx (bnext hbW h)
        have hcY := fun wx h => HY.out wx (bnext hbW h)
        have hcZ := fun wx h => HZ.out wx (bnext hbW h)
        refine rtake 0 rfl (by rfl) (by kernel_rfl) (by kernel_rfl) (by kernel_rfl) (fun _ _ _ h => h) hHeld (fun wx hwx => by go_simp; try with_reducible rfl) ?_
        try simp only [Act.put, List.setIfInBounds_toArray, List.set_cons_zero, List.set_cons_succ]
        refine rtake 1 rfl (by rfl) (by kernel_rfl) (by kernel_rfl) (by kernel_rfl) (fun _ _ _ h => h) hHeld (fun wx hwx => by go_simp; try with_reducible rfl) ?_
        try simp only [Act.put, List.setIfInBounds_toArray, List.set_cons_zero, List.set_cons_succ]
        refine rtake 2 rfl (by rfl) (by kernel_rfl) (by kernel_rfl) (by kernel_rfl) (fun _ _ _ h => h) hHeld (fun wx hwx => by go_simp; try with_reducible rfl) ?_
        try simp only [Act.put, List.setIfInBounds_toArray, List.set_cons_zero, List.set_cons_succ]
        refine rpass 3 rfl (by rfl) (by kernel_rfl) (by kernel_rfl) (by kernel_rfl) (fun _ _ _ h => h) hHeld ?_
        try simp only [Act.put, List.setIfInBounds_toArray, List.set_cons_zero, List.set_cons_succ]
        refine rpass 4 rfl (by rfl) (by kernel_rfl) (by kernel_rfl) (by kernel_rfl) (fun _ _ _ h => h) hHeld ?_
        try simp only [Act.put, List.setIfInBounds_toArray, List.set_cons_zero, List.set_cons_succ]
        refine rpass 5 rfl (by rfl) (by kernel_rfl) (by kernel_rfl) (by kernel_rfl) (fun _ _ _ h => h) hHeld ?_
        try simp only [Act.put, List.setIfInBounds_toArray, List.set_cons_zero, List.set_cons_succ]
        refine rpass 6 rfl (by rfl) (by kernel_rfl) (by kernel_rfl) (by kernel_rfl) (fun _ _ _ h => h) hHeld ?_
        try simp only [Act.put, List.setIfInBounds_toArray, List.set_cons_zero, List.set_cons_succ]
        refine rpass 7 rfl (by rfl) (by kernel_rfl) (by kernel_rfl) (by kernel_rfl) (fun _ _ _ h => h) hHeld ?_
        try simp only [Act.put, List.setIfInBounds_toArray, List.set_cons_zero, List.set_cons_succ]
        refine rpass 8 rfl (by rfl) (by kernel_rfl) (by kernel_rfl) (by kernel_rfl) (fun _ _ _ h => h) hHeld ?_
        try simp only [Act.put, List.setIfInBounds_toArray, List.set_cons_zero, List.set_cons_succ]
        refine rpass 9 rfl (by rfl) (by kernel_rfl) (by kernel_rfl) (by kernel_rfl) (fun _ _ _ h => h) hHeld ?_
        try simp only [Act.put, List.setIfInBounds_toArray, List.set_cons_zero, List.set_cons_succ]
        refine rtake 10 rfl (by rfl) (by kernel_rfl) (by kernel_rfl) (by kernel_rfl) (fun _ _ _ h => h) hHeld (fun wx hwx => by go_simp; try with_reducible rfl) ?_
        try simp only [Act.put, List.setIfInBounds_toArray, List.set_cons_zero, List.set_cons_succ]
        refine wpAnyH_done (by kernel_rfl) ?_ _
        -- END REGION first
        go_wp2_with fail
        go_roundw
        case rel => exact ⟨k + 1, k, by omega, by go_num, rfl, hid HN.out.symm, bnext hbel (bnext hbw hbW)⟩
        case measure => simp [intOf]; omega
      · rw [← hB.out] at hB0 hB1
        obtain ⟨K, rfl⟩ := Int.eq_ofNat_of_zero_le hB0
        have hKk : K < k := by omega
        have hKl : K < qs.length := by omega
        have hKn : ¬ (K : Int) < 0 := by omega
        obtain ⟨c', a', v', hq', HU, HV, HT⟩ := (HR.out.below hbw).get K hKl
        have hcmp : cmpT (qat qs k) (qat qs (bestN qs k)) = cmpQ c a v c' a' v' := by rw [Hq.out, ← hB.out, hq']; rfl
        by_cases hx : cmpQ c a v c' a' v' < 0
        · have HN := hid (bestN_better qs k (by have := hB.out; omega) (by rw [hcmp]; exact hx))
          generalize hX : cmpQ c a v c' a' v' = X at *
          have HX' := hid hX
          clear hX hcmp hq' hB0 hB1
          -- REGION better
          refine wp_region_held_drew (S := fun w' => Below W.drew.heap.size W.drew w') (by kernel_rfl) (Below.refl _ _) ?_
          intro hHeld
          have hbW := Below.drew (Below.refl W.heap.size W)
          generalize W.drew = wd at *
          have hcX := fun wx h => HX.out wx (bnext hbW h)
          have hcY := fun wx h => HY.out wx (bnext hbW h)
          have hcZ := fun wx h => HZ.out wx (bnext hbW h)
          have hcU := fun wx h => HU.out wx (bnext hbW h)
          have hcV := fun wx h => HV.out wx (bnext hbW h)
          have hcT := fun wx h => HT.out wx (bnext hbW h)
          refine rtake 0 rfl (by rfl) (by kernel_rfl) (by kernel_rfl) (by kernel_rfl) (fun _ _ _ h => h) hHeld (fun wx hwx => by go_simp; try with_reducible rfl) ?_
          try simp only [Act.put, List.setIfInBounds_toArray, List.set_cons_zero, List.set_cons_succ]
          refine rtake 1 rfl (by rfl) (by kernel_rfl) (by kernel_rfl) (by kernel_rfl) (fun _ _ _ h => h) hHeld (fun wx hwx => by go_simp; try with_reducible rfl) ?_
          try simp only [Act.put, List.setIfInBounds_toArray, List.set_cons_zero, List.set_cons_succ]
          refine rtake 2 rfl (by rfl) (by kernel_rfl) (by kernel_rfl) (by kernel_rfl) (fun _ _ _ h => h) hHeld (fun wx hwx => by go_simp; try with_reducible rfl) ?_
          try simp only [Act.put, List.setIfInBounds_toArray, List.set_cons_zero, List.set_cons_succ]
          refine rtake 3 rfl (by rfl) (by kernel_rfl) (by kernel_rfl) (by kernel_rfl) (fun _ _ _ h => h) hHeld (fun wx hwx => by go_simp; try with_reducible rfl) ?_
          try simp only [Act.put, List.setIfInBounds_toArray, List.set_cons_zero, List.set_cons_succ]
          refine rtake 4 rfl (by rfl) (by kernel_rfl) (by kernel_rfl) (by kernel_rfl) (fun _ _ _ h => h) hHeld (fun wx hwx => by go_simp; try with_reducible rfl) ?_
          try simp only [Act.put, List.setIfInBounds_toArray, List.set_cons_zero, List.set_cons_succ]
          refine rtake 5 rfl (by rfl) (by kernel_rfl) (by kernel_rfl) (by kernel_rfl) (fun _ _ _ h => h) hHeld (fun wx hwx => by go_simp; try with_reducible rfl) ?_
          try simp only [Act.put, List.setIfInBounds_toArray, List.set_cons_zero, List.set_cons_succ]
          refine rtake 6 rfl (by rfl) (by kernel_rfl) (by kernel_rfl) (by kernel_rfl) (fun _ _ _ h => h) hHeld (fun wx hwx => by go_simp; try with_reducible rfl) ?_
          try simp only [Act.put, List.setIfInBounds_toArray, List.set_cons_zero, List.set_cons_succ]
          refine rtake 7 rfl (by rfl) (by kernel_rfl) (by kernel_rfl) (by kernel_rfl) (fun _ _ _ h => h) hHeld (fun wx hwx => by go_simp; try with_reducible rfl) ?_
          try simp only [Act.put, List.setIfInBounds_toArray, List.set_cons_zero, List.set_cons_succ]
          -- CALL 8: some 21 := Op.call { callee := Callee.value (Operand.func 17), args := #[Operand.tmp 16, Operand.tmp 20], argTypes := #[24, 24] }
          refine rcall 8 rfl (by kernel_rfl) (by rfl) (fun K hK => ?_)
          go_simp
          refine (compareQ_is HX' _).mono ?_
          rintro e wx8 ⟨rfl, hbel⟩
          refine hK.out _ _ hbel ?_
          clear hK K
          refine wpAnyH_mono (S' := fun w' => Below wx8.heap.size wx8 w') (fun w' h => bnext hbel h) _ _ _ _ ?_
          have hH := Below.refl wx8.heap.size wx8
          have hW := bnext hbW hbel
          clear hbel hbW hHeld
          have hHeld := hH
          have hbW := hW
          clear hH hW
          have hsz8 := hbW.size
          replace hcX := fun wx h => HX.out wx (bnext hbW h)
          replace hcY := fun wx h => HY.out wx (bnext hbW h)
          replace hcZ := fun wx h => HZ.out wx (bnext hbW h)
          replace hcU := fun wx h => HU.out wx (bnext hbW h)
          replace hcV := fun wx h => HV.out wx (bnext hbW h)
          replace hcT := fun wx h => HT.out wx (bnext hbW h)
          try simp only [Act.put, List.setIfInBounds_toArray, List.set_cons_zero, List.set_cons_succ]
          refine rtake 9 rfl (by rfl) (by kernel_rfl) (by kernel_rfl) (by kernel_rfl) (fun _ _ _ h => h) hHeld (fun wx hwx => by go_simp; try with_reducible rfl) ?_
          try simp only [Act.put, List.setIfInBounds_toArray, List.set_cons_zero, List.set_cons_succ]
          refine rtake 10 rfl (by rfl) (by kernel_rfl) (by kernel_rfl) (by kernel_rfl) (fun _ _ _ h => h) hHeld (fun wx hwx => by go_simp; try with_reducible rfl) ?_
          try simp only [Act.put, List.setIfInBounds_toArray, List.set_cons_zero, List.set_cons_succ]
          refine wpAnyH_done (by kernel_rfl) ?_ _
          -- END REGION better
          go_wp2_with fail
          go_roundw
          case rel => exact ⟨k + 1, k, by omega, by go_num, rfl, hid HN.out.symm, bnext hbel (bnext hbw hbW)⟩
          case measure => simp [intOf]; omega
        · have HN := hid (bestN_keep qs k (by have := hB.out; omega) (by rw [hcmp]; exact hx))
          generalize hX : cmpQ c a v c' a' v' = X at *
          have HX' := hid hX
          clear hX hcmp hq' hB0 hB1
          -- REGION keep
          refine wp_region_held_drew (S := fun w' => Below W.drew.heap.size W.drew w') (by kernel_rfl) (Below.refl _ _) ?_
          intro hHeld
          have hbW := Below.drew (Below.refl W.heap.size W)
          generalize W.drew = wd at *
          have hcX := fun wx h => HX.out wx (bnext hbW h)
          have hcY := fun wx h => HY.out wx (bnext hbW h)
          have hcZ := fun wx h => HZ.out wx (bnext hbW h)
          have hcU := fun wx h => HU.out wx (bnext hbW h)
          have hcV := fun wx h => HV.out wx (bnext hbW h)
          have hcT := fun wx h => HT.out wx (bnext hbW h)
          refine rtake 0 rfl (by rfl) (by kernel_rfl) (by kernel_rfl) (by kernel_rfl) (fun _ _ _ h => h) hHeld (fun wx hwx => by go_simp; try with_reducible rfl) ?_
          try simp only [Act.put, List.setIfInBounds_toArray, List.set_cons_zero, List.set_cons_succ]
          refine rtake 1 rfl (by rfl) (by kernel_rfl) (by kernel_rfl) (by kernel_rfl) (fun _ _ _ h => h) hHeld (fun wx hwx => by go_simp; try with_reducible rfl) ?_
          try simp only [Act.put, List.setIfInBounds_toArray, List.set_cons_zero, List.set_cons_succ]
          refine rtake 2 rfl (by rfl) (by kernel_rfl) (by kernel_rfl) (by kernel_rfl) (fun _ _ _ h => h) hHeld (fun wx hwx => by go_simp; try with_reducible rfl) ?_
          try simp only [Act.put, List.setIfInBounds_toArray, List.set_cons_zero, List.set_cons_succ]
          refine rtake 3 rfl (by rfl) (by kernel_rfl) (by kernel_rfl) (by kernel_rfl) (fun _ _ _ h => h) hHeld (fun wx hwx => by go_simp; try with_reducible rfl) ?_
          try simp only [Act.put, List.setIfInBounds_toArray, List.set_cons_zero, List.set_cons_succ]
          refine rtake 4 rfl (by rfl) (by kernel_rfl) (by kernel_rfl) (by kernel_rfl) (fun _ _ _ h => h) hHeld (fun wx hwx => by go_simp; try with_reducible rfl) ?_
          try simp only [Act.put, List.setIfInBounds_toArray, List.set_cons_zero, List.set_cons_succ]
          refine rtake 5 rfl (by rfl) (by kernel_rfl) (by kernel_rfl) (by kernel_rfl) (fun _ _ _ h => h) hHeld (fun wx hwx => by go_simp; try with_reducible rfl) ?_
          try simp only [Act.put, List.setIfInBounds_toArray, List.set_cons_zero, List.set_cons_succ]
          refine rtake 6 rfl (by rfl) (by kernel_rfl) (by kernel_rfl) (by kernel_rfl) (fun _ _ _ h => h) hHeld (fun wx hwx => by go_simp; try with_reducible rfl) ?_
          try simp only [Act.put, List.setIfInBounds_toArray, List.set_cons_zero, List.set_cons_succ]
          refine rtake 7 rfl (by rfl) (by kernel_rfl) (by kernel_rfl) (by kernel_rfl) (fun _ _ _ h => h) hHeld (fun wx hwx => by go_simp; try with_reducible rfl) ?_
          try simp only [Act.put, List.setIfInBounds_toArray, List.set_cons_zero, List.set_cons_succ]
          -- CALL 8: some 21 := Op.call { callee := Callee.value (Operand.func 17), args := #[Operand.tmp 16, Operand.tmp 20], argTypes := #[24, 24] }
          refine rcall 8 rfl (by kernel_rfl) (by rfl) (fun K hK => ?_)
          go_simp
          refine (compareQ_is HX' _).mono ?_
          rintro e wx8 ⟨rfl, hbel⟩
          refine hK.out _ _ hbel ?_
          clear hK K
          refine wpAnyH_mono (S' := fun w' => Below wx8.heap.size wx8 w') (fun w' h => bnext hbel h) _ _ _ _ ?_
          have hH := Below.refl wx8.heap.size wx8
          have hW := bnext hbW hbel
          clear hbel hbW hHeld
          have hHeld := hH
          have hbW := hW
          clear hH hW
          have hsz8 := hbW.size
          replace hcX := fun wx h => HX.out wx (bnext hbW h)
          replace hcY := fun wx h => HY.out wx (bnext hbW h)
          replace hcZ := fun wx h => HZ.out wx (bnext hbW h)
          replace hcU := fun wx h => HU.out wx (bnext hbW h)
          replace hcV := fun wx h => HV.out wx (bnext hbW h)
          replace hcT := fun wx h => HT.out wx (bnext hbW h)
          try simp only [Act.put, List.setIfInBounds_toArray, List.set_cons_zero, List.set_cons_succ]
          refine rtake 9 rfl (by rfl) (by kernel_rfl) (by kernel_rfl) (by kernel_rfl) (fun _ _ _ h => h) hHeld (fun wx hwx => by go_simp; try with_reducible rfl) ?_
          try simp only [Act.put, List.setIfInBounds_toArray, List.set_cons_zero, List.set_cons_succ]
          refine rtake 10 rfl (by rfl) (by kernel_rfl) (by kernel_rfl) (by kernel_rfl) (fun _ _ _ h => h) hHeld (fun wx hwx => by go_simp; try with_reducible rfl) ?_
          try simp only [Act.put, List.setIfInBounds_toArray, List.set_cons_zero, List.set_cons_succ]
          refine wpAnyH_done (by kernel_rfl) ?_ _
          -- END REGION keep
          go_wp2_with fail
          go_roundw
          case rel => exact ⟨k + 1, K, by omega, by go_num, rfl, hid (hB.out.trans HN.out.symm), bnext hbel (bnext hbw hbW)⟩
          case measure => simp [intOf]; omega
    · obtain rfl : k = qs.length := by omega
      go_wp2_with fail
      go_ret
      exact ⟨ret_int hB.out, hbel⟩
end Go.Proofs.Ytknbflipockegaa
