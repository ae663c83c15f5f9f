/- The program's own Best of chapter 11 (gen_vecown.py). -/
import Derived.Test.YtclpblhjfaodbaaVecOwn
import Derived.Test.YtclpblhjfaodbaaVecLaws5
namespace Go.Proofs.Ytclpblhjfaodbaa
open Go.RowKit Go.Proofs
set_option maxRecDepth 50000
set_option linter.unusedVariables false
set_option linter.unusedSimpArgs false

theorem vec_range {w : World} {b off : Nat} {l : List Vc} (h : ∀ j v, (vecK.cells l)[j]? = some v → w.cell? ⟨b, off + j, none⟩ = some v) (i : Nat) (hi : i < l.length) : w.rangeAt b (off + i * 11) (vcL l[i]) := fun j v hj => by
  have hj11 : j < 11 := (List.getElem?_eq_some_iff.1 hj).1
  have := RowK.At.cell (K := vecK) h i j hi hj11 v hj
  rw [Nat.add_assoc]
  exact this

def CBestS : Prop := ∀ (v : Value) (l : List Vc) (w : World), vecK.Reads w v l → l.length ≤ 40 → (∀ a ∈ l, I64 a.st) →
  Calls Try.prog 23 #[v] w fun e w' => e = .returned (.int .i64 (bestG l l.length)) ∧ Below w.heap.size w w'

set_option maxRecDepth 100000 in
set_option maxHeartbeats 8000000 in
theorem ownBestS : CBestS := by
  intro v l w hR hl40 hin
  obtain ⟨p, cap, rfl, hcap, hmax, hat⟩ := hR
  have HAT := hid fun h => RowK.At.pos (K := vecK) hat h
  have HIN := hid hin
  unfold maxLen at hmax
  clear hat hin
  go_enter Try.func23, Try.ntmps23
  go_wp2_with fail
  go_loopw [3, 8] (fun best i wr => ∃ (k : Nat) (B : Int), k ≤ l.length ∧ i = .int .i64 k ∧ best = .int .i64 B ∧ Hid (B = bestG l k) ∧ Below w.heap.size w wr) (fun _ i _ => l.length - (intOf i).toNat)
  case atStart => exact ⟨0, -1, Nat.zero_le _, rfl, rfl, hid rfl, Below.refl _ _⟩
  case round =>
    obtain ⟨k, B, hk, rfl, rfl, hB, hb⟩ := hrel
    by_cases hlt : k < l.length
    · obtain ⟨b, off, rfl, hbl, hrow⟩ := HAT.out (by omega)
      have HC := hid fun (wx : World) (h : Below w.heap.size w wx) (i : Nat) (hi : i < l.length) => vec_range (fun j u hj => by rw [h.cell (p := ⟨b, off + j, none⟩) hbl]; exact hrow j u hj) i hi
      clear hrow
      have hkI : (k : Int) < (l.length : Int) := by omega
      go_upto_region 5 with (first | (guard_target =~ wpList _ _ _ (⟨some 12, _, _, _, _, _⟩ :: _) _ _; refine wpList_load_mid (op := ⟨some 12, .load _ _, _, _, _, _⟩) (by rfl) _ _ (by rfl) b (off + k * 11) (by rfl) (vcL l[k]) _ (HC.out _ hb k hlt) Try.underlying28 rfl (by rw [info_vec, vcL_length]) ?_) | (guard_target =~ wpList _ _ _ (⟨none, .store _ _ _, _, _, _, _⟩ :: _) _ _; refine wpList_store_vec (op := ⟨none, .store _ _ _, _, _, _, _⟩) (by rfl) _ _ (by rfl) wr.heap.size l[k] zeroV _ (by rfl) (by rfl) (Box.new wr _ _) ?_))
      have hn1 := bnew wr (Obj.cells (vcL zeroV).toArray 28)
      have hV := (Box.new wr (vcL zeroV) 28).rowV (vcL l[k])
      have hW := below_setRow hn1 (Nat.le_refl _) (vcL l[k]).toArray
      change Code.wp Try.prog _ _ _ ((wr.alloc (Obj.cells (vcL zeroV).toArray 28)).setRow wr.heap.size (vcL l[k]).toArray)
      generalize (wr.alloc (Obj.cells (vcL zeroV).toArray 28)).setRow wr.heap.size (vcL l[k]).toArray = W at *
      replace hb := bnext hb hW
      generalize wr.heap.size = g9 at *
      clear hn1 hW
      rcases bestG_range l k with ⟨hk0, hB1⟩ | ⟨hB0, hB1⟩
      · have HN := hid (bestG_first l k (by omega))
        obtain rfl : B = -1 := hB.out.trans hB1
        clear hB1
        refine wp_region_held_drew (S := fun w' => Below W.drew.heap.size W.drew w') (by kernel_rfl) (Below.refl _ _) ?_
        intro hHeld
        have hbd := Below.drew (Below.refl W.heap.size W)
        replace hb := bnext hb hbd
        replace hV := hV.below hbd
        generalize W.drew = wd at *
        refine rtake 0 rfl (by rfl) (by kernel_rfl) (by kernel_rfl) (by kernel_rfl) (fun _ _ _ h => h) hHeld (fun wx hwx => by go_simp; try with_reducible rfl) ?_
        try simp only [Act.put, List.setIfInBounds_toArray, List.set_cons_zero, List.set_cons_succ]
        refine rtake 1 rfl (by rfl) (by kernel_rfl) (by kernel_rfl) (by kernel_rfl) (fun _ _ _ h => h) hHeld (fun wx hwx => by go_simp; try with_reducible rfl) ?_
        try simp only [Act.put, List.setIfInBounds_toArray, List.set_cons_zero, List.set_cons_succ]
        refine rtake 2 rfl (by rfl) (by kernel_rfl) (by kernel_rfl) (by kernel_rfl) (fun _ _ _ h => h) hHeld (fun wx hwx => by go_simp; try with_reducible rfl) ?_
        try simp only [Act.put, List.setIfInBounds_toArray, List.set_cons_zero, List.set_cons_succ]
        refine rpass 3 rfl (by rfl) (by kernel_rfl) (by kernel_rfl) (by kernel_rfl) (fun _ _ _ h => h) hHeld ?_
        try simp only [Act.put, List.setIfInBounds_toArray, List.set_cons_zero, List.set_cons_succ]
        refine rpass 4 rfl (by rfl) (by kernel_rfl) (by kernel_rfl) (by kernel_rfl) (fun _ _ _ h => h) hHeld ?_
        try simp only [Act.put, List.setIfInBounds_toArray, List.set_cons_zero, List.set_cons_succ]
        refine rpass 5 rfl (by rfl) (by kernel_rfl) (by kernel_rfl) (by kernel_rfl) (fun _ _ _ h => h) hHeld ?_
        try simp only [Act.put, List.setIfInBounds_toArray, List.set_cons_zero, List.set_cons_succ]
        refine rpass 6 rfl (by rfl) (by kernel_rfl) (by kernel_rfl) (by kernel_rfl) (fun _ _ _ h => h) hHeld ?_
        try simp only [Act.put, List.setIfInBounds_toArray, List.set_cons_zero, List.set_cons_succ]
        refine rpass 7 rfl (by rfl) (by kernel_rfl) (by kernel_rfl) (by kernel_rfl) (fun _ _ _ h => h) hHeld ?_
        try simp only [Act.put, List.setIfInBounds_toArray, List.set_cons_zero, List.set_cons_succ]
        refine rpass 8 rfl (by rfl) (by kernel_rfl) (by kernel_rfl) (by kernel_rfl) (fun _ _ _ h => h) hHeld ?_
        try simp only [Act.put, List.setIfInBounds_toArray, List.set_cons_zero, List.set_cons_succ]
        refine rpass 9 rfl (by rfl) (by kernel_rfl) (by kernel_rfl) (by kernel_rfl) (fun _ _ _ h => h) hHeld ?_
        try simp only [Act.put, List.setIfInBounds_toArray, List.set_cons_zero, List.set_cons_succ]
        refine rtake 10 rfl (by rfl) (by kernel_rfl) (by kernel_rfl) (by kernel_rfl) (fun _ _ _ h => h) hHeld (fun wx hwx => by go_simp; try with_reducible rfl) ?_
        try simp only [Act.put, List.setIfInBounds_toArray, List.set_cons_zero, List.set_cons_succ]
        refine wpAnyH_done (by kernel_rfl) ?_ _
        clear hHeld hbd
        go_wp2_with fail
        go_roundw
        case rel => exact ⟨k + 1, k, by omega, by go_num, rfl, hid HN.out.symm, hb⟩
        case measure => (simp [intOf] <;> omega)
      · obtain ⟨K, hBK⟩ : ∃ K : Nat, B = (K : Int) := ⟨B.toNat, by have := hB.out; omega⟩
        subst hBK
        have hKk : K < k := by have := hB.out; omega
        have hKl : K < l.length := by omega
        have hKn : ¬ (K : Int) < 0 := by omega
        have hKI : (K : Int) < (l.length : Int) := by omega
        have hcmp : compV (vat l (bestG l k)) (vat l k) = compV l[K] l[k] := by rw [← hB.out, vat_get l K hKl, vat_get l k hlt]
        have hX0 := fun w => ownCompS l[K] l[k] w (HIN.out _ (List.getElem_mem hKl)) (HIN.out _ (List.getElem_mem hlt))
        by_cases hx : 0 < compV l[K] l[k]
        · have HN := hid (bestG_later l k (by have := hB.out; omega) (by rw [hcmp]; exact hx))
          clear hcmp hB0 hB1 hB
          generalize compV l[K] l[k] = X at *
          have HX := hX0
          clear hX0
          refine wp_region_held_drew (S := fun w' => Below W.drew.heap.size W.drew w') (by kernel_rfl) (Below.refl _ _) ?_
          intro hHeld
          have hbd := Below.drew (Below.refl W.heap.size W)
          replace hb := bnext hb hbd
          replace hV := hV.below hbd
          generalize W.drew = wd at *
          refine rtake 0 rfl (by rfl) (by kernel_rfl) (by kernel_rfl) (by kernel_rfl) (fun _ _ _ h => h) hHeld (fun wx hwx => by go_simp; try with_reducible rfl) ?_
          try simp only [Act.put, List.setIfInBounds_toArray, List.set_cons_zero, List.set_cons_succ]
          refine rtake 1 rfl (by rfl) (by kernel_rfl) (by kernel_rfl) (by kernel_rfl) (fun _ _ _ h => h) hHeld (fun wx hwx => by go_simp; try with_reducible rfl) ?_
          try simp only [Act.put, List.setIfInBounds_toArray, List.set_cons_zero, List.set_cons_succ]
          refine rtake 2 rfl (by rfl) (by kernel_rfl) (by kernel_rfl) (by kernel_rfl) (fun _ _ _ h => h) hHeld (fun wx hwx => by go_simp; try with_reducible rfl) ?_
          try simp only [Act.put, List.setIfInBounds_toArray, List.set_cons_zero, List.set_cons_succ]
          refine rtake 3 rfl (by rfl) (by kernel_rfl) (by kernel_rfl) (by kernel_rfl) (fun _ _ _ h => h) hHeld (fun wx hwx => by go_simp; try with_reducible rfl) ?_
          try simp only [Act.put, List.setIfInBounds_toArray, List.set_cons_zero, List.set_cons_succ]
          refine rtake 4 rfl (by rfl) (by kernel_rfl) (by kernel_rfl) (by kernel_rfl) (fun _ _ _ h => h) hHeld (fun wx hwx => by go_simp; try with_reducible rfl) ?_
          try simp only [Act.put, List.setIfInBounds_toArray, List.set_cons_zero, List.set_cons_succ]
          refine rtake 5 rfl (by rfl) (by kernel_rfl) (by kernel_rfl) (by kernel_rfl) (fun _ _ _ h => h) hHeld (fun wx hwx => by go_simp; try with_reducible rfl) ?_
          try simp only [Act.put, List.setIfInBounds_toArray, List.set_cons_zero, List.set_cons_succ]
          refine rtake 6 rfl (by rfl) (by kernel_rfl) (by kernel_rfl) (by kernel_rfl) (fun _ _ _ h => h) hHeld (fun wx hwx => exec_load_vec_at _ rfl b (off + K * 11) rfl l[K] (HC.out _ (bnext hb hwx) K hKl)) ?_
          try simp only [Act.put, List.setIfInBounds_toArray, List.set_cons_zero, List.set_cons_succ]
          refine rtake 7 rfl (by rfl) (by kernel_rfl) (by kernel_rfl) (by kernel_rfl) (fun _ _ _ h => h) hHeld (fun wx hwx => exec_load_vec _ rfl g9 rfl l[k] _ (hV.below hwx)) ?_
          try simp only [Act.put, List.setIfInBounds_toArray, List.set_cons_zero, List.set_cons_succ]
          refine rcall 8 rfl (by kernel_rfl) (by rfl) (fun K' hK => ?_)
          go_simp
          refine (HX _).mono ?_
          rintro e w8 ⟨rfl, b8⟩
          refine hK.out _ _ b8 ?_
          clear hK
          refine wpAnyH_mono (S' := fun w' => Below w8.heap.size w8 w') (fun w' h => bnext b8 h) _ _ _ _ ?_
          replace hb := bnext hb b8
          clear hHeld hbd b8 hV
          have hHeld := Below.refl w8.heap.size w8
          try simp only [Act.put, List.setIfInBounds_toArray, List.set_cons_zero, List.set_cons_succ]
          refine rtake 9 rfl (by rfl) (by kernel_rfl) (by kernel_rfl) (by kernel_rfl) (fun _ _ _ h => h) hHeld (fun wx hwx => by go_simp; try with_reducible rfl) ?_
          try simp only [Act.put, List.setIfInBounds_toArray, List.set_cons_zero, List.set_cons_succ]
          refine rtake 10 rfl (by rfl) (by kernel_rfl) (by kernel_rfl) (by kernel_rfl) (fun _ _ _ h => h) hHeld (fun wx hwx => by go_simp; try with_reducible rfl) ?_
          try simp only [Act.put, List.setIfInBounds_toArray, List.set_cons_zero, List.set_cons_succ]
          refine wpAnyH_done (by kernel_rfl) ?_ _
          clear hHeld HX
          go_wp2_with fail
          go_roundw
          case rel => exact ⟨k + 1, k, by omega, by go_num, rfl, hid HN.out.symm, hb⟩
          case measure => (simp [intOf] <;> omega)
        · have HN := hid ((bestG_stays l k (by have := hB.out; omega) (by rw [hcmp]; exact hx)).trans hB.out.symm)
          clear hcmp hB0 hB1 hB
          generalize compV l[K] l[k] = X at *
          have HX := hX0
          clear hX0
          refine wp_region_held_drew (S := fun w' => Below W.drew.heap.size W.drew w') (by kernel_rfl) (Below.refl _ _) ?_
          intro hHeld
          have hbd := Below.drew (Below.refl W.heap.size W)
          replace hb := bnext hb hbd
          replace hV := hV.below hbd
          generalize W.drew = wd at *
          refine rtake 0 rfl (by rfl) (by kernel_rfl) (by kernel_rfl) (by kernel_rfl) (fun _ _ _ h => h) hHeld (fun wx hwx => by go_simp; try with_reducible rfl) ?_
          try simp only [Act.put, List.setIfInBounds_toArray, List.set_cons_zero, List.set_cons_succ]
          refine rtake 1 rfl (by rfl) (by kernel_rfl) (by kernel_rfl) (by kernel_rfl) (fun _ _ _ h => h) hHeld (fun wx hwx => by go_simp; try with_reducible rfl) ?_
          try simp only [Act.put, List.setIfInBounds_toArray, List.set_cons_zero, List.set_cons_succ]
          refine rtake 2 rfl (by rfl) (by kernel_rfl) (by kernel_rfl) (by kernel_rfl) (fun _ _ _ h => h) hHeld (fun wx hwx => by go_simp; try with_reducible rfl) ?_
          try simp only [Act.put, List.setIfInBounds_toArray, List.set_cons_zero, List.set_cons_succ]
          refine rtake 3 rfl (by rfl) (by kernel_rfl) (by kernel_rfl) (by kernel_rfl) (fun _ _ _ h => h) hHeld (fun wx hwx => by go_simp; try with_reducible rfl) ?_
          try simp only [Act.put, List.setIfInBounds_toArray, List.set_cons_zero, List.set_cons_succ]
          refine rtake 4 rfl (by rfl) (by kernel_rfl) (by kernel_rfl) (by kernel_rfl) (fun _ _ _ h => h) hHeld (fun wx hwx => by go_simp; try with_reducible rfl) ?_
          try simp only [Act.put, List.setIfInBounds_toArray, List.set_cons_zero, List.set_cons_succ]
          refine rtake 5 rfl (by rfl) (by kernel_rfl) (by kernel_rfl) (by kernel_rfl) (fun _ _ _ h => h) hHeld (fun wx hwx => by go_simp; try with_reducible rfl) ?_
          try simp only [Act.put, List.setIfInBounds_toArray, List.set_cons_zero, List.set_cons_succ]
          refine rtake 6 rfl (by rfl) (by kernel_rfl) (by kernel_rfl) (by kernel_rfl) (fun _ _ _ h => h) hHeld (fun wx hwx => exec_load_vec_at _ rfl b (off + K * 11) rfl l[K] (HC.out _ (bnext hb hwx) K hKl)) ?_
          try simp only [Act.put, List.setIfInBounds_toArray, List.set_cons_zero, List.set_cons_succ]
          refine rtake 7 rfl (by rfl) (by kernel_rfl) (by kernel_rfl) (by kernel_rfl) (fun _ _ _ h => h) hHeld (fun wx hwx => exec_load_vec _ rfl g9 rfl l[k] _ (hV.below hwx)) ?_
          try simp only [Act.put, List.setIfInBounds_toArray, List.set_cons_zero, List.set_cons_succ]
          refine rcall 8 rfl (by kernel_rfl) (by rfl) (fun K' hK => ?_)
          go_simp
          refine (HX _).mono ?_
          rintro e w8 ⟨rfl, b8⟩
          refine hK.out _ _ b8 ?_
          clear hK
          refine wpAnyH_mono (S' := fun w' => Below w8.heap.size w8 w') (fun w' h => bnext b8 h) _ _ _ _ ?_
          replace hb := bnext hb b8
          clear hHeld hbd b8 hV
          have hHeld := Below.refl w8.heap.size w8
          try simp only [Act.put, List.setIfInBounds_toArray, List.set_cons_zero, List.set_cons_succ]
          refine rtake 9 rfl (by rfl) (by kernel_rfl) (by kernel_rfl) (by kernel_rfl) (fun _ _ _ h => h) hHeld (fun wx hwx => by go_simp; try with_reducible rfl) ?_
          try simp only [Act.put, List.setIfInBounds_toArray, List.set_cons_zero, List.set_cons_succ]
          refine rtake 10 rfl (by rfl) (by kernel_rfl) (by kernel_rfl) (by kernel_rfl) (fun _ _ _ h => h) hHeld (fun wx hwx => by go_simp; try with_reducible rfl) ?_
          try simp only [Act.put, List.setIfInBounds_toArray, List.set_cons_zero, List.set_cons_succ]
          refine wpAnyH_done (by kernel_rfl) ?_ _
          clear hHeld HX
          go_wp2_with fail
          go_roundw
          case rel => exact ⟨k + 1, K, by omega, by go_num, rfl, hid HN.out.symm, hb⟩
          case measure => (simp [intOf] <;> omega)
    · obtain rfl : k = l.length := by omega
      go_wp2_with fail
      go_ret
      exact ⟨ret_int hB.out, hb⟩
theorem ownBest : CBest := fun v l w hR hl hin => ownBestS v l w hR hl fun a ha => (hin a ha).2.2.2.2.2.2.1

end Go.Proofs.Ytclpblhjfaodbaa
