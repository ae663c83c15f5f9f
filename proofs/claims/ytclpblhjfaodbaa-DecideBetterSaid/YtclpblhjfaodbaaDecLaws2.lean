/- carillonlaw13's DecideAlone, DecideSlave from contracts (gen_declaws.py). -/
import Derived.Test.YtclpblhjfaodbaaDecLaws1
namespace Go.Proofs.Ytclpblhjfaodbaa
open Go.RowKit Go.Proofs
set_option maxRecDepth 50000
set_option linter.unusedVariables false
set_option linter.unusedSimpArgs false

set_option maxRecDepth 100000 in
set_option maxHeartbeats 8000000 in
theorem decideAlone_from (HA : CAll) (HT : CText) (d : Vc) (hd : VcIn d) (lv : Value) (bs : List Bool) (n : Int) (w : World) (hL : boK.Reads w lv bs) :
    Calls Try.prog 4 #[.agg (vcL d).toArray, lv, .int .i64 n] w fun e w' => e = .returned (.bool true) ∧ Below w.heap.size w w' := by
  have hB := Box.new w (vcL d) 28
  have hb := bnew w (Obj.cells (vcL d).toArray 28)
  replace hL := hL.below hb
  go_enter Try.func4, Try.ntmps4
  go_upto_region 1 with fail
  change Code.wp Try.prog _ _ _ (w.alloc (Obj.cells (vcL d).toArray 28))
  generalize w.alloc (Obj.cells (vcL d).toArray 28) = W at *
  generalize hG : w.heap.size = G at *
  rw [← hG] at hb
  go_wp2_with fail
  refine (place_in n 9 _ (by decide) (by decide)).mono ?_
  rintro e w1 ⟨y, rfl, hy0, hy9, -, rfl⟩
  obtain ⟨N, rfl⟩ : ∃ N : Nat, y = (N : Int) := ⟨y.toNat, by omega⟩
  have hN : N ≤ 8 := by omega
  clear hy0 hy9
  go_upto_region 2 with fail
  refine wp_region_held_drew (S := fun w' => Below W.drew.heap.size W.drew w') (by kernel_rfl) (Below.refl _ _) ?_
  intro hHeld
  have hbd := Below.drew (Below.refl W.heap.size W)
  replace hb := bnext hb hbd
  replace hB := hB.below hbd
  replace hL := hL.below hbd
  clear hbd
  generalize W.drew = wd at *
  refine rtake 0 rfl (by rfl) (by kernel_rfl) (by kernel_rfl) (by kernel_rfl) (fun _ _ _ h => h) hHeld (fun wx hwx => exec_load_vec _ rfl G rfl d _ (hB.below hwx)) ?_
  try simp only [Act.put, List.setIfInBounds_toArray, List.set_cons_zero, List.set_cons_succ]
  refine rtake 1 rfl (by rfl) (by kernel_rfl) (by kernel_rfl) (by kernel_rfl) (fun _ _ _ h => h) hHeld (fun wx hwx => by go_simp; try with_reducible rfl) ?_
  try simp only [Act.put, List.setIfInBounds_toArray, List.set_cons_zero, List.set_cons_succ]
  refine rtake 2 rfl (by rfl) (by kernel_rfl) (by kernel_rfl) (by kernel_rfl) (fun _ _ _ h => h) hHeld (fun wx hwx => by go_simp; try with_reducible rfl) ?_
  try simp only [Act.put, List.setIfInBounds_toArray, List.set_cons_zero, List.set_cons_succ]
  have hmk := make_pos N (by omega) N N rfl rfl wd
  refine rcall 3 rfl (by kernel_rfl) (by rfl) (fun K' hK => ?_)
  go_simp
  have r2 := made_pos N wd (by omega)
  have q2 := bnew wd (.cells (poK.cells (List.replicate N none)).toArray 42)
  refine hK.out _ _ (hHeld.alloc hHeld.size _) ?_
  clear hK K'
  refine wpAnyH_mono (S' := fun w' => Below (wd.alloc (.cells (poK.cells (List.replicate N none)).toArray 42)).heap.size (wd.alloc (.cells (poK.cells (List.replicate N none)).toArray 42)) w') (fun w' h => bnext q2 h) _ _ _ _ ?_
  replace hb := bnext hb q2
  replace hB := hB.below q2
  replace hL := hL.below q2
  clear hHeld q2 hmk
  generalize hgs : wd.heap.size = gp at *
  clear hgs
  generalize (wd.alloc (.cells (poK.cells (List.replicate N none)).toArray 42)) = W2 at *
  have hHeld := Below.refl W2.heap.size W2
  try simp only [Act.put, List.setIfInBounds_toArray, List.set_cons_zero, List.set_cons_succ]
  refine rcall 4 rfl (by kernel_rfl) (by rfl) (fun K' hK => ?_)
  go_simp
  refine (HA d _ _ bs (List.replicate N none) (List.replicate N none) _ hd hL r2 (made_pts N _) (by rw [List.length_replicate]; omega) (by intro a ha; rw [List.mem_replicate] at ha; cases ha.2)).mono ?_
  rintro e wq ⟨x, rfl, hx, bq⟩
  refine hK.out _ _ bq ?_
  clear hK K'
  refine wpAnyH_mono (S' := fun w' => Below wq.heap.size wq w') (fun w' h => bnext bq h) _ _ _ _ ?_
  replace hb := bnext hb bq
  replace hB := hB.below bq
  replace hL := hL.below bq
  clear hHeld bq
  have hHeld := Below.refl wq.heap.size wq
  try simp only [Act.put, List.setIfInBounds_toArray, List.set_cons_zero, List.set_cons_succ]
  rw [List.take_of_length_le (by rw [List.length_replicate]; omega)] at hx ⊢
  rw [bestO_nil]
  refine rtake 5 rfl (by rfl) (by kernel_rfl) (by kernel_rfl) (by kernel_rfl) (fun _ _ _ h => h) hHeld (fun wx hwx => by go_simp; try with_reducible rfl) ?_
  try simp only [Act.put, List.setIfInBounds_toArray, List.set_cons_zero, List.set_cons_succ]
  refine rtake 6 rfl (by rfl) (by kernel_rfl) (by kernel_rfl) (by kernel_rfl) (fun _ _ _ h => h) hHeld (fun wx hwx => by go_simp; try with_reducible rfl) ?_
  try simp only [Act.put, List.setIfInBounds_toArray, List.set_cons_zero, List.set_cons_succ]
  refine rtake 7 rfl (by rfl) (by kernel_rfl) (by kernel_rfl) (by kernel_rfl) (fun _ _ _ h => h) hHeld (fun wx hwx => by go_simp; try with_reducible rfl) ?_
  try simp only [Act.put, List.setIfInBounds_toArray, List.set_cons_zero, List.set_cons_succ]
  refine rtake 8 rfl (by rfl) (by kernel_rfl) (by kernel_rfl) (by kernel_rfl) (fun _ _ _ h => h) hHeld (fun wx hwx => by go_simp; try with_reducible rfl) ?_
  try simp only [Act.put, List.setIfInBounds_toArray, List.set_cons_zero, List.set_cons_succ]
  refine rtake 9 rfl (by rfl) (by kernel_rfl) (by kernel_rfl) (by kernel_rfl) (fun _ _ _ h => h) hHeld (fun wx hwx => by go_simp; try with_reducible rfl) ?_
  try simp only [Act.put, List.setIfInBounds_toArray, List.set_cons_zero, List.set_cons_succ]
  refine wpAnyH_done (by kernel_rfl) ?_ _
  clear hHeld
  clear r2
  have hAl := allD_length d bs (List.replicate N none)
  rw [List.length_replicate] at hAl
  have hAg := fun i (h : i < (allD d bs (List.replicate N none)).length) => allD_get d bs (List.replicate N none) i h
  rw [topO_nil] at hAg
  simp only [oat_nil, oneD_alone] at hAg
  generalize allD d bs (List.replicate N none) = A at *
  obtain ⟨p, cap, rfl, hcap, hmax, hat⟩ := hx
  have HAT := hid fun h => hat.pos h
  unfold maxLen at hmax
  have HAg := hid hAg
  clear hat hAg
  rw [hAl] at hcap ⊢
  obtain ⟨q, capq, rfl, hcapq, hmaxq, hatq⟩ := hL
  have HQT := hid fun h => RowK.At.pos (K := boK) hatq h
  unfold maxLen at hmaxq
  clear hatq
  have HAl := hid hAl
  clear hAl
  go_wp2_with fail
  go_loopw [10] (fun iv wr => ∃ j : Nat, j ≤ N ∧ iv = .int .i64 (j : Int) ∧ Below wq.heap.size wq wr) (fun iv _ => N - (intOf iv).toNat)
  case atStart => exact ⟨0, Nat.zero_le _, rfl, Below.refl _ _⟩
  case round =>
    obtain ⟨j, hj, rfl, hbr⟩ := hrel
    by_cases hlt : j < N
    · have hjI : (j : Int) < (N : Int) := by omega
      have hjA : j < A.length := by rw [HAl.out]; exact hlt
      obtain ⟨b, off, rfl, hbl, hc⟩ := HAT.out (by omega)
      have cB := (hB.below hbr).cell 1 _ rfl
      have hz := HAg.out j hjA
      by_cases hqc : d.qc ≤ 127
      · rw [if_pos hqc] at hz
        by_cases htj : j < bs.length
        · have htI : (j : Int) < (bs.length : Int) := by omega
          obtain ⟨bq, offq, rfl, hbq, hrowq⟩ := HQT.out (by omega)
          have hbo := bo_cell hrowq j htj
          rw [← hbr.cell (p := ⟨bq, offq + j, none⟩) hbq] at hbo
          cases hbj : bs.getD j false
          · rw [hbj] at hbo hz
            have hca := ints_cell hc j hjA hz
            rw [if_neg Bool.false_ne_true, ← hbr.cell (p := ⟨b, off + j, none⟩) hbl] at hca
            clear hz hc
            go_wp2_with fail
            go_roundw
            case rel => exact ⟨j + 1, by omega, by go_num, hbr⟩
            case measure => (simp [intOf] <;> omega)
          · rw [hbj] at hbo hz
            have hca := ints_cell hc j hjA hz
            rw [if_pos rfl, ← hbr.cell (p := ⟨b, off + j, none⟩) hbl] at hca
            clear hz hc
            go_wp2_with fail
            go_roundw
            case rel => exact ⟨j + 1, by omega, by go_num, hbr⟩
            case measure => (simp [intOf] <;> omega)
        · have htI : ¬ (j : Int) < (bs.length : Int) := by omega
          rw [getD_over bs j (by omega)] at hz
          have hca := ints_cell hc j hjA hz
          rw [if_neg Bool.false_ne_true, ← hbr.cell (p := ⟨b, off + j, none⟩) hbl] at hca
          clear hz hc
          go_wp2_with fail
          go_roundw
          case rel => exact ⟨j + 1, by omega, by go_num, hbr⟩
          case measure => (simp [intOf] <;> omega)
      · rw [if_neg hqc] at hz
        by_cases htj : j < bs.length
        · have htI : (j : Int) < (bs.length : Int) := by omega
          obtain ⟨bq, offq, rfl, hbq, hrowq⟩ := HQT.out (by omega)
          have hbo := bo_cell hrowq j htj
          rw [← hbr.cell (p := ⟨bq, offq + j, none⟩) hbq] at hbo
          cases hbj : bs.getD j false
          · rw [hbj] at hbo hz
            have hca := ints_cell hc j hjA hz
            rw [if_neg Bool.false_ne_true, ← hbr.cell (p := ⟨b, off + j, none⟩) hbl] at hca
            clear hz hc
            go_wp2_with fail
            go_roundw
            case rel => exact ⟨j + 1, by omega, by go_num, hbr⟩
            case measure => (simp [intOf] <;> omega)
          · rw [hbj] at hbo hz
            have hca := ints_cell hc j hjA hz
            rw [if_pos rfl, ← hbr.cell (p := ⟨b, off + j, none⟩) hbl] at hca
            clear hz hc
            go_wp2_with fail
            go_roundw
            case rel => exact ⟨j + 1, by omega, by go_num, hbr⟩
            case measure => (simp [intOf] <;> omega)
        · have htI : ¬ (j : Int) < (bs.length : Int) := by omega
          rw [getD_over bs j (by omega)] at hz
          have hca := ints_cell hc j hjA hz
          rw [if_neg Bool.false_ne_true, ← hbr.cell (p := ⟨b, off + j, none⟩) hbl] at hca
          clear hz hc
          go_wp2_with fail
          go_roundw
          case rel => exact ⟨j + 1, by omega, by go_num, hbr⟩
          case measure => (simp [intOf] <;> omega)
    · obtain rfl : j = N := by omega
      go_wp2_with fail
      refine (awake13_from HA HT _).mono ?_
      rintro e w2 ⟨rfl, b2⟩
      go_wp2_with fail
      go_ret
      exact ⟨rfl, bnext (bnext hb hbr) b2⟩

set_option maxRecDepth 100000 in
set_option maxHeartbeats 8000000 in
theorem decideSlave_from (HA : CAll) (HT : CText) (d : Vc) (hd : VcIn d) (lv : Value) (bs : List Bool) (l2 : Value) (l : List Vc) (tv : Value) (ts : List Bool) (w : World) (hL : boK.Reads w lv bs) (hV : vecK.Reads w l2 l) (hin : ∀ a ∈ l, VcIn a) (hT2 : boK.Reads w tv ts) :
    Calls Try.prog 3 #[.agg (vcL d).toArray, lv, l2, tv] w fun e w' => e = .returned (.bool true) ∧ Below w.heap.size w w' := by
  have hB := Box.new w (vcL d) 28
  have hb := bnew w (Obj.cells (vcL d).toArray 28)
  replace hL := hL.below hb
  replace hV := hV.below hb
  replace hT2 := hT2.below hb
  go_enter Try.func3, Try.ntmps3
  go_upto_region 1 with fail
  change Code.wp Try.prog _ _ _ (w.alloc (Obj.cells (vcL d).toArray 28))
  generalize w.alloc (Obj.cells (vcL d).toArray 28) = W at *
  generalize hG : w.heap.size = G at *
  rw [← hG] at hb
  refine wp_region_held_drew (S := fun w' => Below W.drew.heap.size W.drew w') (by kernel_rfl) (Below.refl _ _) ?_
  intro hHeld
  have hbd := Below.drew (Below.refl W.heap.size W)
  replace hb := bnext hb hbd
  replace hB := hB.below hbd
  replace hL := hL.below hbd
  replace hV := hV.below hbd
  replace hT2 := hT2.below hbd
  clear hbd
  generalize W.drew = wd at *
  refine rtake 0 rfl (by rfl) (by kernel_rfl) (by kernel_rfl) (by kernel_rfl) (fun _ _ _ h => h) hHeld (fun wx hwx => exec_load_vec _ rfl G rfl d _ (hB.below hwx)) ?_
  try simp only [Act.put, List.setIfInBounds_toArray, List.set_cons_zero, List.set_cons_succ]
  refine rtake 1 rfl (by rfl) (by kernel_rfl) (by kernel_rfl) (by kernel_rfl) (fun _ _ _ h => h) hHeld (fun wx hwx => by go_simp; try with_reducible rfl) ?_
  try simp only [Act.put, List.setIfInBounds_toArray, List.set_cons_zero, List.set_cons_succ]
  refine rtake 2 rfl (by rfl) (by kernel_rfl) (by kernel_rfl) (by kernel_rfl) (fun _ _ _ h => h) hHeld (fun wx hwx => by go_simp; try with_reducible rfl) ?_
  try simp only [Act.put, List.setIfInBounds_toArray, List.set_cons_zero, List.set_cons_succ]
  refine rtake 3 rfl (by rfl) (by kernel_rfl) (by kernel_rfl) (by kernel_rfl) (fun _ _ _ h => h) hHeld (fun wx hwx => by go_simp; try with_reducible rfl) ?_
  try simp only [Act.put, List.setIfInBounds_toArray, List.set_cons_zero, List.set_cons_succ]
  refine rcall 4 rfl (by kernel_rfl) (by rfl) (fun K' hK => ?_)
  go_simp
  refine (some_any _ _ l ts _ hV hT2).mono ?_
  rintro e wq ⟨vP, ps, rfl, oP, hP, bq⟩
  refine hK.out _ _ bq ?_
  clear hK K'
  refine wpAnyH_mono (S' := fun w' => Below wq.heap.size wq w') (fun w' h => bnext bq h) _ _ _ _ ?_
  replace hb := bnext hb bq
  replace hB := hB.below bq
  replace hL := hL.below bq
  replace hV := hV.below bq
  clear hHeld bq
  have hHeld := Below.refl wq.heap.size wq
  try simp only [Act.put, List.setIfInBounds_toArray, List.set_cons_zero, List.set_cons_succ]
  refine rcall 5 rfl (by kernel_rfl) (by rfl) (fun K' hK => ?_)
  go_simp
  refine (HA d _ _ bs ps (someO l ts (min l.length 12)) _ hd hL oP.reads hP (by rw [someO_length]; omega) (someO_in hin)).mono ?_
  rintro e wz ⟨x, rfl, hx, bq⟩
  refine hK.out _ _ bq ?_
  clear hK K'
  refine wpAnyH_mono (S' := fun w' => Below wz.heap.size wz w') (fun w' h => bnext bq h) _ _ _ _ ?_
  replace hb := bnext hb bq
  replace hB := hB.below bq
  have hos8 : ((someO l ts (min l.length 12)).take 8).length = min l.length 8 := by rw [List.length_take, someO_length]; omega
  generalize (someO l ts (min l.length 12)).take 8 = os8 at *
  have hAl := allD_length d bs os8
  rw [hos8] at hAl
  have hsix := fun i (hi : i < (allD d bs os8).length) (h : (allD d bs os8)[i] = 6) => allD_six hi h
  have hno := fun (h1 : 127 < d.qc) (h2 : beatsV d (topO os8) = false) j (hj : j < (allD d bs os8).length) => allD_no (bs := bs) h1 h2 hj
  have hrg := bestO_range os8 os8.length
  rw [hos8] at hrg hsix ⊢
  generalize allD d bs os8 = A at *
  have hK : (bestO os8 (min l.length 8) = -1 ∨ 0 ≤ bestO os8 (min l.length 8)) ∧ bestO os8 (min l.length 8) < (A.length : Int) := by
    rw [hAl]
    rcases hrg with ⟨h1, _⟩ | ⟨h1, h2, _⟩
    · exact ⟨.inl h1, by omega⟩
    · exact ⟨.inr h1, h2⟩
  generalize bestO os8 (min l.length 8) = K at *
  clear hHeld bq
  have hHeld := Below.refl wz.heap.size wz
  try simp only [Act.put, List.setIfInBounds_toArray, List.set_cons_zero, List.set_cons_succ]
  refine rtake 6 rfl (by rfl) (by kernel_rfl) (by kernel_rfl) (by kernel_rfl) (fun _ _ _ h => h) hHeld (fun wx hwx => by go_simp; try with_reducible rfl) ?_
  try simp only [Act.put, List.setIfInBounds_toArray, List.set_cons_zero, List.set_cons_succ]
  refine rtake 7 rfl (by rfl) (by kernel_rfl) (by kernel_rfl) (by kernel_rfl) (fun _ _ _ h => h) hHeld (fun wx hwx => by go_simp; try with_reducible rfl) ?_
  try simp only [Act.put, List.setIfInBounds_toArray, List.set_cons_zero, List.set_cons_succ]
  refine rtake 8 rfl (by rfl) (by kernel_rfl) (by kernel_rfl) (by kernel_rfl) (fun _ _ _ h => h) hHeld (fun wx hwx => by go_simp; try with_reducible rfl) ?_
  try simp only [Act.put, List.setIfInBounds_toArray, List.set_cons_zero, List.set_cons_succ]
  refine rtake 9 rfl (by rfl) (by kernel_rfl) (by kernel_rfl) (by kernel_rfl) (fun _ _ _ h => h) hHeld (fun wx hwx => by go_simp; try with_reducible rfl) ?_
  try simp only [Act.put, List.setIfInBounds_toArray, List.set_cons_zero, List.set_cons_succ]
  refine rtake 10 rfl (by rfl) (by kernel_rfl) (by kernel_rfl) (by kernel_rfl) (fun _ _ _ h => h) hHeld (fun wx hwx => by go_simp; try with_reducible rfl) ?_
  try simp only [Act.put, List.setIfInBounds_toArray, List.set_cons_zero, List.set_cons_succ]
  refine wpAnyH_done (by kernel_rfl) ?_ _
  clear hHeld
  clear oP hP hL hT2
  obtain ⟨p2, cap2, rfl, hcap2, hmax2, -⟩ := hV
  obtain ⟨p, cap, rfl, hcap, hmax, hat⟩ := hx
  have HAT := hid fun h => hat.pos h
  unfold maxLen at hmax hmax2
  have Hsix := hid hsix
  have Hno := hid hno
  have hKl := hK.2
  clear hat hsix hno hrg hos8 hK
  have hmin : min (l.length : Int) 8 = (A.length : Int) := by omega
  have Hmin := hid hmin
  clear hAl hmin
  go_wp2_with fail
  go_loopw [11, 12] (fun nv iv wr => ∃ j N : Nat, j ≤ A.length ∧ iv = .int .i64 (j : Int) ∧ nv = .int .i64 (N : Int) ∧ N ≤ 1 ∧ (N = 1 → K < (j : Int) ∧ Hid (127 < d.qc ∧ beatsV d (topO os8) = false)) ∧ Below wz.heap.size wz wr) (fun _ iv _ => A.length - (intOf iv).toNat)
  case atStart => exact ⟨0, 0, Nat.zero_le _, rfl, rfl, by decide, fun h => (by cases h), Below.refl _ _⟩
  case round =>
    obtain ⟨j, N, hj, rfl, rfl, hN1, hNs, hbr⟩ := hrel
    by_cases hlt : j < A.length
    · have hjI : (j : Int) < (A.length : Int) := by omega
      obtain ⟨b, off, rfl, hbl, hc⟩ := HAT.out (by omega)
      have hca := hc j hlt
      rw [← hbr.cell (p := ⟨b, off + j, none⟩) hbl] at hca
      by_cases h6 : A[j] = 6
      · have hs := Hsix.out j hlt h6
        obtain ⟨hjK, hq1, hq2⟩ := hs
        obtain rfl : N = 0 := by
          rcases Nat.eq_zero_or_pos N with h | h
          · exact h
          · have := (hNs (by omega)).1
            omega
        rw [h6] at hca
        have e1 : ((j : Int) != K) = false := by rw [hjK]; simp
        have cB := (hB.below hbr).cell 1 _ rfl
        have HN := hid (And.intro hq1 hq2)
        have hjK1 : K < (j : Int) + 1 := by omega
        have hq3 : 127 < d.qc := hq1
        clear hjK hq2 hNs hc h6 hq1
        go_wp2_with fail
        go_roundw
        case rel => exact ⟨j + 1, 1, by omega, by go_num, rfl, by decide, fun _ => ⟨by omega, HN⟩, hbr⟩
        case measure => (simp [intOf] <;> omega)
      · have e6 : (A[j] == 6) = false := by rw [beq_eq_false_iff_ne]; exact h6
        have HNs := hid hNs
        clear hNs hc
        generalize A[j] = z at *
        go_wp2_with fail
        go_roundw
        case rel => exact ⟨j + 1, N, by omega, by go_num, rfl, hN1, fun h => ⟨by have := (HNs.out h).1; omega, (HNs.out h).2⟩, hbr⟩
        case measure => (simp [intOf] <;> omega)
    · obtain rfl : j = A.length := by omega
      have HNs := hid hNs
      clear hNs hlt hj
      have hb0 := hb
      have hbz := hbr
      go_wp2_with fail
      go_loopw [13] (fun iv wr => ∃ j : Nat, j ≤ A.length ∧ iv = .int .i64 (j : Int) ∧ Below wz.heap.size wz wr) (fun iv _ => A.length - (intOf iv).toNat)
      case atStart => exact ⟨0, Nat.zero_le _, rfl, hbz⟩
      case round =>
        obtain ⟨j, hj, rfl, hbr2⟩ := hrel
        by_cases hlt : j < A.length
        · have hjI : (j : Int) < (A.length : Int) := by omega
          rcases Nat.eq_zero_or_pos N with hN0 | hN0
          · subst hN0
            have hNI : (A.length : Int) ≤ 8 := by have := Hmin.out; omega
            have hmin := Hmin.out
            go_wp2_with fail
            all_goals
              (refine (awake13_from HA HT _).mono ?_
               rintro e w2 ⟨rfl, b2⟩
               go_wp2_with fail
               go_ret
               exact ⟨rfl, bnext (bnext hb0 hbr2) b2⟩)
          · obtain rfl : N = 1 := by omega
            obtain ⟨b, off, rfl, hbl, hc⟩ := HAT.out (by omega)
            have hca := hc j hlt
            rw [← hbr2.cell (p := ⟨b, off + j, none⟩) hbl] at hca
            have hzs := Hno.out (HNs.out rfl).2.out.1 (HNs.out rfl).2.out.2 j hlt
            clear hc
            generalize A[j] = z at *
            have z1 : (z == 1) = false := beq_false_of_ne hzs.1
            have z2 : (z == 2) = false := beq_false_of_ne hzs.2.1
            have z4 : (z == 4) = false := beq_false_of_ne hzs.2.2
            clear hzs
            go_wp2_with fail
            go_roundw
            case rel => exact ⟨j + 1, by omega, by go_num, hbr2⟩
            case measure => (simp [intOf] <;> omega)
        · obtain rfl : j = A.length := by omega
          rcases Nat.eq_zero_or_pos N with hN0 | hN0
          · subst hN0
            have hNI : (A.length : Int) ≤ 8 := by have := Hmin.out; omega
            have hmin := Hmin.out
            go_wp2_with fail
            all_goals
              (refine (awake13_from HA HT _).mono ?_
               rintro e w2 ⟨rfl, b2⟩
               go_wp2_with fail
               go_ret
               exact ⟨rfl, bnext (bnext hb0 hbr2) b2⟩)
          · obtain rfl : N = 1 := by omega
            have hNI : (A.length : Int) ≤ 8 := by have := Hmin.out; omega
            have hmin := Hmin.out
            go_wp2_with fail
            all_goals
              (refine (awake13_from HA HT _).mono ?_
               rintro e w2 ⟨rfl, b2⟩
               go_wp2_with fail
               go_ret
               exact ⟨rfl, bnext (bnext hb0 hbr2) b2⟩)
end Go.Proofs.Ytclpblhjfaodbaa
