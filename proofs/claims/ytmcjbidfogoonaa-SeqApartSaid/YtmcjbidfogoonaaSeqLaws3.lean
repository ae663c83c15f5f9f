/- carillonlaw16's SeqMany from contracts (gen_seqlaws.py). -/
import Derived.Test.YtmcjbidfogoonaaSeqLaws2
namespace Go.Proofs.Ytmcjbidfogoonaa
open Go.RowKit Go.Proofs
set_option maxRecDepth 50000
set_option linter.unusedVariables false
set_option linter.unusedSimpArgs false

set_option maxRecDepth 100000 in
set_option maxHeartbeats 8000000 in
theorem seqMany_from {R : List Value → Ms → Prop} (HNew : CNewS R) (HS : CSync R) (HF : CFoll R) (HN : CNext) (HW : CNewer) (first : Int) (v1 : Value) (zs : List Int) (v2 : Value) (bs : List Bool) (w : World) (hI : Ints w v1 zs) (hT : boK.Reads w v2 bs) :
    Calls Try.prog 7 #[.int .i64 first, v1, v2] w fun e w' => e = .returned (.bool true) ∧ Below w.heap.size w w' := by
  obtain ⟨p, cap, rfl, hcap, hmax, hat⟩ := hI
  obtain ⟨q, capq, rfl, hcapq, hmaxq, hatq⟩ := hT
  have HAT := hid fun h => hat.pos h
  have HQT := hid fun h => RowK.At.pos (K := boK) hatq h
  unfold maxLen at hmax hmaxq
  clear hat hatq
  go_enter Try.func7, Try.ntmps7
  go_wp2_with fail
  refine (HNew w).mono ?_
  rintro e w1 ⟨ga, rfl, hg, h9, bq⟩
  have l_hA : w.heap.size ≤ ga := hg
  have hb := bq
  clear bq
  have hA := h9
  clear h9 hg
  go_wp2_with fail
  refine (place_in first 65536 _ (by decide) (by decide)).mono ?_
  rintro e w0 ⟨n0, rfl, hn0, hn1, -, rfl⟩
  go_wp2_with fail
  go_loopw [8, 9] (fun nv iv wr => ∃ (j : Nat) (n : Int), j ≤ zs.length ∧ j ≤ 30 ∧ iv = .int .i64 (j : Int) ∧ nv = .int .i64 n ∧ 0 ≤ n ∧ n < 65536 ∧ SAt R wr ga noneS ∧ Below w.heap.size w wr) (fun _ iv _ => 30 - (intOf iv).toNat)
  case atStart => exact ⟨0, n0, Nat.zero_le _, Nat.zero_le _, rfl, rfl, hn0, hn1, hA, hb⟩
  case round =>
    clear hA hb hn0 hn1
    obtain ⟨j, n, hjl, hj30, rfl, rfl, hn0, hn1, hA, hb⟩ := hrel
    by_cases hlt : j < zs.length
    · by_cases h30 : j < 30
      · have hltI : (j : Int) < (zs.length : Int) := by omega
        have h30I : (j : Int) < 30 := by omega
        have hj0 : (0 : Int) ≤ (j : Int) := by omega
        obtain ⟨b, off, rfl, hbl, hc⟩ := HAT.out (by omega)
        have hca := hc j hlt
        rw [← hb.cell (p := ⟨b, off + j, none⟩) hbl] at hca
        generalize zs[j] = z at *
        clear hc
        go_wp2_with fail
        refine (place_in z 1000000 _ (by decide) (by decide)).mono ?_
        rintro e w0 ⟨o, rfl, ho0, ho1, -, rfl⟩
        clear hca
        have w1' : wrap64 (1000 * (j : Int)) = 1000 * (j : Int) := by unfold wrap64; omega
        have w2' : wrap64 (1000 * (j : Int) + o) = 1000 * (j : Int) + o := by unfold wrap64; omega
        obtain ⟨m1, hm1⟩ : ∃ m1 : Hd × Bd, m1 = ((⟨0, 0, 512, 0, 0, 0, n, 0⟩, bd0) : Hd × Bd) := ⟨_, rfl⟩
        obtain ⟨m2, hm2⟩ : ∃ m2 : Hd × Bd, m2 = ((⟨8, 0, 0, 0, 0, 0, n, 0⟩, { bd0 with st := 1000 * (j : Int) }) : Hd × Bd) := ⟨_, rfl⟩
        have ok1 : HdOk m1.1 := by rw [hm1]; exact hd_ok (show (0 : Int) ≤ 0 by decide) (show (0 : Int) < 18446744073709551616 by decide) (show -9223372036854775808 ≤ (0 : Int) by decide) (show (0 : Int) ≤ 9223372036854775807 by decide)
        have ok2 : HdOk m2.1 := by rw [hm2]; exact hd_ok (show (0 : Int) ≤ 0 by decide) (show (0 : Int) < 18446744073709551616 by decide) (show -9223372036854775808 ≤ (0 : Int) by decide) (show (0 : Int) ≤ 9223372036854775807 by decide)
        have t1 : m1.1.ty = 0 ∧ twoB m1.1.fl = true ∧ m1.1.co = 0 := by rw [hm1]; exact ⟨rfl, two_yes, rfl⟩
        have t2 : m2.1.ty = 8 ∧ m2.1.co = 0 ∧ m2.2.st = 1000 * (j : Int) := by rw [hm2]; exact ⟨rfl, rfl, rfl⟩
        have m12 : matchB m1 m2 = true := by rw [hm1, hm2]; simp [matchB]
        have m21 : matchB m2 m1 = true := by rw [hm1, hm2]; simp [matchB]
        have hd : diffS (1000 * (j : Int) + o) (1000 * (j : Int)) (addI 0 0) = o := by rw [show addI 0 0 = 0 by unfold addI; decide, diff_in (by omega) (by omega) (by omega)]; omega
        have b1 := (sync_none (m := noneS) (at' := 1000 * (j : Int) + o) t1.1 t1.2.1 rfl)
        have b2 := (foll_hit (m := ⟨some (m1, 1000 * (j : Int) + o), none⟩) t2.1 rfl m12)
        have b3 := (foll_none (m := noneS) t2.1 rfl)
        have b4 := (sync_hit (m := ⟨none, some m2⟩) (at' := 1000 * (j : Int) + o) t1.1 t1.2.1 rfl m21)
        rw [t2.2.2, t1.2.2, t2.2.1, hd] at b2 b4
        obtain ⟨b11, b12, b13⟩ := b1
        obtain ⟨b21, b22, b23⟩ := b2
        obtain ⟨b31, b32, b33⟩ := b3
        obtain ⟨b41, b42, b43⟩ := b4
        replace b11 : syncS noneS m1 (1000 * (j : Int) + o) = ⟨some (m1, 1000 * (j : Int) + o), none⟩ := b11
        replace b31 : follS noneS m2 = ⟨none, some m2⟩ := b31
        replace hm1 := hid hm1
        replace hm2 := hid hm2
        clear t1 t2 m12 m21 hd
        go_upto_region 9 with fail
        replace w1' := hid w1'
        replace w2' := hid w2'
        have hn1 := bnew wr (Obj.cells (msK.enc (zeroM)).toArray 34)
        have hM0 := Box.new wr (msK.enc (zeroM)) 34
        go_upto_region 10 with (first | (guard_target =~ wpList _ _ _ (⟨some 41, _, _, _, _, _⟩ :: _) _ _; refine wpList_build_any (op := ⟨some 41, .build _ _, _, _, _, _⟩) (by rfl) _ _ (by rfl) _ (by rfl) (msK.enc m1).toArray (by rw [hm1.out]; kernel_rfl) ?_) | (guard_target =~ wpList _ _ _ (⟨none, _, _, _, _, _⟩ :: _) _ _; refine msT.store (op := ⟨none, .store _ _ _, _, _, _, _⟩) (by rfl) _ _ (by rfl) (wr.heap.size) (m1) (zeroM) _ (by rfl) (by rfl) hM0 ?_))
        have n_hA_hX : ga ≠ wr.heap.size := by have h1 := hA.lt; have h2 := Nat.le_refl wr.heap.size; omega
        have l_hX : w.heap.size ≤ wr.heap.size := Nat.le_trans hb.size (Nat.le_refl wr.heap.size)
        have hX := hM0.rowK (msK.enc (m1))
        replace hA := (hA.below hn1).row (k := wr.heap.size) n_hA_hX (msK.enc (m1)).toArray
        have hW := below_setRow hn1 (Nat.le_refl _) (msK.enc (m1)).toArray
        replace hb := bnext hb hW
        change Code.wp Try.prog _ _ _ ((wr.alloc (Obj.cells (msK.enc (zeroM)).toArray 34)).setRow wr.heap.size (msK.enc (m1)).toArray)
        generalize (wr.alloc (Obj.cells (msK.enc (zeroM)).toArray 34)).setRow wr.heap.size (msK.enc (m1)).toArray = w1 at *
        clear hn1 hM0 hW
        generalize wr.heap.size = gx at *
        have hn1 := bnew w1 (Obj.cells (msK.enc (zeroM)).toArray 34)
        have hM0 := Box.new w1 (msK.enc (zeroM)) 34
        go_upto_region 11 with (first | (guard_target =~ wpList _ _ _ (⟨some 45, _, _, _, _, _⟩ :: _) _ _; refine wpList_build_any (op := ⟨some 45, .build _ _, _, _, _, _⟩) (by rfl) _ _ (by rfl) _ (by rfl) (msK.enc m2).toArray (by rw [hm2.out]; kernel_rfl) ?_) | (guard_target =~ wpList _ _ _ (⟨none, _, _, _, _, _⟩ :: _) _ _; refine msT.store (op := ⟨none, .store _ _ _, _, _, _, _⟩) (by rfl) _ _ (by rfl) (w1.heap.size) (m2) (zeroM) _ (by rfl) (by rfl) hM0 ?_))
        have n_hA_hY : ga ≠ w1.heap.size := by have h1 := hA.lt; have h2 := Nat.le_refl w1.heap.size; omega
        have n_hX_hY : gx ≠ w1.heap.size := by have h1 := hX.lt; have h2 := Nat.le_refl w1.heap.size; omega
        have l_hY : w.heap.size ≤ w1.heap.size := Nat.le_trans hb.size (Nat.le_refl w1.heap.size)
        have hY := hM0.rowK (msK.enc (m2))
        replace hA := (hA.below hn1).row (k := w1.heap.size) n_hA_hY (msK.enc (m2)).toArray
        replace hX := (hX.below hn1).rowK_other (k := w1.heap.size) n_hX_hY (msK.enc (m2)).toArray
        have hW := below_setRow hn1 (Nat.le_refl _) (msK.enc (m2)).toArray
        replace hb := bnext hb hW
        change Code.wp Try.prog _ _ _ ((w1.alloc (Obj.cells (msK.enc (zeroM)).toArray 34)).setRow w1.heap.size (msK.enc (m2)).toArray)
        generalize (w1.alloc (Obj.cells (msK.enc (zeroM)).toArray 34)).setRow w1.heap.size (msK.enc (m2)).toArray = w2 at *
        clear hn1 hM0 hW
        generalize w1.heap.size = gy at *
        have v1 := w1'.out
        have v2 := w2'.out
        go_upto_region 13 with fail
        clear v1 v2
        by_cases htj : j < bs.length
        · have htI : (j : Int) < (bs.length : Int) := by omega
          obtain ⟨bq, offq, rfl, hbq, hrowq⟩ := HQT.out (by omega)
          have hbo := bo_cell hrowq j htj
          rw [← hb.cell (p := ⟨bq, offq + j, none⟩) hbq] at hbo
          clear hrowq
          cases hbj : bs.getD j false
          · rw [hbj] at hbo
            go_wp2_with (guard_target =~ wpList _ _ _ (⟨some 76, _, _, _, _, _⟩ :: _) _ _; refine msT.load (op := ⟨some 76, .load _ _, _, _, _, _⟩) (by rfl) _ (by rfl) gx 0 (by rfl) (m1) hX.rangeK ?_)
            refine (HS ga noneS m1 (1000 * (j : Int) + o) w2 hA ok1).mono ?_
            rintro e w3 ⟨rfl, h9, oq⟩
            replace hX := hX.only oq (Ne.symm n_hA_hX)
            replace hY := hY.only oq (Ne.symm n_hA_hY)
            replace hb := Only.below hb oq l_hA hb.size
            replace hA := h9
            clear h9 oq
            rw [b13]
            rw [b11] at hA
            go_wp2_with (guard_target =~ wpList _ _ _ (⟨some 84, _, _, _, _, _⟩ :: _) _ _; refine msT.load (op := ⟨some 84, .load _ _, _, _, _, _⟩) (by rfl) _ (by rfl) gy 0 (by rfl) (m2) hY.rangeK ?_)
            refine (HF ga ⟨some (m1, 1000 * (j : Int) + o), none⟩ m2 w3 hA ok2).mono ?_
            rintro e w4 ⟨rfl, h9, oq⟩
            replace hX := hX.only oq (Ne.symm n_hA_hX)
            replace hY := hY.only oq (Ne.symm n_hA_hY)
            replace hb := Only.below hb oq l_hA hb.size
            replace hA := h9
            clear h9 oq
            rw [b22, b23]
            rw [b21] at hA
            go_wp2_with fail
            refine (HN n w4 (by omega)).mono ?_
            rintro e w5 ⟨rfl, bq⟩
            replace hA := hA.below bq
            replace hX := hX.below bq
            replace hY := hY.below bq
            replace hb := bnext hb bq
            clear bq
            have hn2 := nextI_in n
            go_wp2_with fail
            go_roundw
            case rel => exact ⟨j + 1, nextI n, by omega, by omega, by go_num, rfl, hn2.1, by omega, hA, hb⟩
            case measure => (simp [intOf] <;> omega)
          · rw [hbj] at hbo
            go_wp2_with (guard_target =~ wpList _ _ _ (⟨some 62, _, _, _, _, _⟩ :: _) _ _; refine msT.load (op := ⟨some 62, .load _ _, _, _, _, _⟩) (by rfl) _ (by rfl) gy 0 (by rfl) (m2) hY.rangeK ?_)
            refine (HF ga noneS m2 w2 hA ok2).mono ?_
            rintro e w3 ⟨rfl, h9, oq⟩
            replace hX := hX.only oq (Ne.symm n_hA_hX)
            replace hY := hY.only oq (Ne.symm n_hA_hY)
            replace hb := Only.below hb oq l_hA hb.size
            replace hA := h9
            clear h9 oq
            rw [b33]
            rw [b31] at hA
            go_wp2_with (guard_target =~ wpList _ _ _ (⟨some 69, _, _, _, _, _⟩ :: _) _ _; refine msT.load (op := ⟨some 69, .load _ _, _, _, _, _⟩) (by rfl) _ (by rfl) gx 0 (by rfl) (m1) hX.rangeK ?_)
            refine (HS ga ⟨none, some m2⟩ m1 (1000 * (j : Int) + o) w3 hA ok1).mono ?_
            rintro e w4 ⟨rfl, h9, oq⟩
            replace hX := hX.only oq (Ne.symm n_hA_hX)
            replace hY := hY.only oq (Ne.symm n_hA_hY)
            replace hb := Only.below hb oq l_hA hb.size
            replace hA := h9
            clear h9 oq
            rw [b42, b43]
            rw [b41] at hA
            go_wp2_with fail
            refine (HN n w4 (by omega)).mono ?_
            rintro e w5 ⟨rfl, bq⟩
            replace hA := hA.below bq
            replace hX := hX.below bq
            replace hY := hY.below bq
            replace hb := bnext hb bq
            clear bq
            have hn2 := nextI_in n
            go_wp2_with fail
            go_roundw
            case rel => exact ⟨j + 1, nextI n, by omega, by omega, by go_num, rfl, hn2.1, by omega, hA, hb⟩
            case measure => (simp [intOf] <;> omega)
        · have htI : ¬ (j : Int) < (bs.length : Int) := by omega
          go_wp2_with (guard_target =~ wpList _ _ _ (⟨some 76, _, _, _, _, _⟩ :: _) _ _; refine msT.load (op := ⟨some 76, .load _ _, _, _, _, _⟩) (by rfl) _ (by rfl) gx 0 (by rfl) (m1) hX.rangeK ?_)
          refine (HS ga noneS m1 (1000 * (j : Int) + o) w2 hA ok1).mono ?_
          rintro e w3 ⟨rfl, h9, oq⟩
          replace hX := hX.only oq (Ne.symm n_hA_hX)
          replace hY := hY.only oq (Ne.symm n_hA_hY)
          replace hb := Only.below hb oq l_hA hb.size
          replace hA := h9
          clear h9 oq
          rw [b13]
          rw [b11] at hA
          go_wp2_with (guard_target =~ wpList _ _ _ (⟨some 84, _, _, _, _, _⟩ :: _) _ _; refine msT.load (op := ⟨some 84, .load _ _, _, _, _, _⟩) (by rfl) _ (by rfl) gy 0 (by rfl) (m2) hY.rangeK ?_)
          refine (HF ga ⟨some (m1, 1000 * (j : Int) + o), none⟩ m2 w3 hA ok2).mono ?_
          rintro e w4 ⟨rfl, h9, oq⟩
          replace hX := hX.only oq (Ne.symm n_hA_hX)
          replace hY := hY.only oq (Ne.symm n_hA_hY)
          replace hb := Only.below hb oq l_hA hb.size
          replace hA := h9
          clear h9 oq
          rw [b22, b23]
          rw [b21] at hA
          go_wp2_with fail
          refine (HN n w4 (by omega)).mono ?_
          rintro e w5 ⟨rfl, bq⟩
          replace hA := hA.below bq
          replace hX := hX.below bq
          replace hY := hY.below bq
          replace hb := bnext hb bq
          clear bq
          have hn2 := nextI_in n
          go_wp2_with fail
          go_roundw
          case rel => exact ⟨j + 1, nextI n, by omega, by omega, by go_num, rfl, hn2.1, by omega, hA, hb⟩
          case measure => (simp [intOf] <;> omega)
      · obtain rfl : j = 30 := by omega
        have hltI : (30 : Int) < (zs.length : Int) := by omega
        go_wp2_with fail
        refine (awake16_from HNew HS HF HN HW _).mono ?_
        rintro e wz ⟨rfl, bz⟩
        go_wp2_with fail
        go_ret
        exact ⟨rfl, bnext hb bz⟩
    · obtain rfl : j = zs.length := by omega
      go_wp2_with fail
      refine (awake16_from HNew HS HF HN HW _).mono ?_
      rintro e wz ⟨rfl, bz⟩
      go_wp2_with fail
      go_ret
      exact ⟨rfl, bnext hb bz⟩

end Go.Proofs.Ytmcjbidfogoonaa
