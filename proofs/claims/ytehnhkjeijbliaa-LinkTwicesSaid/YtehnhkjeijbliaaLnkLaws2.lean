/- carillonlaw25's LinkTwices, from contracts (gen_lnklaws.py). -/
import Derived.Test.YtehnhkjeijbliaaLnkLaws1
namespace Go.Proofs.Ytehnhkjeijbliaa
open Go.RowKit Go.Proofs
set_option maxRecDepth 50000
set_option linter.unusedVariables false
set_option linter.unusedSimpArgs false

def repL (b : ByteArray) (i : Nat) : Lz := ⟨List.replicate (min (i + 1) 64) (5, b), ((i + 1 - 64 : Nat) : Int)⟩
theorem repL_length (b : ByteArray) (i : Nat) : (repL b i).q.length = min (i + 1) 64 := by simp [repL]
theorem repL_in {b : ByteArray} {i : Nat} (hb : b.size ≤ 400) (h : i ≤ 100) : InLz (repL b i) := ⟨by rw [repL_length]; omega, (by
  intro x hx
  have h1 := List.eq_of_mem_replicate hx
  rw [h1]; exact hb), by show (0 : Int) ≤ ((i + 1 - 64 : Nat) : Int); omega, by show ((i + 1 - 64 : Nat) : Int) ≤ 4611686018427387904; omega⟩
theorem repL_put {b : ByteArray} (hb : b.size ≤ 400) : putL' nilL 5 b = repL b 0 := by
  unfold putL'
  rw [if_neg (by omega), if_neg (by decide)]
  rfl
theorem repL_look {b : ByteArray} {i j : Nat} (h : j < min (i + 1) 64) : isL (repL b i) (j : Int) = true ∧ lookL (repL b i) (j : Int) = (5, b) ∧ atL (repL b i) (j : Int) = (5, b) := by
  have hl : j < (repL b i).q.length := by rw [repL_length]; exact h
  have e : (repL b i).q[j] = (5, b) := by simp [repL]
  exact ⟨isL_yes hl, by rw [lookL_get hl, e], by rw [atL_get hl, e]⟩
theorem repL_twice {b : ByteArray} {i j : Nat} (hb : b.size ≤ 400) (h : j < min (i + 1) 64) : twiceL (repL b i) (j : Int) = repL b (i + 1) := by
  obtain ⟨h1, -, h3⟩ := repL_look (b := b) h
  unfold twiceL putL'
  rw [h1, if_pos rfl, h3, if_neg (show ¬ 400 < b.size by omega), repL_length]
  by_cases h64 : 64 ≤ min (i + 1) 64
  · rw [if_pos h64]
    unfold repL
    have e : ((i + 1 + 1 - 64 : Nat) : Int) = ((i + 1 - 64 : Nat) : Int) + 1 := by omega
    rw [show min (i + 1 + 1) 64 = min (i + 1) 64 by omega, e]
  · rw [if_neg h64]
    unfold repL
    have e : i + 1 + 1 - 64 = i + 1 - 64 := by omega
    rw [show min (i + 1 + 1) 64 = min (i + 1) 64 + 1 by omega, List.replicate_succ', e]

set_option maxRecDepth 100000 in
set_option maxHeartbeats 8000000 in
theorem linkTwices_from {O : Ob Lz} (HN : CNewL O) (HP : CPutL O) (HT : CTwcL O) (HLen : CLenL O) (HLo : CLostL O) (HLk : CLookL O) (HC : CClrL O) (b : ByteArray) (n : Int) (w : World) :
    Calls Try.prog 5 #[.string b, .int .i64 n] w fun e w' => e = .returned (.bool true) ∧ Below w.heap.size w w' := by
  go_enter Try.func5, Try.ntmps5
  go_wp2_with fail
  refine (HN w).mono ?_
  rintro e w1 ⟨g, rfl, hL, hb⟩
  by_cases h4 : b.size ≤ 400
  case neg =>
    have h4I : ¬ (b.size : Int) ≤ 400 := by omega
    have h4J : 400 < (b.size : Int) := by omega
    go_wp2_with fail
    refine (awake25_from HN HP HT HLen HLo _).mono ?_
    rintro e wz ⟨rfl, bz⟩
    go_wp2_with fail
    go_ret
    exact ⟨rfl, bnext hb bz⟩
  have h4I : (b.size : Int) ≤ 400 := by omega
  go_wp2_with fail
  refine (Ob.lift hL hb fun F hF => HP g F nilL 5 b _ hF nilL_in (by decide) (by omega)).mono ?_
  rintro e w2 ⟨rfl, hL2, hb2⟩
  replace hL := hL2
  replace hb := hb2
  clear hL2 hb2
  rw [repL_put h4] at hL
  go_wp2_with fail
  refine (place_in n 90 _ (by decide) (by decide)).mono ?_
  rintro e w0 ⟨kI, rfl, hk0, hk1, -, rfl⟩
  obtain ⟨k, rfl⟩ := Int.eq_ofNat_of_zero_le hk0
  have hk : k < 90 := by omega
  clear hk0 hk1
  go_wp2_with fail
  go_loopw [7] (fun iv wr => ∃ i : Nat, i ≤ k ∧ iv = .int .i64 (i : Int) ∧ O.At w.heap.size wr g (repL b i) ∧ Below w.heap.size w wr) (fun iv _ => k - (intOf iv).toNat)
  case atStart => exact ⟨0, Nat.zero_le _, rfl, hL, hb⟩
  case round =>
    clear hL hb
    obtain ⟨i, hik, rfl, hL, hb⟩ := hrel
    by_cases hlt : i < k
    · skip
      have hltI : (i : Int) < (k : Int) := by omega
      have hin := repL_in (i := i) h4 (by omega)
      go_wp2_with fail
      obtain ⟨F, hFb, hFr⟩ := hL
      refine (HLen g F (repL b i) _ hFr hin).mono ?_
      rintro e w21 ⟨rfl, bq⟩
      have hL : O.At w.heap.size w21 g (repL b i) := ⟨F, hFb, Ob.below hFr bq⟩
      replace hb := bnext hb bq
      clear bq hFb hFr
      rw [repL_length]
      obtain ⟨M, hM⟩ : ∃ M, M = min (i + 1) 64 := ⟨_, rfl⟩
      rw [← hM]
      obtain ⟨J, hJ⟩ : ∃ J, J = i % M := ⟨_, rfl⟩
      have hM0 : 0 < M := by omega
      have hJM : J < M := by rw [hJ]; exact Nat.mod_lt _ hM0
      have HJ := hid (show J < min (i + 1) 64 by omega)
      have hi0 : (0 : Int) ≤ (i : Int) := by omega
      have hM1 : ¬ (M : Int) = 0 := by omega
      have hM2 : (0 : Int) < (M : Int) := by omega
      have hM3 : ¬ (0 : Int) = (M : Int) := by omega
      have ht1 : (i : Int) % (M : Int) = (J : Int) := by rw [hJ]; exact (Int.natCast_emod i M).symm
      have ht2 : (i : Int).tmod (M : Int) = (J : Int) := by rw [Int.tmod_eq_emod_of_nonneg hi0]; exact ht1
      have hJ64 : J < 64 := by omega
      clear hJ hJM hM0 hM
      go_wp2_with fail
      refine (Ob.lift hL hb fun F hF => HT g F (repL b i) (J : Int) _ hF hin (by omega)).mono ?_
      rintro e w22 ⟨rfl, hL2, hb2⟩
      replace hL := hL2
      replace hb := hb2
      clear hL2 hb2
      rw [repL_twice h4 HJ.out] at hL
      go_wp2_with fail
      go_roundw
      case rel => exact ⟨i + 1, by omega, by go_num, hL, hb⟩
      case measure => (simp [intOf] <;> omega)
    · obtain rfl : k = i := by omega
      have hltI : ¬ (k : Int) < (k : Int) := by omega
      by_cases h64 : k + 1 ≤ 64
      · have h64I : (k : Int) + 1 ≤ 64 := by omega
        have wa : IntKind.i64.wrap ((k : Int) + 1) = (k : Int) + 1 := by rw [IntKind.wrap_i64]; omega
        have wb : IntKind.i64.wrap ((k : Int) + 1 - 64) = (k : Int) + 1 - 64 := by rw [IntKind.wrap_i64]; omega
        have h64J : ((k : Int) + 1 - 64) ≤ 0 := by omega
        have hM : min (k + 1) 64 = (k + 1) := by omega
        have hin := repL_in (i := k) h4 (by omega)
        go_wp2_with fail
        obtain ⟨F, hFb, hFr⟩ := hL
        refine (HLen g F (repL b k) _ hFr hin).mono ?_
        rintro e w41 ⟨rfl, bq⟩
        have hL : O.At w.heap.size w41 g (repL b k) := ⟨F, hFb, Ob.below hFr bq⟩
        replace hb := bnext hb bq
        clear bq hFb hFr
        rw [repL_length, hM]
        all_goals go_wp2_with fail
        all_goals try omega
        obtain ⟨F, hFb, hFr⟩ := hL
        refine (HLo g F (repL b k) _ hFr hin).mono ?_
        rintro e w42 ⟨rfl, bq⟩
        have hL : O.At w.heap.size w42 g (repL b k) := ⟨F, hFb, Ob.below hFr bq⟩
        replace hb := bnext hb bq
        clear bq hFb hFr
        have hlo : (repL b k).lost = ((k + 1 - 64 : Nat) : Int) := rfl
        rw [hlo, show ((k + 1 - 64 : Nat) : Int) = 0 by omega]
        clear hlo
        go_wp2_with fail
        all_goals try omega
        go_loopw [8] (fun iv wr => ∃ i : Nat, i ≤ (k + 1) ∧ iv = .int .i64 (i : Int) ∧ O.At w.heap.size wr g (repL b k) ∧ Below w.heap.size w wr) (fun iv _ => (k + 1) - (intOf iv).toNat)
        case atStart => exact ⟨0, Nat.zero_le _, rfl, hL, hb⟩
        case round =>
          clear hL hb
          obtain ⟨i, hiM, rfl, hL, hb⟩ := hrel
          by_cases hlt : i < (k + 1)
          · skip
            have hltI : (i : Int) < (((k + 1) : Nat) : Int) := by omega
            have hi64 : i < 64 := by omega
            have hj0 : (0 : Int) ≤ (i : Int) := by omega
            go_wp2_with fail
            obtain ⟨F, hFb, hFr⟩ := hL
            refine (HLen g F (repL b k) _ hFr hin).mono ?_
            rintro e w61 ⟨rfl, bq⟩
            have hL : O.At w.heap.size w61 g (repL b k) := ⟨F, hFb, Ob.below hFr bq⟩
            replace hb := bnext hb bq
            clear bq hFb hFr
            rw [repL_length, hM]
            go_wp2_with fail
            obtain ⟨F, hFb, hFr⟩ := hL
            refine (HLk g F (repL b k) ((i : Int)) _ hFr hin (by omega)).mono ?_
            rintro e w62 ⟨rfl, bq⟩
            have hL : O.At w.heap.size w62 g (repL b k) := ⟨F, hFb, Ob.below hFr bq⟩
            replace hb := bnext hb bq
            clear bq hFb hFr
            obtain ⟨e1, e2, -⟩ := repL_look (b := b) (i := k) (j := i) (by omega)
            rw [e1, e2]
            clear e1 e2
            go_wp2_with fail
            go_roundw
            case rel => exact ⟨i + 1, by omega, by go_num, hL, hb⟩
            case measure => (simp [intOf] <;> omega)
          · have hiM2 : i = (k + 1) := by omega
            have hltI : ¬ (i : Int) < (((k + 1) : Nat) : Int) := by omega
            clear hiM2
            go_wp2_with fail
            obtain ⟨F, hFb, hFr⟩ := hL
            refine (HLen g F (repL b k) _ hFr hin).mono ?_
            rintro e w81 ⟨rfl, bq⟩
            have hL : O.At w.heap.size w81 g (repL b k) := ⟨F, hFb, Ob.below hFr bq⟩
            replace hb := bnext hb bq
            clear bq hFb hFr
            rw [repL_length, hM]
            go_wp2_with fail
            refine (Ob.lift hL hb fun F hF => HC g F (repL b k) _ hF hin).mono ?_
            rintro e w82 ⟨rfl, hL2, hb2⟩
            replace hL := hL2
            replace hb := hb2
            clear hL2 hb2
            have hin2 : InLz (clearL (repL b k)) := ⟨Nat.zero_le _, (by intro x hx; cases hx), hin.2.2.1, hin.2.2.2⟩
            go_wp2_with fail
            obtain ⟨F, hFb, hFr⟩ := hL
            refine (HLen g F (clearL (repL b k)) _ hFr hin2).mono ?_
            rintro e w83 ⟨rfl, bq⟩
            have hL : O.At w.heap.size w83 g (clearL (repL b k)) := ⟨F, hFb, Ob.below hFr bq⟩
            replace hb := bnext hb bq
            clear bq hFb hFr
            rw [show ((clearL (repL b k)).q.length : Int) = 0 from rfl]
            all_goals go_wp2_with fail
            all_goals try omega
            obtain ⟨F, hFb, hFr⟩ := hL
            refine (HLo g F (clearL (repL b k)) _ hFr hin2).mono ?_
            rintro e w84 ⟨rfl, bq⟩
            have hL : O.At w.heap.size w84 g (clearL (repL b k)) := ⟨F, hFb, Ob.below hFr bq⟩
            replace hb := bnext hb bq
            clear bq hFb hFr
            rw [show (clearL (repL b k)).lost = ((k + 1 - 64 : Nat) : Int) from rfl, show ((k + 1 - 64 : Nat) : Int) = 0 by omega]
            go_wp2_with fail
            all_goals try omega
            refine (awake25_from HN HP HT HLen HLo _).mono ?_
            rintro e wz ⟨rfl, bz⟩
            go_wp2_with fail
            go_ret
            exact ⟨rfl, bnext hb bz⟩
      · have h64I : ¬ (k : Int) + 1 ≤ 64 := by omega
        have h64K : 64 < (k : Int) + 1 := by omega
        have wa : IntKind.i64.wrap ((k : Int) + 1) = (k : Int) + 1 := by rw [IntKind.wrap_i64]; omega
        have wb : IntKind.i64.wrap ((k : Int) + 1 - 64) = (k : Int) + 1 - 64 := by rw [IntKind.wrap_i64]; omega
        have h64J : ¬ ((k : Int) + 1 - 64) ≤ 0 := by omega
        have hM : min (k + 1) 64 = 64 := by omega
        have hin := repL_in (i := k) h4 (by omega)
        go_wp2_with fail
        obtain ⟨F, hFb, hFr⟩ := hL
        refine (HLen g F (repL b k) _ hFr hin).mono ?_
        rintro e w41 ⟨rfl, bq⟩
        have hL : O.At w.heap.size w41 g (repL b k) := ⟨F, hFb, Ob.below hFr bq⟩
        replace hb := bnext hb bq
        clear bq hFb hFr
        rw [repL_length, hM]
        all_goals go_wp2_with fail
        all_goals try omega
        obtain ⟨F, hFb, hFr⟩ := hL
        refine (HLo g F (repL b k) _ hFr hin).mono ?_
        rintro e w42 ⟨rfl, bq⟩
        have hL : O.At w.heap.size w42 g (repL b k) := ⟨F, hFb, Ob.below hFr bq⟩
        replace hb := bnext hb bq
        clear bq hFb hFr
        have hlo : (repL b k).lost = ((k + 1 - 64 : Nat) : Int) := rfl
        rw [hlo, show ((k + 1 - 64 : Nat) : Int) = (k : Int) + 1 - 64 by omega]
        clear hlo
        go_wp2_with fail
        all_goals try omega
        go_loopw [8] (fun iv wr => ∃ i : Nat, i ≤ 64 ∧ iv = .int .i64 (i : Int) ∧ O.At w.heap.size wr g (repL b k) ∧ Below w.heap.size w wr) (fun iv _ => 64 - (intOf iv).toNat)
        case atStart => exact ⟨0, Nat.zero_le _, rfl, hL, hb⟩
        case round =>
          clear hL hb
          obtain ⟨i, hiM, rfl, hL, hb⟩ := hrel
          by_cases hlt : i < 64
          · skip
            have hltI : (i : Int) < ((64 : Nat) : Int) := by omega
            have hi64 : i < 64 := by omega
            have hj0 : (0 : Int) ≤ (i : Int) := by omega
            go_wp2_with fail
            obtain ⟨F, hFb, hFr⟩ := hL
            refine (HLen g F (repL b k) _ hFr hin).mono ?_
            rintro e w61 ⟨rfl, bq⟩
            have hL : O.At w.heap.size w61 g (repL b k) := ⟨F, hFb, Ob.below hFr bq⟩
            replace hb := bnext hb bq
            clear bq hFb hFr
            rw [repL_length, hM]
            go_wp2_with fail
            obtain ⟨F, hFb, hFr⟩ := hL
            refine (HLk g F (repL b k) ((i : Int)) _ hFr hin (by omega)).mono ?_
            rintro e w62 ⟨rfl, bq⟩
            have hL : O.At w.heap.size w62 g (repL b k) := ⟨F, hFb, Ob.below hFr bq⟩
            replace hb := bnext hb bq
            clear bq hFb hFr
            obtain ⟨e1, e2, -⟩ := repL_look (b := b) (i := k) (j := i) (by omega)
            rw [e1, e2]
            clear e1 e2
            go_wp2_with fail
            go_roundw
            case rel => exact ⟨i + 1, by omega, by go_num, hL, hb⟩
            case measure => (simp [intOf] <;> omega)
          · have hiM2 : i = 64 := by omega
            have hltI : ¬ (i : Int) < ((64 : Nat) : Int) := by omega
            clear hiM2
            go_wp2_with fail
            obtain ⟨F, hFb, hFr⟩ := hL
            refine (HLen g F (repL b k) _ hFr hin).mono ?_
            rintro e w81 ⟨rfl, bq⟩
            have hL : O.At w.heap.size w81 g (repL b k) := ⟨F, hFb, Ob.below hFr bq⟩
            replace hb := bnext hb bq
            clear bq hFb hFr
            rw [repL_length, hM]
            go_wp2_with fail
            refine (Ob.lift hL hb fun F hF => HC g F (repL b k) _ hF hin).mono ?_
            rintro e w82 ⟨rfl, hL2, hb2⟩
            replace hL := hL2
            replace hb := hb2
            clear hL2 hb2
            have hin2 : InLz (clearL (repL b k)) := ⟨Nat.zero_le _, (by intro x hx; cases hx), hin.2.2.1, hin.2.2.2⟩
            go_wp2_with fail
            obtain ⟨F, hFb, hFr⟩ := hL
            refine (HLen g F (clearL (repL b k)) _ hFr hin2).mono ?_
            rintro e w83 ⟨rfl, bq⟩
            have hL : O.At w.heap.size w83 g (clearL (repL b k)) := ⟨F, hFb, Ob.below hFr bq⟩
            replace hb := bnext hb bq
            clear bq hFb hFr
            rw [show ((clearL (repL b k)).q.length : Int) = 0 from rfl]
            all_goals go_wp2_with fail
            all_goals try omega
            obtain ⟨F, hFb, hFr⟩ := hL
            refine (HLo g F (clearL (repL b k)) _ hFr hin2).mono ?_
            rintro e w84 ⟨rfl, bq⟩
            have hL : O.At w.heap.size w84 g (clearL (repL b k)) := ⟨F, hFb, Ob.below hFr bq⟩
            replace hb := bnext hb bq
            clear bq hFb hFr
            rw [show (clearL (repL b k)).lost = ((k + 1 - 64 : Nat) : Int) from rfl, show ((k + 1 - 64 : Nat) : Int) = (k : Int) + 1 - 64 by omega]
            go_wp2_with fail
            all_goals try omega
            refine (awake25_from HN HP HT HLen HLo _).mono ?_
            rintro e wz ⟨rfl, bz⟩
            go_wp2_with fail
            go_ret
            exact ⟨rfl, bnext hb bz⟩

end Go.Proofs.Ytehnhkjeijbliaa
