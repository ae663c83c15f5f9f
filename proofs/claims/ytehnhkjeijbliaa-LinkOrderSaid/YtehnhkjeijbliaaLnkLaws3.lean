/- carillonlaw25's LinkSwaps, from contracts (gen_lnklaws.py). -/
import Derived.Test.YtehnhkjeijbliaaLnkLaws1
import Derived.Test.YtehnhkjeijbliaaRowG
import Derived.Test.YtehnhkjeijbliaaBoK
namespace Go.Proofs.Ytehnhkjeijbliaa
open Go.RowKit Go.Proofs
set_option maxRecDepth 50000
set_option linter.unusedVariables false
set_option linter.unusedSimpArgs false

def strK : RowK ByteArray := ⟨fun b => [.string b], 1, by decide, fun _ => rfl, by intro a u hu; rw [List.mem_singleton.1 hu]; rfl⟩
theorem swapL_in {s : Lz} (h : InLz s) (i : Int) : InLz (swapL s i) := by
  unfold swapL
  split
  · rename_i hs
    have hs2 : isL s i = true ∧ isL s (i + 1) = true := by simpa [swapB] using hs
    refine ⟨by simpa using h.1, ?_, h.2.2.1, h.2.2.2⟩
    have mem : ∀ j, isL s j = true → (atL s j).2.size ≤ 400 := fun j hj => by
      have hj2 : 0 ≤ j ∧ j < s.q.length := by simpa [isL] using hj
      obtain ⟨J, rfl⟩ := Int.eq_ofNat_of_zero_le hj2.1
      have hJ : J < s.q.length := by omega
      rw [atL_get hJ]
      exact h.2.1 _ (List.getElem_mem hJ)
    intro x hx
    rcases List.mem_or_eq_of_mem_set hx with hx | rfl
    · rcases List.mem_or_eq_of_mem_set hx with hx | rfl
      · exact h.2.1 x hx
      · exact mem _ hs2.2
    · exact mem _ hs2.1
  · exact h
theorem swap_facts {s : Lz} {K : Nat} (h : K + 1 < s.q.length) : swapB s (K : Int) = true ∧ (swapL s (K : Int)).q.length = s.q.length ∧ lookL (swapL s (K : Int)) (K : Int) = s.q[K + 1] ∧ lookL s ((K : Int) + 1) = s.q[K + 1] ∧ isL s ((K : Int) + 1) = true ∧
    swapB (swapL s (K : Int)) (K : Int) = true ∧ lookL (swapL (swapL s (K : Int)) (K : Int)) (K : Int) = s.q[K]'(by omega) ∧ (swapL (swapL s (K : Int)) (K : Int)).q.length = s.q.length := by
  have hc : ((K : Int) + 1) = ((K + 1 : Nat) : Int) := by omega
  have hK : K < s.q.length := by omega
  have h1 : swapB s (K : Int) = true := by unfold swapB; rw [isL_yes hK, hc, isL_yes h]; rfl
  have hq : swapL s (K : Int) = { s with q := (s.q.set K s.q[K + 1]).set (K + 1) s.q[K] } := by
    unfold swapL
    rw [h1, if_pos rfl, atL_get hK, hc, atL_get h, Int.toNat_natCast, Int.toNat_natCast]
  have hl : (swapL s (K : Int)).q.length = s.q.length := by rw [hq]; simp
  have hK2 : K < (swapL s (K : Int)).q.length := by omega
  have hK3 : K + 1 < (swapL s (K : Int)).q.length := by omega
  have g1 : (swapL s (K : Int)).q[K]'hK2 = s.q[K + 1] := by
    simp only [hq]
    rw [List.getElem_set_ne (by omega), List.getElem_set_self]
  have g2 : (swapL s (K : Int)).q[K + 1]'hK3 = s.q[K] := by
    simp only [hq]
    rw [List.getElem_set_self]
  have h2 : swapB (swapL s (K : Int)) (K : Int) = true := by unfold swapB; rw [isL_yes hK2, hc, isL_yes hK3]; rfl
  have hq2 : swapL (swapL s (K : Int)) (K : Int) = { swapL s (K : Int) with q := ((swapL s (K : Int)).q.set K s.q[K]).set (K + 1) s.q[K + 1] } := by
    rw [show swapL (swapL s (K : Int)) (K : Int) = if swapB (swapL s (K : Int)) (K : Int) then { swapL s (K : Int) with q := ((swapL s (K : Int)).q.set (K : Int).toNat (atL (swapL s (K : Int)) ((K : Int) + 1))).set ((K : Int) + 1).toNat (atL (swapL s (K : Int)) (K : Int)) } else swapL s (K : Int) from rfl]
    rw [h2, if_pos rfl, atL_get hK2, hc, atL_get hK3, Int.toNat_natCast, Int.toNat_natCast, g1, g2]
  have hl2 : (swapL (swapL s (K : Int)) (K : Int)).q.length = s.q.length := by rw [hq2]; simp [hl]
  have hK4 : K < (swapL (swapL s (K : Int)) (K : Int)).q.length := by omega
  refine ⟨h1, hl, by rw [lookL_get hK2, g1], by rw [hc, lookL_get h], by rw [hc, isL_yes h], h2, ?_, hl2⟩
  rw [lookL_get hK4]
  simp only [hq2]
  rw [List.getElem_set_ne (by omega), List.getElem_set_self]
theorem swap_last {s : Lz} {K : Nat} (h : K + 1 = s.q.length) : swapB s (K : Int) = false ∧ isL s ((K : Int) + 1) = false ∧ lookL s ((K : Int) + 1) = nilF := by
  have hc : ((K : Int) + 1) = ((K + 1 : Nat) : Int) := by omega
  have h1 : isL s ((K : Int) + 1) = false := by unfold isL; exact decide_eq_false (by omega)
  exact ⟨by unfold swapB; rw [h1, Bool.and_false], h1, by unfold lookL; rw [h1]; rfl⟩
theorem swap_none {s : Lz} (h : s.q.length = 0) : swapB s 0 = false := by
  unfold swapB isL
  rw [h]
  rfl
theorem put_more {s : Lz} {f : Int} {b : ByteArray} (h : InLz s) (hl : s.q.length < 20) (hb : b.size ≤ 100) : InLz (putL' s f b) ∧ (putL' s f b).q.length = s.q.length + 1 := by
  have e : putL' s f b = { s with q := s.q ++ [(f, b)] } := by unfold putL'; rw [if_neg (by omega), if_neg (by omega)]
  rw [e]
  refine ⟨⟨by simp; omega, ?_, h.2.2.1, h.2.2.2⟩, by simp⟩
  intro x hx
  rcases List.mem_append.1 hx with hx | hx
  · exact h.2.1 x hx
  · obtain rfl := List.mem_singleton.1 hx
    show b.size ≤ 400
    omega

set_option maxRecDepth 100000 in
set_option maxHeartbeats 8000000 in
theorem linkSwaps_from {O : Ob Lz} (HN : CNewL O) (HP : CPutL O) (HT : CTwcL O) (HLen : CLenL O) (HLo : CLostL O) (HLk : CLookL O) (HS : CSwpL O) (v : Value) (l : List ByteArray) (i : Int) (w : World) (hR : strK.Reads w v l) :
    Calls Try.prog 4 #[v, .int .i64 i] w fun e w' => e = .returned (.bool true) ∧ Below w.heap.size w w' := by
  obtain ⟨p, cap, rfl, hcap, hmax, hat⟩ := hR
  have HAT := hid fun h => RowK.At.pos (K := strK) hat h
  unfold maxLen at hmax
  clear hat
  go_enter Try.func4, Try.ntmps4
  go_wp2_with fail
  refine (HN w).mono ?_
  rintro e w1 ⟨g, rfl, hL, hb⟩
  go_wp2_with fail
  go_loopw [6, 7] (fun nv kv wr => ∃ (k n : Nat) (s : Lz), k ≤ l.length ∧ n ≤ 20 ∧ nv = .int .i64 (n : Int) ∧ kv = .int .i64 (k : Int) ∧ s.q.length = n ∧ InLz s ∧ O.At w.heap.size wr g s ∧ Below w.heap.size w wr) (fun _ kv _ => l.length - (intOf kv).toNat)
  case atStart => exact ⟨0, 0, nilL, Nat.zero_le _, Nat.zero_le _, rfl, rfl, rfl, nilL_in, hL, hb⟩
  case round =>
    clear hL hb
    obtain ⟨k, n, s, hkl, hn20, rfl, rfl, hsl, hIN, hL, hb⟩ := hrel
    by_cases hlt : k < l.length
    case neg =>
      have hltI : ¬ (k : Int) < (l.length : Int) := by omega
      clear hlt hkl hcap hmax
      obtain ⟨N, hN⟩ : ∃ N : Int, (n : Int) = N := ⟨_, rfl⟩
      rw [hN]
      have HNN := hid hN
      by_cases h0 : n = 0
      · obtain rfl : N = 0 := by omega
        clear hN
        have hsl0 : s.q.length = 0 := by omega
        have hsl0 := hid hsl0
        clear hsl hn20 h0
        go_wp2_with fail
        refine (Ob.lift hL hb fun F hF => HS g F s 0 _ hF hIN (by decide)).mono ?_
        rintro e w51 ⟨rfl, hL2, hb2⟩
        replace hL := hL2
        replace hb := hb2
        clear hL2 hb2
        rw [swap_none hsl0.out]
        clear hL
        go_wp2_with fail
        refine (awake25_from HN HP HT HLen HLo _).mono ?_
        rintro e wz ⟨rfl, bz⟩
        go_wp2_with fail
        go_ret
        exact ⟨rfl, bnext hb bz⟩
      have h0I : ¬ N = 0 := by omega
      have h0b : (N == 0) = false := by rw [beq_eq_false_iff_ne]; exact h0I
      have HN20 := hid hn20
      have HSL := hid hsl
      have H0 := hid (show 0 < N by omega)
      clear hn20 hsl hN h0
      go_wp2_with fail
      refine (place_in i N _ H0.out (by have := HN20.out; have := HNN.out; omega)).mono ?_
      rintro e w0 ⟨KI, rfl, hk0, hk1, -, rfl⟩
      obtain ⟨K, rfl⟩ := Int.eq_ofNat_of_zero_le hk0
      have hKn : K < n := by have := HNN.out; omega
      have HKn := hid hKn
      have HKL := hid (show K < s.q.length by rw [HSL.out]; exact hKn)
      have wa : IntKind.i64.wrap ((K : Int) + 1) = (K : Int) + 1 := by rw [IntKind.wrap_i64]; have := HN20.out; omega
      have wb : IntKind.i64.wrap (N - 1) = N - 1 := by rw [IntKind.wrap_i64]; have := HN20.out; have := HNN.out; omega
      clear hk0 hk1
      go_wp2_with fail
      obtain ⟨F, hFb, hFr⟩ := hL
      refine (HLk g F (s) ((K : Int)) _ hFr hIN (by have := HN20.out; have := HKn.out; omega)).mono ?_
      rintro e w41 ⟨rfl, bq⟩
      have hL : O.At w.heap.size w41 g (s) := ⟨F, hFb, Ob.below hFr bq⟩
      replace hb := bnext hb bq
      clear bq hFb hFr
      rw [lookL_get HKL.out, isL_yes HKL.out]
      go_wp2_with fail
      try rw [wa]
      obtain ⟨F, hFb, hFr⟩ := hL
      refine (HLk g F (s) ((K : Int) + 1) _ hFr hIN (by have := HN20.out; have := HKn.out; omega)).mono ?_
      rintro e w42 ⟨rfl, bq⟩
      have hL : O.At w.heap.size w42 g (s) := ⟨F, hFb, Ob.below hFr bq⟩
      replace hb := bnext hb bq
      clear bq hFb hFr
      by_cases hm : K + 1 < n
      · skip
        obtain ⟨f1, f2, f3, f4, f5, f6, f7, f8⟩ := swap_facts (s := s) (K := K) (by rw [HSL.out]; exact hm)
        rw [f4, f5]
        obtain ⟨A, hA⟩ : ∃ A, s.q[K]'HKL.out = A := ⟨_, rfl⟩
        obtain ⟨B, hB⟩ : ∃ B, s.q[K + 1]'(by rw [HSL.out]; exact hm) = B := ⟨_, rfl⟩
        rw [hA, hB]
        rw [hB] at f3
        rw [hA] at f7
        have F3 := hid f3
        have F7 := hid f7
        have F1 := hid f1
        have F6 := hid f6
        have F8 := hid (f8.trans HSL.out)
        have hmI : (K : Int) < N - 1 := by have := HNN.out; omega
        have hI2 := swapL_in hIN (K : Int)
        have hI3 := swapL_in hI2 (K : Int)
        clear f1 f2 f3 f4 f5 f6 f7 f8 hA hB hm hKn
        obtain ⟨A1, A2⟩ := A
        obtain ⟨B1, B2⟩ := B
        go_wp2_with fail
        refine (Ob.lift hL hb fun F hF => HS g F s (K : Int) _ hF hIN (by have := HN20.out; have := HKn.out; omega)).mono ?_
        rintro e w71 ⟨rfl, hL2, hb2⟩
        replace hL := hL2
        replace hb := hb2
        clear hL2 hb2
        rw [F1.out]
        go_wp2_with fail
        obtain ⟨F, hFb, hFr⟩ := hL
        refine (HLk g F (swapL s (K : Int)) ((K : Int)) _ hFr hI2 (by have := HN20.out; have := HKn.out; omega)).mono ?_
        rintro e w72 ⟨rfl, bq⟩
        have hL : O.At w.heap.size w72 g (swapL s (K : Int)) := ⟨F, hFb, Ob.below hFr bq⟩
        replace hb := bnext hb bq
        clear bq hFb hFr
        rw [F3.out]
        go_wp2_with fail
        refine (Ob.lift hL hb fun F hF => HS g F (swapL s (K : Int)) (K : Int) _ hF hI2 (by have := HN20.out; have := HKn.out; omega)).mono ?_
        rintro e w73 ⟨rfl, hL2, hb2⟩
        replace hL := hL2
        replace hb := hb2
        clear hL2 hb2
        rw [F6.out]
        go_wp2_with fail
        obtain ⟨F, hFb, hFr⟩ := hL
        refine (HLk g F (swapL (swapL s (K : Int)) (K : Int)) ((K : Int)) _ hFr hI3 (by have := HN20.out; have := HKn.out; omega)).mono ?_
        rintro e w74 ⟨rfl, bq⟩
        have hL : O.At w.heap.size w74 g (swapL (swapL s (K : Int)) (K : Int)) := ⟨F, hFb, Ob.below hFr bq⟩
        replace hb := bnext hb bq
        clear bq hFb hFr
        rw [F7.out]
        go_wp2_with fail
        obtain ⟨F, hFb, hFr⟩ := hL
        refine (HLen g F (swapL (swapL s (K : Int)) (K : Int)) _ hFr hI3).mono ?_
        rintro e w75 ⟨rfl, bq⟩
        have hL : O.At w.heap.size w75 g (swapL (swapL s (K : Int)) (K : Int)) := ⟨F, hFb, Ob.below hFr bq⟩
        replace hb := bnext hb bq
        clear bq hFb hFr
        rw [F8.out, HNN.out]
        go_wp2_with fail
        refine (awake25_from HN HP HT HLen HLo _).mono ?_
        rintro e wz ⟨rfl, bz⟩
        go_wp2_with fail
        go_ret
        exact ⟨rfl, bnext hb bz⟩
      · skip
        obtain ⟨f1, f2, f3⟩ := swap_last (s := s) (K := K) (by rw [HSL.out]; omega)
        rw [f2, f3]
        obtain ⟨A, hA⟩ : ∃ A, s.q[K]'HKL.out = A := ⟨_, rfl⟩
        rw [hA]
        have F1 := hid f1
        have hmI : ¬ (K : Int) < N - 1 := by have := HNN.out; omega
        clear f1 f2 f3 hA hm hKn
        obtain ⟨A1, A2⟩ := A
        rw [show nilF.1 = 0 from rfl, show nilF.2 = ⟨#[]⟩ from rfl]
        go_wp2_with fail
        refine (Ob.lift hL hb fun F hF => HS g F s (K : Int) _ hF hIN (by have := HN20.out; have := HKn.out; omega)).mono ?_
        rintro e w91 ⟨rfl, hL2, hb2⟩
        replace hL := hL2
        replace hb := hb2
        clear hL2 hb2
        rw [F1.out]
        clear hL
        go_wp2_with fail
        refine (awake25_from HN HP HT HLen HLo _).mono ?_
        rintro e wz ⟨rfl, bz⟩
        go_wp2_with fail
        go_ret
        exact ⟨rfl, bnext hb bz⟩
    by_cases h20 : n < 20
    case neg =>
      have hltI : (k : Int) < (l.length : Int) := by omega
      have h20I : ¬ (n : Int) < 20 := by omega
      clear hlt hkl hcap hmax
      obtain ⟨N, hN⟩ : ∃ N : Int, (n : Int) = N := ⟨_, rfl⟩
      rw [hN]
      have HNN := hid hN
      have hNb : ¬ N < 20 := by omega
      by_cases h0 : n = 0
      · exfalso; omega
      have h0I : ¬ N = 0 := by omega
      have h0b : (N == 0) = false := by rw [beq_eq_false_iff_ne]; exact h0I
      have HN20 := hid hn20
      have HSL := hid hsl
      have H0 := hid (show 0 < N by omega)
      clear hn20 hsl hN h0
      go_wp2_with fail
      refine (place_in i N _ H0.out (by have := HN20.out; have := HNN.out; omega)).mono ?_
      rintro e w0 ⟨KI, rfl, hk0, hk1, -, rfl⟩
      obtain ⟨K, rfl⟩ := Int.eq_ofNat_of_zero_le hk0
      have hKn : K < n := by have := HNN.out; omega
      have HKn := hid hKn
      have HKL := hid (show K < s.q.length by rw [HSL.out]; exact hKn)
      have wa : IntKind.i64.wrap ((K : Int) + 1) = (K : Int) + 1 := by rw [IntKind.wrap_i64]; have := HN20.out; omega
      have wb : IntKind.i64.wrap (N - 1) = N - 1 := by rw [IntKind.wrap_i64]; have := HN20.out; have := HNN.out; omega
      clear hk0 hk1
      go_wp2_with fail
      obtain ⟨F, hFb, hFr⟩ := hL
      refine (HLk g F (s) ((K : Int)) _ hFr hIN (by have := HN20.out; have := HKn.out; omega)).mono ?_
      rintro e w41 ⟨rfl, bq⟩
      have hL : O.At w.heap.size w41 g (s) := ⟨F, hFb, Ob.below hFr bq⟩
      replace hb := bnext hb bq
      clear bq hFb hFr
      rw [lookL_get HKL.out, isL_yes HKL.out]
      go_wp2_with fail
      try rw [wa]
      obtain ⟨F, hFb, hFr⟩ := hL
      refine (HLk g F (s) ((K : Int) + 1) _ hFr hIN (by have := HN20.out; have := HKn.out; omega)).mono ?_
      rintro e w42 ⟨rfl, bq⟩
      have hL : O.At w.heap.size w42 g (s) := ⟨F, hFb, Ob.below hFr bq⟩
      replace hb := bnext hb bq
      clear bq hFb hFr
      by_cases hm : K + 1 < n
      · skip
        obtain ⟨f1, f2, f3, f4, f5, f6, f7, f8⟩ := swap_facts (s := s) (K := K) (by rw [HSL.out]; exact hm)
        rw [f4, f5]
        obtain ⟨A, hA⟩ : ∃ A, s.q[K]'HKL.out = A := ⟨_, rfl⟩
        obtain ⟨B, hB⟩ : ∃ B, s.q[K + 1]'(by rw [HSL.out]; exact hm) = B := ⟨_, rfl⟩
        rw [hA, hB]
        rw [hB] at f3
        rw [hA] at f7
        have F3 := hid f3
        have F7 := hid f7
        have F1 := hid f1
        have F6 := hid f6
        have F8 := hid (f8.trans HSL.out)
        have hmI : (K : Int) < N - 1 := by have := HNN.out; omega
        have hI2 := swapL_in hIN (K : Int)
        have hI3 := swapL_in hI2 (K : Int)
        clear f1 f2 f3 f4 f5 f6 f7 f8 hA hB hm hKn
        obtain ⟨A1, A2⟩ := A
        obtain ⟨B1, B2⟩ := B
        go_wp2_with fail
        refine (Ob.lift hL hb fun F hF => HS g F s (K : Int) _ hF hIN (by have := HN20.out; have := HKn.out; omega)).mono ?_
        rintro e w71 ⟨rfl, hL2, hb2⟩
        replace hL := hL2
        replace hb := hb2
        clear hL2 hb2
        rw [F1.out]
        go_wp2_with fail
        obtain ⟨F, hFb, hFr⟩ := hL
        refine (HLk g F (swapL s (K : Int)) ((K : Int)) _ hFr hI2 (by have := HN20.out; have := HKn.out; omega)).mono ?_
        rintro e w72 ⟨rfl, bq⟩
        have hL : O.At w.heap.size w72 g (swapL s (K : Int)) := ⟨F, hFb, Ob.below hFr bq⟩
        replace hb := bnext hb bq
        clear bq hFb hFr
        rw [F3.out]
        go_wp2_with fail
        refine (Ob.lift hL hb fun F hF => HS g F (swapL s (K : Int)) (K : Int) _ hF hI2 (by have := HN20.out; have := HKn.out; omega)).mono ?_
        rintro e w73 ⟨rfl, hL2, hb2⟩
        replace hL := hL2
        replace hb := hb2
        clear hL2 hb2
        rw [F6.out]
        go_wp2_with fail
        obtain ⟨F, hFb, hFr⟩ := hL
        refine (HLk g F (swapL (swapL s (K : Int)) (K : Int)) ((K : Int)) _ hFr hI3 (by have := HN20.out; have := HKn.out; omega)).mono ?_
        rintro e w74 ⟨rfl, bq⟩
        have hL : O.At w.heap.size w74 g (swapL (swapL s (K : Int)) (K : Int)) := ⟨F, hFb, Ob.below hFr bq⟩
        replace hb := bnext hb bq
        clear bq hFb hFr
        rw [F7.out]
        go_wp2_with fail
        obtain ⟨F, hFb, hFr⟩ := hL
        refine (HLen g F (swapL (swapL s (K : Int)) (K : Int)) _ hFr hI3).mono ?_
        rintro e w75 ⟨rfl, bq⟩
        have hL : O.At w.heap.size w75 g (swapL (swapL s (K : Int)) (K : Int)) := ⟨F, hFb, Ob.below hFr bq⟩
        replace hb := bnext hb bq
        clear bq hFb hFr
        rw [F8.out, HNN.out]
        go_wp2_with fail
        refine (awake25_from HN HP HT HLen HLo _).mono ?_
        rintro e wz ⟨rfl, bz⟩
        go_wp2_with fail
        go_ret
        exact ⟨rfl, bnext hb bz⟩
      · skip
        obtain ⟨f1, f2, f3⟩ := swap_last (s := s) (K := K) (by rw [HSL.out]; omega)
        rw [f2, f3]
        obtain ⟨A, hA⟩ : ∃ A, s.q[K]'HKL.out = A := ⟨_, rfl⟩
        rw [hA]
        have F1 := hid f1
        have hmI : ¬ (K : Int) < N - 1 := by have := HNN.out; omega
        clear f1 f2 f3 hA hm hKn
        obtain ⟨A1, A2⟩ := A
        rw [show nilF.1 = 0 from rfl, show nilF.2 = ⟨#[]⟩ from rfl]
        go_wp2_with fail
        refine (Ob.lift hL hb fun F hF => HS g F s (K : Int) _ hF hIN (by have := HN20.out; have := HKn.out; omega)).mono ?_
        rintro e w91 ⟨rfl, hL2, hb2⟩
        replace hL := hL2
        replace hb := hb2
        clear hL2 hb2
        rw [F1.out]
        clear hL
        go_wp2_with fail
        refine (awake25_from HN HP HT HLen HLo _).mono ?_
        rintro e wz ⟨rfl, bz⟩
        go_wp2_with fail
        go_ret
        exact ⟨rfl, bnext hb bz⟩
    have hltI : (k : Int) < (l.length : Int) := by omega
    have h20I : (n : Int) < 20 := by omega
    have hk0 : (0 : Int) ≤ (k : Int) := by omega
    obtain ⟨bb, off, rfl, hbl, hc⟩ := HAT.out (by omega)
    have hcell : wr.cell? ⟨bb, off + k, none⟩ = some (.string l[k]) := by
      rw [hb.cell (p := ⟨bb, off + k, none⟩) (by show bb < w.heap.size; omega)]
      exact cell_one rfl hc k hlt _ rfl
    obtain ⟨b, hbe⟩ : ∃ b, l[k] = b := ⟨_, rfl⟩
    rw [hbe] at hcell
    clear hc hbe
    by_cases hs : b.size ≤ 100
    · have hsI : (b.size : Int) ≤ 100 := by omega
      go_wp2_with fail
      refine (Ob.lift hL hb fun F hF => HP g F s (k : Int) b _ hF hIN (by omega) (by omega)).mono ?_
      rintro e w31 ⟨rfl, hL2, hb2⟩
      replace hL := hL2
      replace hb := hb2
      clear hL2 hb2
      obtain ⟨p1, p2⟩ := put_more (f := (k : Int)) hIN (by omega) hs
      have P2 := hid p2
      clear p2 hcell
      go_wp2_with fail
      go_roundw
      case rel => exact ⟨k + 1, n + 1, _, by omega, by omega, by go_num, by go_num, by rw [P2.out, hsl], p1, hL, hb⟩
      case measure => (simp [intOf] <;> omega)
    · have hsI : ¬ (b.size : Int) ≤ 100 := by omega
      go_wp2_with fail
      go_roundw
      case rel => exact ⟨k + 1, n, s, by omega, by omega, by go_num, by go_num, hsl, hIN, hL, hb⟩
      case measure => (simp [intOf] <;> omega)

end Go.Proofs.Ytehnhkjeijbliaa
