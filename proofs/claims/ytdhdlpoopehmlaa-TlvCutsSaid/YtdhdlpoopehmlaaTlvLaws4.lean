/- The walk of the law TlvCuts. -/
import Derived.Test.YtdhdlpoopehmlaaTlvAwake
import Derived.Test.YtdhdlpoopehmlaaTlvLaws3
import Derived.Test.YtdhdlpoopehmlaaTlvSay
import Derived.Test.YtdhdlpoopehmlaaPlace
namespace Go.Proofs.Ytdhdlpoopehmlaa
open Go.RowKit Go.Proofs
set_option linter.unusedVariables false
set_option linter.unusedSimpArgs false

set_option maxRecDepth 100000 in
set_option maxHeartbeats 8000000 in
theorem tlvCuts_walk (v : Value) (l : List T2) {w : World} (hT : Tlvs w v l) (hl : l.length * 24 ≤ 140737488351232) (at' : Int) (wt : (Lit.int .i64 at').wf = true) :
    Calls Try.prog 7 #[v, .int .i64 at'] w fun e w' => e = .returned (.bool true) ∧ Below w.heap.size w w' := by
  have hfew := few_any v l w hT (by omega)
  have HT := hid fun (wx : World) (h : Below w.heap.size w wx) => hT.below h
  have hput := fun hz => putT_any none [] 0 v l w (Bytes.nil w) (by decide) hT (by omega) hz
  obtain ⟨p, cap, rfl, hcap, hmax, -⟩ := hT
  unfold maxLen at hmax
  have HL := hid hl
  clear hl wt
  cases hF : fewB l with
  | false =>
    rw [hF] at hfew
    clear hput
    go_enter Try.func7, Try.ntmps7
    go_wp2_with fail
    refine hfew.mono ?_
    rintro e w1 ⟨rfl, rfl⟩
    go_wp2_with fail
    refine (awake08_any w).mono ?_
    rintro e w1 ⟨rfl, b1⟩
    go_wp2_with fail
    go_ret
    exact ⟨rfl, b1⟩
  | true =>
    rw [hF] at hfew
    have h20 := few_len hF
    have hput := hput (fun q hq => by
      obtain ⟨k, hk, rfl⟩ := List.getElem_of_mem hq
      have := few_at hF k hk
      omega)
    rw [List.nil_append] at hput
    have PT := hid (@putT_true l)
    have HFEW := hid (few_at hF)
    clear hF
    generalize putT l = F at *
    obtain ⟨FS, FB⟩ := F
    go_enter Try.func7, Try.ntmps7
    go_wp2_with fail
    refine hfew.mono ?_
    rintro e w1 ⟨rfl, rfl⟩
    clear hfew
    go_wp2_with fail
    refine hput.mono ?_
    rintro e w2 ⟨v2, rfl, o2, b2⟩
    clear hput
    cases FB with
    | false =>
      go_wp2_with fail
      refine (awake08_any w2).mono ?_
      rintro e w3 ⟨rfl, b3⟩
      go_wp2_with fail
      go_ret
      exact ⟨rfl, bnext b2 b3⟩
    | true =>
      obtain ⟨h8, hA, hf⟩ := PT.out rfl
      have hf : FS = flatT l := hf
      subst hf
      have hLB := o2.bytes
      have hpl := posT_le hA l.length (Nat.le_refl _)
      have hpa := posT_all l
      have HB1 := hid fun (n K : Nat) (hn : n ≤ l.length) (hK : K = posT l n) => (show getT ((flatT l).take K) 0 = (l.take n, 0) by rw [hK]; exact getT_between h8 hA n hn)
      have HB2 := hid fun (n K : Nat) (hn : n < l.length) (h1 : posT l n < K) (h2 : K < posT l n + 4 + (l[n]).2.length) => getT_cut h8 hA n K hn h1 h2
      have HP := hid fun (n : Nat) (hn : n < l.length) => posT_succ hA n hn
      have hp0 := posT_zero l
      have HPA := hid hpa
      have HP0 := hid hp0
      have HPL := hid hpl
      clear PT o2 hA hpa hp0 hpl
      generalize posT l = P at *
      generalize flatT l = L at *
      have hLl : L.length ≤ 3232 := by
        have := HPA.out
        have := HPL.out
        omega
      clear HPL
      obtain ⟨pb, cb, rfl, -, -, -⟩ := id hLB
      have hb := b2
      go_wp2_with fail
      refine (place_any at' ((L.length : Int) + 1) w2 (by omega) (by omega)).mono ?_
      rintro e w3 ⟨rfl, rfl⟩
      obtain ⟨K, hK⟩ : ∃ K : Nat, at' % ((L.length : Int) + 1) = (K : Int) := ⟨(at' % ((L.length : Int) + 1)).toNat, by have := Int.emod_nonneg at' (show (L.length : Int) + 1 ≠ 0 by omega); omega⟩
      have hKL : K ≤ L.length := by
        have := Int.emod_lt_of_pos at' (show (0 : Int) < (L.length : Int) + 1 by omega)
        omega
      rw [hK]
      clear hK
      replace HB1 := hid fun n hn hK => HB1.out n K hn hK
      replace HB2 := hid fun n hn h1 h2 => HB2.out n K hn h1 h2
      go_wp2_with fail
      go_loop [8, 9] (fun i e => ∃ n : Nat, n ≤ l.length ∧ i = .int .i64 n ∧ e = .int .i64 (P n) ∧ P n ≤ K) (fun i _ => l.length - (intOf i).toNat)
      case atStart => exact ⟨0, Nat.zero_le _, rfl, by rw [HP0.out]; rfl, by rw [HP0.out]; omega⟩
      case round =>
        obtain ⟨n, hn, rfl, rfl, hPK⟩ := hrel
        by_cases hlt : n < l.length
        · obtain ⟨p', cap', he, -, -, hat⟩ := HT.out _ hb
          cases he
          obtain ⟨b, off, rfl, hrow⟩ := hat.row (by omega)
          obtain ⟨c, s, hq, H1, H2⟩ := hrow.get n hlt
          have c2 := H2.out _ (Below.refl _ _)
          have hps := HP.out n hlt
          have hs6 := HFEW.out n hlt
          rw [hq] at hs6
          have hs6 : s.length ≤ 600 := hs6
          rw [hq] at hps
          have hps : P (n + 1) = P n + 4 + s.length := hps
          have HPS := hid hps
          have HQ := hid hq
          have hnI : (n : Int) < (l.length : Int) := by omega
          have hnI2 : (0 : Int) ≤ (n : Int) := by omega
          clear hat hrow hps hq
          by_cases hfit : P n + 4 + s.length ≤ K
          · have hns : n + 1 ≤ l.length := hlt
            go_wp2_with fail
            go_round
            case rel => exact ⟨n + 1, hns, by go_num, by rw [HPS.out]; go_num, by rw [HPS.out]; exact hfit⟩
            case measure => simp [intOf]; omega
          · have hq := HQ.out
            have hB2 := fun h1 h2 => HB2.out n hlt h1 (by rw [hq]; exact h2)
            have HB3 := hid hB2
            clear hq hB2 HQ HPS
            by_cases hKn : K = P n
            · subst hKn
              have hfit2 : ¬ 4 + s.length ≤ 0 := by omega
              go_wp2_with (guard_target =~ wpList _ _ _ (⟨some 60, _, _, _, _, _⟩ :: _) _ _; refine wpList_slice_upto (o := ⟨some 60, _, _, _, _, _⟩) (by rfl) _ _ (by rfl) w2 _ L (P n) (by rfl) (by rfl) hLB hKL ?_; intro vr hR)
              refine (getT_any vr (L.take (P n)) 0 w2 hR (by rw [List.length_take]; omega) (by decide)).mono ?_
              rintro e w5 ⟨v5, rfl, o5, b5⟩
              rw [HB1.out n hn rfl] at o5 ⊢
              obtain ⟨m, hm⟩ : ∃ m, l.take n = m := ⟨_, rfl⟩
              have hml : m.length = n := by rw [← hm, List.length_take]; omega
              rw [hm] at o5 ⊢
              obtain ⟨p5, c5, rfl, -, -, -⟩ := id o5.tlvs
              replace hb := bnext hb b5
              have hTn : Tlvs w5 (.slice (some ⟨b, off, none⟩) n cap) m := by
                obtain ⟨p', cap', he, h1, h2, h3⟩ := HT.out _ hb
                cases he
                exact ⟨_, cap, by rw [hml], by omega, h2, by rw [← hm]; exact h3.take n⟩
              have HML := hid hml
              clear hml hm
              have hcapn : n ≤ cap := Nat.le_trans hn hcap
              have hnI : (n : Int) ≤ (cap : Int) := by omega
              go_wp2_with fail
              refine (sameTlvs_any _ _ m m w5 o5.tlvs hTn (by rw [HML.out]; omega) (by rw [HML.out]; omega)).mono ?_
              rintro e w6 ⟨rfl, b6⟩
              rw [beq_self_eq_true]
              replace hb := bnext hb b6
              go_wp2_with fail
              refine (awake08_any _).mono ?_
              rintro e w7 ⟨rfl, b7⟩
              go_wp2_with fail
              go_ret
              exact ⟨rfl, bnext hb b7⟩
            · have hlt2 : P n < K := by omega
              go_wp2_with (guard_target =~ wpList _ _ _ (⟨some 60, _, _, _, _, _⟩ :: _) _ _; refine wpList_slice_upto (o := ⟨some 60, _, _, _, _, _⟩) (by rfl) _ _ (by rfl) w2 _ L K (by rfl) (by rfl) hLB hKL ?_; intro vr hR)
              refine (getT_any vr (L.take K) 0 w2 hR (by rw [List.length_take]; omega) (by decide)).mono ?_
              rintro e w5 ⟨v5, rfl, o5, b5⟩
              rw [HB3.out (by omega) (by omega)] at o5 ⊢
              obtain ⟨p5, c5, rfl, -, -, -⟩ := id o5.tlvs
              replace hb := bnext hb b5
              have hII : ((P n : Int) == (K : Int)) = false := by rw [beq_eq_false_iff_ne]; omega
              go_wp2_with fail
              refine (awake08_any _).mono ?_
              rintro e w7 ⟨rfl, b7⟩
              go_wp2_with fail
              go_ret
              exact ⟨rfl, bnext hb b7⟩
        · obtain rfl : n = l.length := by omega
          obtain rfl : K = P l.length := by have := HPA.out; omega
          go_wp2_with (guard_target =~ wpList _ _ _ (⟨some 60, _, _, _, _, _⟩ :: _) _ _; refine wpList_slice_upto (o := ⟨some 60, _, _, _, _, _⟩) (by rfl) _ _ (by rfl) w2 _ L (P l.length) (by rfl) (by rfl) hLB hKL ?_; intro vr hR)
          refine (getT_any vr (L.take (P l.length)) 0 w2 hR (by rw [List.length_take]; omega) (by decide)).mono ?_
          rintro e w5 ⟨v5, rfl, o5, b5⟩
          rw [HB1.out l.length (Nat.le_refl _) rfl] at o5 ⊢
          obtain ⟨m, hm⟩ : ∃ m, l.take l.length = m := ⟨_, rfl⟩
          have hml : m.length = l.length := by rw [← hm, List.length_take]; omega
          rw [hm] at o5 ⊢
          obtain ⟨p5, c5, rfl, -, -, -⟩ := id o5.tlvs
          replace hb := bnext hb b5
          have hTn : Tlvs w5 (.slice p l.length cap) m := by
            obtain ⟨p', cap', he, h1, h2, h3⟩ := HT.out _ hb
            cases he
            exact ⟨p, cap, by rw [hml], by omega, h2, by rw [← hm]; exact h3.take _⟩
          have HML := hid hml
          clear hml hm
          have hcapn : l.length ≤ cap := hcap
          have hnI : (l.length : Int) ≤ (cap : Int) := by omega
          go_wp2_with fail
          refine (sameTlvs_any _ _ m m w5 o5.tlvs hTn (by rw [HML.out]; omega) (by rw [HML.out]; omega)).mono ?_
          rintro e w6 ⟨rfl, b6⟩
          rw [beq_self_eq_true]
          replace hb := bnext hb b6
          go_wp2_with fail
          refine (awake08_any _).mono ?_
          rintro e w7 ⟨rfl, b7⟩
          go_wp2_with fail
          go_ret
          exact ⟨rfl, bnext hb b7⟩
end Go.Proofs.Ytdhdlpoopehmlaa
