/- The program's own read and Get (chapter 8). -/
import Derived.Test.YtohgpnlihfcecaaB2
import Derived.Test.YtohgpnlihfcecaaB6
import Derived.Test.YtohgpnlihfcecaaB1
namespace Go.Proofs.Ytohgpnlihfcecaa
open Go.RowKit Go.Proofs
set_option maxRecDepth 50000
set_option linter.unusedVariables false
set_option linter.unusedSimpArgs false

/-- What stands from a place on is told by what stands there. -/
theorem getF_drop (b : List UInt8) (A : Nat) : ∀ (k B : Nat) (acc : List T2), getF b k (A + B) acc = getF (b.drop A) k B acc
  | 0, B, acc => by
    unfold getF
    rw [List.length_drop]
    by_cases h : A + B < b.length
    · rw [if_pos h, if_pos (by omega)]
    · rw [if_neg h, if_neg (by omega)]
  | k + 1, B, acc => by
    unfold getF
    rw [show A + B + 2 = A + (B + 2) by omega, numAt_drop b A (B + 2) 2, numAt_drop b A B 2, List.length_drop]
    by_cases h : A + B < b.length
    · rw [if_pos h, if_pos (show B < b.length - A by omega)]
      by_cases h1 : b.length < A + B + 4
      · rw [if_pos h1, if_pos (show b.length - A < B + 4 by omega)]
      · rw [if_neg h1, if_neg (show ¬ b.length - A < B + 4 by omega)]
        generalize numAt (b.drop A) (B + 2) 2 = n
        by_cases h2 : b.length < A + B + 4 + n
        · rw [if_pos h2, if_pos (show b.length - A < B + 4 + n by omega)]
        · rw [if_neg h2, if_neg (show ¬ b.length - A < B + 4 + n by omega)]
          by_cases h3 : n % 2 = 0
          · rw [if_pos h3, if_pos h3, show A + B + 4 + n = A + (B + 4 + n) by omega, getF_drop b A k (B + 4 + n), List.drop_drop, show A + B + 4 = A + (B + 4) by omega]
          · rw [if_neg h3, if_neg h3]
    · rw [if_neg h, if_neg (show ¬ B < b.length - A by omega)]

theorem getF_hop (b : List UInt8) (k E : Nat) (acc : List T2) : getF b k E acc = getF (b.drop E) k 0 acc := by
  have h := getF_drop b E k 0 acc
  rwa [Nat.add_zero] at h

theorem results_tlv_one {fn : Func} {p : Tmp} (h : fn.results = #[.cell p 47]) (tmps : Array Value) (w : World) (g : Nat) (t : TypeId) (q : T2)
    (hp : tmps.getD p undef = .pointer (some ⟨g, 0, none⟩)) (hB : Box w g (tL q) t) :
    (results fn tmps).run Try.prog w = .ok (tlvV q) w := by
  have hp' : tmps[p]?.getD undef = .pointer (some ⟨g, 0, none⟩) := by simpa using hp
  simp [results, h, hp', asAddr, Sem.run_bind, run_loadVar_row w g t 47 (tL q).toArray (0, 0) _ hB Try.underlying47 rfl (by rw [info_tlv]; rfl)]

set_option maxHeartbeats 1600000 in
theorem readT_any (v : Value) (L : List UInt8) (w : World) (hB : Bytes w v L) (hl : L.length ≤ 140737488355328) (h4 : 4 ≤ L.length) :
    Calls Try.prog 66 #[v] w fun e w' => e = .returned (tlvV (((numAt L 0 2 : Nat) : Int), L.drop 4)) ∧ Below w.heap.size w w' := by
  have hbW := bnew w (Obj.cells #[.int .i64 0, .string ⟨#[]⟩] 47)
  have hBox := Box.new w [.int .i64 0, .string ⟨#[]⟩] 47
  have hB2 := hB.below hbW
  have HG := get_ok v L 0 2 (w.alloc (Obj.cells #[.int .i64 0, .string ⟨#[]⟩] 47)) hB2 hl (by decide) (by decide) (by decide) (standB_true (by decide) (by decide) (by omega))
  obtain ⟨p, cap, rfl, hcap, hmax, hat⟩ := hB2
  unfold maxLen at hmax
  obtain ⟨b, off, rfl, hlt, hc⟩ := hat.pos (by omega)
  have hfull : (L.drop 4).take (L.length - 4) = L.drop 4 := List.take_of_length_le (by rw [List.length_drop]; exact Nat.le_refl _)
  have hS : 4 < cap → (convert 43 9 (.slice (some ⟨b, off + 4, none⟩) (L.length - 4) (cap - 4))).run Try.prog (w.alloc (Obj.cells #[.int .i64 0, .string ⟨#[]⟩] 47)) = .ok (.string ⟨(L.drop 4).toArray⟩) (w.alloc (Obj.cells #[.int .i64 0, .string ⟨#[]⟩] 47)) := by
    intro _
    have h := (Bytes.cut 4 (L.length - 4) (cap - 4) hlt hc (by omega) hcap (by unfold maxLen; omega) rfl).str
    rw [hfull] at h
    exact h
  have hS0 : (convert 43 9 (.slice (some ⟨b, off, none⟩) 0 0)).run Try.prog (w.alloc (Obj.cells #[.int .i64 0, .string ⟨#[]⟩] 47)) = .ok (.string ⟨#[]⟩) (w.alloc (Obj.cells #[.int .i64 0, .string ⟨#[]⟩] 47)) :=
    (show Bytes (w.alloc (Obj.cells #[.int .i64 0, .string ⟨#[]⟩] 47)) (.slice (some ⟨b, off, none⟩) 0 0) [] from ⟨_, 0, rfl, Nat.le_refl _, Nat.zero_le _, .inl rfl⟩).str
  clear hat hc hfull hB
  by_cases hcz : cap = 4
  · have hL4 : L.length = 4 := by omega
    have hD : L.drop 4 = [] := List.drop_eq_nil_of_le (by omega)
    subst hcz
    rw [hL4] at HG
    rw [hL4, hD]
    clear hS
    go_enter Try.func66, Try.ntmps66
    go_upto_region 1 with fail
    generalize hG : w.heap.size = G at *
    generalize w.alloc (Obj.cells #[.int .i64 0, .string ⟨#[]⟩] 47) = W at *
    go_wp2_with fail
    refine HG.mono ?_
    rintro _ w' ⟨rfl, rfl⟩
    rw [show numAt L (Int.toNat 0) (Int.toNat 2) = numAt L 0 2 from rfl]
    generalize hn : numAt L 0 2 = n at *
    go_wp2_with (guard_target =~ wpList _ _ _ (⟨none, _, _, _, _, _⟩ :: _) _ _; refine wpList_store_tlv (op := ⟨none, .store _ _ _, _, _, _, _⟩) (by rfl) _ _ (by rfl) G ((n : Int), []) (tL (0, [])) _ (by rfl) (by rfl) hBox rfl ?_)
    exact bodyPost_ret (v := tlvV ((n : Int), [])) (results_tlv_one (p := 2) rfl _ _ G _ ((n : Int), []) rfl (hBox.rowT _)) rfl ⟨by rw [hn], by rw [hG]; exact below_setRow hbW (Nat.le_refl _) _⟩
  · have h4c : 4 < cap := by omega
    replace hS := hS h4c
    generalize L.drop 4 = D at *
    clear hS0
    go_enter Try.func66, Try.ntmps66
    go_upto_region 1 with fail
    generalize hG : w.heap.size = G at *
    generalize w.alloc (Obj.cells #[.int .i64 0, .string ⟨#[]⟩] 47) = W at *
    go_wp2_with fail
    refine HG.mono ?_
    rintro _ w' ⟨rfl, rfl⟩
    rw [show numAt L (Int.toNat 0) (Int.toNat 2) = numAt L 0 2 from rfl]
    generalize hn : numAt L 0 2 = n at *
    go_wp2_with (guard_target =~ wpList _ _ _ (⟨none, _, _, _, _, _⟩ :: _) _ _; refine wpList_store_tlv (op := ⟨none, .store _ _ _, _, _, _, _⟩) (by rfl) _ _ (by rfl) G ((n : Int), D) (tL (0, [])) _ (by rfl) (by rfl) hBox rfl ?_)
    exact bodyPost_ret (v := tlvV ((n : Int), D)) (results_tlv_one (p := 2) rfl _ _ G _ ((n : Int), D) rfl (hBox.rowT _)) rfl ⟨by rw [hn], by rw [hG]; exact below_setRow hbW (Nat.le_refl _) _⟩

/-- A slice's length. -/
def lenV : Value → Nat
  | .slice _ n _ => n
  | _ => 0

theorem Bytes.head {w : World} {b off n cap : Nat} {L : List UInt8} (E : Nat) (hlt : b < w.heap.size) (hc : ∀ i (h : i < L.length), w.cell? ⟨b, off + i, none⟩ = some (bv L[i])) (hE : E ≤ L.length) (hm : E ≤ maxLen) :
    Bytes w (.slice (some ⟨b, off, none⟩) E E) (L.take E) := by
  have hl : (L.take E).length = E := by rw [List.length_take]; omega
  refine ⟨some ⟨b, off, none⟩, E, by rw [hl], by omega, hm, .inr ⟨b, off, rfl, hlt, fun i hi => ?_⟩⟩
  rw [List.getElem_take]
  exact hc i (by omega)

set_option maxRecDepth 100000 in
set_option maxHeartbeats 4000000 in
theorem getT_any (v : Value) (l : List UInt8) (at' : Int) (w : World) (hB : Bytes w v l) (hl : l.length ≤ 140737488355328) (ha : -9223372036854775808 ≤ at' ∧ at' ≤ 9223372036854775807) :
    Calls Try.prog 30 #[v, .int .i64 at'] w fun e w' => ∃ v', e = .returned (.tuple #[v', .int .i64 (getT l at').2]) ∧ OwnT w' w.heap.size v' (getT l at').1 ∧ Below w.heap.size w w' := by
  obtain ⟨p, cap, rfl, hcap, hmax, hat⟩ := id hB
  unfold maxLen at hmax
  by_cases h0 : 0 ≤ at' ∧ at' ≤ l.length
  · obtain ⟨h0, h1⟩ := h0
    obtain ⟨A, rfl⟩ := Int.eq_ofNat_of_zero_le h0
    have hA : A ≤ l.length := by omega
    have HF : Hid (getT l A = getF (l.drop A) 8 0 []) := hid (by unfold getT; rw [if_pos ⟨h0, h1⟩, Int.toNat_natCast]; exact getF_hop l 8 A [])
    generalize getT l A = F at *
    obtain ⟨FL, FE⟩ := F
    have HL := hid hl
    go_enter Try.func30, Try.ntmps30
    go_wp2_with fail
    refine wp_scope_hop ?_
    intro Q' hret hgo
    go_wp2_with (guard_target =~ wpList _ _ _ (⟨some 22, _, _, _, _, _⟩ :: _) _ _; refine wpList_slice_from (o := ⟨some 22, _, _, _, _, _⟩) (by rfl) _ _ (by rfl) w _ l A (by rfl) (by rfl) hB hA ?_; intro vr hR)
    have hRl : (l.drop A).length ≤ 140737488355328 := by rw [List.length_drop]; omega
    generalize l.drop A = R0 at *
    simp only [show decide (l.length < A) = false from decide_eq_false (by omega), show decide ((A : Int) < 0) = false from decide_eq_false (by omega), Bool.or_self]
    clear hB hat h0 h1 ha hcap hmax
    refine wp_label ?_
    go_wp2_with fail
    go_loopw [6, 7, 8] (fun vl vr er wr => ∃ (R : List UInt8) (acc : List T2), Bytes w vr R ∧ R.length ≤ 140737488355328 ∧ er = .int .i64 0 ∧ acc.length ≤ 8 ∧ OwnT wr w.heap.size vl acc ∧ Below w.heap.size w wr ∧ Hid ((FL, FE) = getF R (8 - acc.length) 0 acc)) (fun _ vr _ _ => lenV vr)
    case atStart => exact ⟨R0, [], hR, hRl, rfl, Nat.zero_le _, OwnT.nil _ _, Below.refl _ _, HF⟩
    case round =>
      clear hR hRl HF
      obtain ⟨R, acc, hR, hRl, rfl, hacc, hown, hb, hG⟩ := hrel
      obtain ⟨pv, cv, rfl, -, -, -⟩ := id hown.tlvs
      by_cases h0 : R.length = 0
      · have HE := hid (hG.out.trans (getF_end (by omega)))
        clear hG
        obtain ⟨pr, cr, rfl, -, -, -⟩ := id hR
        rw [h0] at *
        have h1 : FL = acc := congrArg Prod.fst HE.out
        have h2 : FE = 0 := congrArg Prod.snd HE.out
        subst h1
        subst h2
        go_wp2_with fail
        refine hret _ _ ?_
        go_ret2
        exact ⟨_, rfl, hown, hb⟩
      · have hpos : 0 < R.length := by omega
        have hposI : (0 : Int) < (R.length : Int) := by omega
        have HB := hid fun (w' : World) (h : Below w.heap.size w w') => hR.below h
        obtain ⟨pr, cr, rfl, hcr, hmr, hat⟩ := id hR
        obtain ⟨b, off, rfl, hlt, hcell⟩ := hat.pos hpos
        have HC := hid hcell
        clear hat hcell
        by_cases hfull : acc.length = 8
        · rw [hfull] at hG
          have hI : ((acc.length : Int) == 8) = true := by rw [hfull]; rfl
          by_cases h4 : R.length < 4
          · go_wp2_with fail
            refine (get_no _ R 2 2 wr (HB.out _ hb) hRl (by decide) (.inr (standB_false (by omega)))).mono ?_
            rintro e w' ⟨rfl, rfl⟩
            have HE := hid (hG.out.trans (show getF R 0 0 acc = ([], 7) from getF_full hpos))
            clear hG
            have h1 : FL = [] := congrArg Prod.fst HE.out
            have h2 : FE = 7 := congrArg Prod.snd HE.out
            subst h1
            subst h2
            go_wp2_with fail
            refine hret _ _ ?_
            go_ret2
            exact ⟨_, rfl, OwnT.nil _ _, hb⟩
          · go_wp2_with fail
            refine (get_ok _ R 2 2 wr (HB.out _ hb) hRl (by decide) (by decide) (by decide) (standB_true (by decide) (by decide) (by omega))).mono ?_
            rintro e w' ⟨rfl, rfl⟩
            have HE := hid (hG.out.trans (show getF R 0 0 acc = ([], 7) from getF_full hpos))
            clear hG
            have h1 : FL = [] := congrArg Prod.fst HE.out
            have h2 : FE = 7 := congrArg Prod.snd HE.out
            subst h1
            subst h2
            go_wp2_with fail
            refine hret _ _ ?_
            go_ret2
            exact ⟨_, rfl, OwnT.nil _ _, hb⟩
        · obtain ⟨m, hm⟩ : ∃ m, 8 - acc.length = m + 1 := ⟨7 - acc.length, by omega⟩
          rw [hm] at hG
          have hI : ((acc.length : Int) == 8) = false := by rw [beq_eq_false_iff_ne]; omega
          by_cases h4 : R.length < 4
          · go_wp2_with fail
            refine (get_no _ R 2 2 wr (HB.out _ hb) hRl (by decide) (.inr (standB_false (by omega)))).mono ?_
            rintro e w' ⟨rfl, rfl⟩
            have HE := hid (hG.out.trans (getF_short hpos (by omega)))
            clear hG
            have h1 : FL = [] := congrArg Prod.fst HE.out
            have h2 : FE = 2 := congrArg Prod.snd HE.out
            subst h1
            subst h2
            go_wp2_with fail
            refine hret _ _ ?_
            go_ret2
            exact ⟨_, rfl, OwnT.nil _ _, hb⟩
          · have HE1 := hid (@getF_long R m 0 acc hpos (by omega))
            have HE2 := hid (@getF_odd R m 0 acc hpos (by omega))
            have HE3 := hid (@getF_more R m 0 acc hpos (by omega))
            rw [show 0 + 2 = 2 from rfl, show 0 + 4 = 4 from rfl] at HE1 HE2 HE3
            have HT := num_at_lt R 0 2 (by decide)
            have HN := num_at_lt R 2 2 (by decide)
            go_wp2_with fail
            refine (get_ok _ R 2 2 wr (HB.out _ hb) hRl (by decide) (by decide) (by decide) (standB_true (by decide) (by decide) (by omega))).mono ?_
            rintro e w' ⟨rfl, rfl⟩
            rw [show numAt R (Int.toNat 2) (Int.toNat 2) = numAt R 2 2 from rfl]
            generalize hn : numAt R 2 2 = n at *
            have he := even_tmod n
            by_cases h5 : R.length < 4 + n
            · skip
              have HE := hid (hG.out.trans (HE1.out h5))
              clear hG
              have h1 : FL = [] := congrArg Prod.fst HE.out
              have h2 : FE = 2 := congrArg Prod.snd HE.out
              subst h1
              subst h2
              go_wp2_with fail
              refine hret _ _ ?_
              go_ret2
              exact ⟨_, rfl, OwnT.nil _ _, hb⟩
            · by_cases h6 : n % 2 = 0
              · rw [h6] at he
                have HE := hid (hG.out.trans (HE3.out h5 h6))
                clear hG HE1 HE2 HE3 h6
                have hRE : 4 + n ≤ R.length := by omega
                have hH := Bytes.head (n := 4 + n) (cap := 4 + n) (4 + n) hlt HC.out hRE (by unfold maxLen; omega)
                have HH := hid fun (w' : World) (h : Below w.heap.size w w') => hH.below h
                have hlh : (R.take (4 + n)).length = 4 + n := by rw [List.length_take]; omega
                have hnt : numAt (R.take (4 + n)) 0 2 = numAt R 0 2 := by unfold numAt; rw [List.drop_zero, List.drop_zero, List.take_take, Nat.min_eq_left (by omega)]
                have hdt : (R.take (4 + n)).drop 4 = (R.drop 4).take n := by rw [List.drop_take]; congr 1; omega
                clear hH
                go_wp2_with fail
                refine (readT_any _ (R.take (4 + n)) wr (HH.out _ hb) (by omega) (by omega)).mono ?_
                rintro e w2 ⟨rfl, b2⟩
                rw [hnt, hdt]
                generalize numAt R 0 2 = t at *
                generalize (R.drop 4).take n = s at *
                replace hb := bnext hb b2
                replace hown := hown.below b2
                have hO1 := hown.below (bnew w2 (Obj.cells #[.int .i64 (t : Int), sv s] 47))
                have hL1 := tlvs_lit w2 ((t : Int), s)
                have hB1 := bnext hb (bnew w2 (Obj.cells #[.int .i64 (t : Int), sv s] 47))
                go_wp2_with (first
                  | (guard_target =~ wpList _ _ _ (⟨some 61, _, _, _, _, _⟩ :: _) _ _; refine wpList_slice_from (o := ⟨some 61, _, _, _, _, _⟩) (by rfl) _ _ (by rfl) w _ R (4 + n) (by rfl) (by rfl) hR hRE ?_; intro vr2 hR2)
                  | (at_builtin; refine wpList_append_tlvs (o := ⟨some 58, _, _, _, _, _⟩) rfl _ _ rfl rfl w.heap.size _ _ acc [((t : Int), s)] rfl rfl hO1 hL1 ?_ hB1.size ?_; (simp; omega); intro v' w' hown' hbel'; replace hB1 := hB1.trans hbel'))
                have hDl : (R.drop (4 + n)).length = R.length - (4 + n) := List.length_drop
                obtain ⟨pq, cq, hv2, -, -, -⟩ := id hR2
                go_roundw
                case rel => exact ⟨R.drop (4 + n), acc ++ [((t : Int), s)], hR2, by omega, rfl, by simp; omega, hown', hB1, hid (by rw [HE.out, List.length_append, List.length_singleton, show 8 - (acc.length + 1) = m by omega, getF_hop])⟩
                case measure =>
                  rw [hv2]
                  simp [lenV]
                  omega
              · have h6' : n % 2 = 1 := by omega
                rw [h6'] at he
                have HE := hid (hG.out.trans (HE2.out h5 h6))
                clear hG
                have h1 : FL = [] := congrArg Prod.fst HE.out
                have h2 : FE = 4 := congrArg Prod.snd HE.out
                subst h1
                subst h2
                go_wp2_with fail
                refine hret _ _ ?_
                go_ret2
                exact ⟨_, rfl, OwnT.nil _ _, hb⟩
  · have HF : Hid (getT l at' = ([], 1)) := hid (by unfold getT; rw [if_neg h0])
    generalize getT l at' = F at *
    rcases (by omega : at' < 0 ∨ (0 ≤ at' ∧ (l.length : Int) < at')) with h | ⟨h, h'⟩
    all_goals
      clear h0
      go_enter Try.func30, Try.ntmps30
      go_wp2_with fail
      refine wp_scope_hop ?_
      intro Q' hret hgo
      go_wp2_with fail
      refine hret _ _ ?_
      go_ret2
      exact ⟨_, by rw [HF.out]; rfl, by rw [HF.out]; exact OwnT.nil _ _, Below.refl _ _⟩
end Go.Proofs.Ytohgpnlihfcecaa
