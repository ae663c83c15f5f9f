/- conf.turn and conf.Parse, of the program's own (CPar). -/
import Derived.Test.YtmcnohndgnaagaaConfObey
import Derived.Test.YtmcnohndgnaagaaConfSetA
namespace Go.Proofs.Ytmcnohndgnaagaa
open Go.RowKit Go.Proofs
set_option maxRecDepth 50000
set_option linter.unusedVariables false
set_option linter.unusedSimpArgs false

theorem IterAt.only {w w' : World} {g k : Nat} {s : List UInt8} {pos : Nat} (h : IterAt w k s pos) (ho : Only g w w') (hk : k ≠ g) : IterAt w' k s pos := by
  unfold IterAt
  rw [ho.block k h.lt hk]
  exact h
theorem Box.iset {w : World} {g k : Nat} {xs : List Value} {t : TypeId} (h : Box w k xs t) (hk : g ≠ k) (s : List UInt8) (pos : Nat) : Box (iset w g s pos) k xs t := by
  unfold Box
  rw [iset_other w g s pos k hk]
  exact h
theorem Only.iset {g gI : Nat} {w0 w : World} (h : Only g w0 w) (hg : w0.heap.size ≤ gI) (s : List UInt8) (pos : Nat) : Only g w0 (iset w gI s pos) :=
  ⟨h.os, h.tape, h.output, by rw [iset_size]; exact h.size, fun k hk hkg => (iset_other w gI s pos k (by omega)).trans (h.block k hk hkg)⟩
theorem from_strI (s : List UInt8) (n : Nat) (h : n ≤ s.length) : (⟨s.toArray⟩ : ByteArray).extract n s.length = ⟨(s.drop n).toArray⟩ := by
  apply ByteArray.ext
  simp [ByteArray.data_extract]
  exact List.take_of_length_le (by rw [List.length_drop]; exact Nat.le_refl _)
theorem parse_bad {cl : Int} {t : List UInt8} {nn : Nat} (h : parseF cl t = (zeroC, nn)) (hn : 0 < nn) : parseE cl t = 4 ∧ parseC cl t = zeroC ∧ parseN cl t = nn := by
  have e : parseE cl t = 4 := by
    unfold parseE
    rw [h]
    exact if_pos (by show ¬ nn = 0; omega)
  refine ⟨e, ?_, ?_⟩
  · unfold parseC
    rw [e]
    exact if_neg (by decide)
  · unfold parseN
    rw [h]

set_option maxRecDepth 100000 in
set_option maxHeartbeats 4000000 in
theorem turn_any (g a : Nat) (c0 : Cf) (t : List UInt8) (w : World) (B : Box w g (cfL c0) 29) (hS : Box w a (setsL g) 51) (hag : a ≠ g) (hl : t.length ≤ 5000) :
    Calls Try.prog 36 #[.slice (some ⟨a, 0, none⟩) 22 22, sv t] w
      fun e w' => ∃ c' n, Box w' g (cfL c') 29 ∧ Only g w w' ∧ e = .returned (.int .i64 (n : Nat)) ∧ ((n = 0 ∧ runF c0 1 (splitF t) = (c', 0)) ∨ (0 < n ∧ n ≤ t.length + 1 ∧ runF c0 1 (splitF t) = (zeroC, n))) := by
  have hgw := B.lt
  have haw := hS.lt
  go_enter Try.func36, Try.ntmps36
  go_wp2_with fail
  have hI := IterAt.new w t
  have bi := iter_below w ⟨t.toArray⟩ 0
  replace B := B.below bi
  replace hS := hS.below bi
  have ho := Only.of_below g bi
  generalize w.iter ⟨t.toArray⟩ 0 = W2 at *
  have hgI : w.heap.size ≤ w.heap.size := Nat.le_refl _
  obtain ⟨gI, hgIe⟩ : ∃ gI, w.heap.size = gI := ⟨_, rfl⟩
  rw [hgIe] at hI
  rw [hgIe] at hgw haw
  simp only [hgIe]
  have hne1 : gI ≠ g := by omega
  have hne2 : gI ≠ a := by omega
  have hle : w.heap.size ≤ gI := by omega
  replace hgIe := hid hgIe
  clear bi hgI
  go_loopw [5, 6] (fun n f wr => ∃ (nn a' pos : Nat) (c : Cf), n = .int .i64 (nn : Int) ∧ f = .int .i64 (a' : Int) ∧ a' ≤ pos ∧ pos ≤ t.length ∧ 0 < nn ∧ nn ≤ a' + 1 ∧ Hid (NoTen t a' pos) ∧ Hid (runF c0 1 (splitF t) = runF c nn (splitF (t.drop a'))) ∧ Box wr g (cfL c) 29 ∧ Box wr a (setsL g) 51 ∧ IterAt wr gI t pos ∧ Only g w wr) (fun _ _ wr => t.length - wr.iterPos gI)
  case atStart => exact ⟨1, 0, 0, c0, rfl, rfl, Nat.le_refl _, Nat.zero_le _, by decide, by decide, hid (NoTen.nil t 0), hid rfl, B, hS, hI, ho⟩
  case round =>
    obtain ⟨nn, a', pos, c, rfl, rfl, hap, hpl, hn0, hna, hNT, hRun, B, hS, hI, ho⟩ := hrel
    have hip := hI.pos
    by_cases hlt : pos < t.length
    · obtain ⟨r, k, hd, hk1, hkl, hr, hcase⟩ := rune_step hlt
      have hnx := fun ty => next_at hI ty hlt
      rw [hd] at hnx
      simp only [] at hnx
      have hI2 := hI.set (pos + k)
      have B2 := B.iset hne1 t (pos + k)
      have hS2 := hS.iset hne2 t (pos + k)
      have ho2 := ho.iset hle t (pos + k)
      have hip2 := hI2.pos
      generalize iset wr gI t (pos + k) = W3 at *
      by_cases hr10 : r = 10
      · subst hr10
        obtain ⟨rfl, h10⟩ : k = 1 ∧ t[pos] = 10 := by
          rcases hcase with ⟨h1, h2, h3⟩ | ⟨h1, h2⟩
          · exact ⟨h2, UInt8.toNat_inj.1 h3⟩
          · omega
        have hSL := hid (split_line hap hlt hNT.out h10)
        have hs := cut_str t a' pos hap (by omega)
        have hll : ((t.drop a').take (pos - a')).length ≤ 5000 := by rw [List.length_take, List.length_drop]; omega
        generalize (t.drop a').take (pos - a') = L at *
        have haI : (a' : Int) ≤ (pos : Int) := by omega
        have hpI : (pos : Int) ≤ (t.length : Int) := by omega
        have ha0 : (0 : Int) ≤ (a' : Int) := by omega
        clear hcase hd h10
        go_wp2_with fail
        refine (obey_any g a c L W3 B2 hS2 hag hll).mono ?_
        rintro e w5 ⟨c', B5, o5, hres⟩
        have ho5 := ho2.trans o5
        have hI5 := hI2.only o5 hne1
        have hS5 := hS2.only o5 hag
        have hip5 := hI5.pos
        rcases hres with ⟨hL, rfl⟩ | ⟨hL, rfl⟩
        · have HR := hid (hRun.out.trans (by rw [hSL.out, runF_some hL]))
          have hps : pos + 1 ≤ t.length := hlt
          go_wp2_with fail
          go_roundw
          case rel => exact ⟨nn + 1, pos + 1, pos + 1, c', by go_num, by go_num, Nat.le_refl _, hps, by omega, by omega, hid (NoTen.nil t _), HR, B5, hS5, hI5, ho5⟩
          case measure =>
            rw [hip, hip5]
            omega
        · have HR := hid (hRun.out.trans (by rw [hSL.out, runF_none hL]))
          have hnt : nn ≤ t.length + 1 := by omega
          go_wp2_with fail
          go_ret
          exact ⟨c', nn, B5, ho5, rfl, .inr ⟨hn0, hnt, HR.out⟩⟩
      · have hrI : ((r : Int) != 10) = true := by rw [bne_iff_ne]; omega
        have HN2 := hid (hNT.out.step hlt hr10 hcase)
        clear hcase hd
        go_wp2_with fail
        go_roundw
        case rel => exact ⟨nn, a', pos + k, c, rfl, rfl, by omega, hkl, hn0, hna, HN2, hRun, B2, hS2, hI2, ho2⟩
        case measure =>
          rw [hip, hip2]
          omega
    · have hnx := fun ty => next_over hI ty hlt
      have hpe : pos = t.length := by omega
      have hSL := hid (split_last (a := a') (by rw [← hpe]; exact hNT.out))
      have hs := from_strI t a' (by omega)
      have hll : (t.drop a').length ≤ 5000 := by rw [List.length_drop]; omega
      have haI : (a' : Int) ≤ (t.length : Int) := by omega
      have ha0 : (0 : Int) ≤ (a' : Int) := by omega
      have hnt : nn ≤ t.length + 1 := by omega
      clear hpe
      generalize t.drop a' = L at *
      go_wp2_with fail
      refine (obey_any g a c L wr B hS hag hll).mono ?_
      rintro e w5 ⟨c', B5, o5, hres⟩
      have ho5 := ho.trans o5
      rcases hres with ⟨hL, rfl⟩ | ⟨hL, rfl⟩
      · have HR := hid (show runF c0 1 (splitF t) = (c', 0) from hRun.out.trans (by rw [hSL.out, runF_some hL]; rfl))
        go_wp2_with fail
        go_ret
        exact ⟨c', 0, B5, ho5, rfl, .inl ⟨rfl, HR.out⟩⟩
      · have HR := hid (show runF c0 1 (splitF t) = (zeroC, nn) from hRun.out.trans (by rw [hSL.out, runF_none hL]))
        go_wp2_with fail
        go_ret
        exact ⟨c', nn, B5, ho5, rfl, .inr ⟨hn0, hnt, HR.out⟩⟩

set_option maxRecDepth 100000 in
set_option maxHeartbeats 4000000 in
theorem ownPar : CPar := by
  intro cl t w hcl hl
  have hA := Box.new w (cfL zeroC) 29
  have hbW := bnew w (Obj.cells (cfL zeroC).toArray 29)
  go_enter Try.func7, Try.ntmps7
  go_upto_region 1 with fail
  change Code.wp Try.prog _ _ _ (w.alloc (Obj.cells (cfL zeroC).toArray 29))
  generalize w.alloc (Obj.cells (cfL zeroC).toArray 29) = W at *
  generalize hG : w.heap.size = G at *
  have hGW : G < W.heap.size := hA.lt
  go_wp2_with fail
  refine (ownDef cl W hcl).mono ?_
  rintro e w1 ⟨rfl, b1⟩
  replace hA := hA.below b1
  have hb := hbW.trans (b1.mono (Nat.le_of_lt hGW))
  have hG1 : G < w1.heap.size := hA.lt
  have N := Box.new w1 (cfL zeroC) 29
  have nb := bnew w1 (Obj.cells (cfL zeroC).toArray 29)
  go_upto_region 2 with (guard_target =~ wpList _ _ _ (⟨none, _, _, _, _, _⟩ :: _) _ _; refine wpList_store_conf (op := ⟨none, .store _ _ _, _, _, _, _⟩) (by rfl) _ _ (by rfl) w1.heap.size (defC cl) (zeroC) _ (by rfl) (by rfl) N ?_)
  have B := N.rowC (cfL (defC cl))
  replace nb := below_setRow nb (Nat.le_refl _) (cfL (defC cl)).toArray
  change Code.wp _ _ _ _ ((w1.alloc (Obj.cells (cfL zeroC).toArray 29)).setRow w1.heap.size (cfL (defC cl)).toArray)
  generalize ((w1.alloc (Obj.cells (cfL zeroC).toArray 29)).setRow w1.heap.size (cfL (defC cl)).toArray) = W1 at *
  generalize hgC : w1.heap.size = gC at *
  have nc : Below w1.heap.size w1 W1 := by rw [hgC]; exact nb
  replace hb := hb.trans (nc.mono (by omega))
  replace hA := hA.below nc
  clear N nb nc hbW
  have hCI := B.lt
  have hGC : G < gC := by omega
  clear hgC
  go_wp2_with fail
  refine (settings_any gC W1).mono ?_
  rintro e w2 ⟨rfl, hS, b2⟩
  replace B := B.below b2
  replace hA := hA.below b2
  replace hb := hb.trans (b2.mono (by omega))
  generalize W1.heap.size = aS at *
  have hag : aS ≠ gC := by omega
  go_wp2_with fail
  refine (turn_any gC aS (defC cl) t w2 B hS hag hl).mono ?_
  rintro e w5 ⟨c', n, B5, o5, rfl, hres⟩
  have hA2 := hA.lt
  have hb5 := Only.below hb o5 (by omega) (by omega)
  have hA5 := hA.only o5 (by omega)
  clear hA hb B hS
  rcases hres with ⟨rfl, hR⟩ | ⟨hn0, hnt, hR⟩
  · have HR : parseF cl t = (c', 0) := hR
    go_wp2_with (guard_target =~ wpList _ _ _ (⟨some 19, _, _, _, _, _⟩ :: _) _ _; refine wpList_load_conf (op := ⟨some 19, .load _ _, _, _, _, _⟩) (by rfl) _ (by rfl) gC (by rfl) (c') _ B5 ?_)
    refine (ownChk c' w5 (by unfold CfIn; rw [parse_cl HR]; exact hcl)).mono ?_
    rintro e w6 ⟨rfl, b6⟩
    have hGw := hA5.lt
    replace hA5 := hA5.below b6
    replace B5 := B5.below b6
    have hb6 := hb5.trans (b6.mono (Nat.le_of_lt hGw))
    obtain ⟨PE, PN, PC⟩ := parse_good HR
    by_cases hE : checkE c' = 0
    · rw [if_pos hE] at PC
      rw [hE] at PE ⊢
      go_wp2_with (first | (guard_target =~ wpList _ _ _ (⟨some 25, _, _, _, _, _⟩ :: _) _ _; refine wpList_load_conf (op := ⟨some 25, .load _ _, _, _, _, _⟩) (by rfl) _ (by rfl) gC (by rfl) (c') _ B5 ?_) | (guard_target =~ wpList _ _ _ (⟨none, _, _, _, _, _⟩ :: _) _ _; refine wpList_store_conf (op := ⟨none, .store _ _ _, _, _, _, _⟩) (by rfl) _ _ (by rfl) G (c') (zeroC) _ (by rfl) (by rfl) hA5 ?_))
      exact bodyPost_ret (v := .tuple #[.agg (cfL c').toArray, .int .i64 0, .int .i64 0]) (results_conf_3 (p := 4) (u := 5) (u' := 6) rfl _ _ G _ c' rfl (hA5.rowC _)) rfl ⟨by rw [PE, PC, PN]; rfl, by rw [hG]; exact below_setRow hb6 (Nat.le_refl _) _⟩
    · rw [if_neg hE] at PC
      have hEI : (checkE c' == 0) = false := beq_false_of_ne hE
      generalize hX : checkE c' = X at *
      go_wp2_with (guard_target =~ wpList _ _ _ (⟨none, _, _, _, _, _⟩ :: _) _ _; refine wpList_store_conf (op := ⟨none, .store _ _ _, _, _, _, _⟩) (by rfl) _ _ (by rfl) G (zeroC) (zeroC) _ (by rfl) (by rfl) hA5 ?_)
      exact bodyPost_ret (v := .tuple #[.agg (cfL zeroC).toArray, .int .i64 0, .int .i64 X]) (results_conf_3 (p := 4) (u := 5) (u' := 6) rfl _ _ G _ zeroC rfl (hA5.rowC _)) rfl ⟨by rw [PE, PC, PN]; rfl, by rw [hG]; exact below_setRow hb6 (Nat.le_refl _) _⟩
  · have HR : parseF cl t = (zeroC, n) := hR
    obtain ⟨PE, PC, PN⟩ := parse_bad HR hn0
    have hnI : ((n : Int) != 0) = true := by rw [bne_iff_ne]; omega
    go_wp2_with (guard_target =~ wpList _ _ _ (⟨none, _, _, _, _, _⟩ :: _) _ _; refine wpList_store_conf (op := ⟨none, .store _ _ _, _, _, _, _⟩) (by rfl) _ _ (by rfl) G (zeroC) (zeroC) _ (by rfl) (by rfl) hA5 ?_)
    exact bodyPost_ret (v := .tuple #[.agg (cfL zeroC).toArray, .int .i64 (n : Nat), .int .i64 4]) (results_conf_3 (p := 4) (u := 5) (u' := 6) rfl _ _ G _ zeroC rfl (hA5.rowC _)) rfl ⟨by rw [PE, PC, PN], by rw [hG]; exact below_setRow hb5 (Nat.le_refl _) _⟩
end Go.Proofs.Ytmcnohndgnaagaa
