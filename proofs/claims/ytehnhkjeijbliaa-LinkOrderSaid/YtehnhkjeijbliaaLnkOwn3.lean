/- The program's own segment: Take, Swap, Clear (gen_lnkown.py). -/
import Derived.Test.YtehnhkjeijbliaaLnkOwn2
import Derived.BigQuiet
import Derived.Lib.SliceRun
namespace Go.Proofs.Ytehnhkjeijbliaa
open Go.RowKit Go.Proofs
set_option maxRecDepth 50000
set_option linter.unusedVariables false
set_option linter.unusedSimpArgs false

variable {rs : List (Int × ByteArray)} {c l : Int} {w w' : World} {g : Nat} {s : Lz}
theorem RowK.wpList_copy {α : Type} {K : RowK α} {ops : Array Oper} {rest : List Oper} {op : Oper} {a : Act} {w : World} {Q : Exit → Act → World → Prop} (hgd : op.guard = none) (d s : Operand) (dT sT elem : TypeId)
    (ho : op.op = .call { callee := .builtin .copy, args := #[d, s], argTypes := #[dT, sT] })
    (b o dLen dCap : Nat) (ad : Addr) (sLen sCap : Nat) (l : List α) (hd : a.eval d = .slice (some ⟨b, o, none⟩) dLen dCap) (hsv : a.eval s = .slice (some ad) sLen sCap)
    (hu : Try.prog.underlying dT = some (.slice elem)) (hs : (Try.prog.info? elem).map (·.size) = some K.n) (hn : l.length = Nat.min sLen dLen)
    (hsrc : ∀ j v, (K.cells l)[j]? = some v → w.cell? (ad.add j) = some v) (hc : w.there b o (K.cells l).length)
    (h : wpList Try.prog ops Q rest (a.put op.dst (goInt l.length)) (w.setCells b o (K.cells l))) : wpList Try.prog ops Q (op :: rest) a w :=
  wpList_plain hgd fun K' hK => RowK.op_copy d s dT sT elem ho b o dLen dCap ad sLen sCap l hd hsv hu hs hn hsrc hc (hK _ _ h)
theorem fr_src (h : rs.length = 64) (hB : Box w g (lkL rs c l) 41) (p m : Nat) (hp : p + m ≤ 64) (j : Nat) (v : Value) (hj : (frK.cells ((rs.drop p).take m))[j]? = some v) : w.cell? ⟨g, p * 2 + j, none⟩ = some v := by
  have hj2 := (List.getElem?_eq_some_iff.1 hj).1
  rw [frK_len, List.length_take, List.length_drop] at hj2
  have e : (frK.cells rs)[p * 2 + j]? = some v := by
    have h1 : frK.cells rs = frK.cells (rs.take p) ++ (frK.cells ((rs.drop p).take m) ++ frK.cells ((rs.drop p).drop m)) := by
      rw [← frK.cells_append, ← frK.cells_append, List.take_append_drop, List.take_append_drop]
    rw [h1, List.getElem?_append_right (by rw [frK_len, List.length_take]; omega), frK_len, List.length_take, show p * 2 + j - min p rs.length * 2 = j by omega, List.getElem?_append_left (by rw [frK_len, List.length_take, List.length_drop]; omega)]
    exact hj
  refine hB.cell _ _ ?_
  unfold lkL
  rw [List.getElem?_append_left (by rw [frK_len]; omega)]
  exact e
theorem rem_row {q : List (Int × ByteArray)} {I m : Nat} (h : rs.length = 64) (hq : q.length = I + (m + 1)) (hq2 : q.length ≤ 64) (ht : rs.take q.length = q) (y : Int × ByteArray) :
    ((rs.take I ++ (rs.drop (I + 1)).take m ++ rs.drop (I + ((rs.drop (I + 1)).take m).length)).set (I + m) y).take (q.eraseIdx I).length = q.eraseIdx I := by
  have hy : ((rs.drop (I + 1)).take m).length = m := by rw [List.length_take, List.length_drop]; omega
  have e1 : q.eraseIdx I = rs.take I ++ (rs.drop (I + 1)).take m := by
    rw [List.eraseIdx_eq_take_drop_succ, ← ht, List.take_take, List.drop_take, show min I q.length = I by omega, show q.length - (I + 1) = m by omega]
  have hl : (rs.take I ++ (rs.drop (I + 1)).take m).length = I + m := by rw [List.length_append, hy, List.length_take]; omega
  rw [e1, hl, List.take_set_of_le (Nat.le_refl _), hy]
  exact List.take_left' hl
theorem rem_len {I m : Nat} (h : rs.length = 64) (hq : I + (m + 1) ≤ 64) : (rs.take I ++ (rs.drop (I + 1)).take m ++ rs.drop (I + ((rs.drop (I + 1)).take m).length)).length = 64 :=
  lk_cells_len h I _ (by rw [List.length_take, List.length_drop]; omega)

set_option maxRecDepth 100000 in
set_option maxHeartbeats 8000000 in
theorem remove_any (FA : ObAt 41 LkR w g s) (hin : s.q.length ≤ 64) (I : Nat) (hI : I < s.q.length) : Calls Try.prog 18 #[.pointer (some ⟨g, 0, none⟩), .int .i64 (I : Int)] w fun e w' => e = .returned (.tuple #[]) ∧ ObAt 41 LkR w' g { s with q := s.q.eraseIdx I } ∧ Only g w w' := by
  obtain ⟨rs, h64, hB, ht⟩ := lk_open FA
  obtain ⟨m, hm⟩ : ∃ m, s.q.length = I + (m + 1) := ⟨s.q.length - I - 1, by omega⟩
  have hS := hid (since_yes FA hin I hI)
  rw [show s.q.length - I = m + 1 by omega] at hS
  rw [hm] at hB
  have HM := hid (show I + (m + 1) ≤ 64 ∧ s.q.length = I + (m + 1) ∧ s.q.length ≤ 64 ∧ rs.take s.q.length = s.q from ⟨by omega, hm, hin, ht⟩)
  have H64 := hid h64
  have HY := hid (show ((rs.drop (I + 1)).take m).length = m by rw [List.length_take, List.length_drop]; omega)
  have HE := hid (show (s.q.eraseIdx I).length = I + m by rw [List.length_eraseIdx, if_pos hI]; omega)
  have hm64 : m < 64 := by omega
  have hmI : (m : Int) < 64 := by omega
  have hm0 : (0 : Int) ≤ (m : Int) := by omega
  have hm1 : (1 : Int) ≤ (m : Int) + 1 := by omega
  have hm2 : (m : Int) < (m : Int) + 1 := by omega
  have hm3 : (0 : Int) ≤ (m : Int) + 1 := by omega
  clear FA h64 ht hm hin hI
  by_cases h0 : m = 0
  · subst h0
    clear hm64 hmI hm0 hm1 hm2 hm3
    go_enter Try.func18, Try.ntmps18
    go_wp2_with fail
    refine hS.out.mono ?_
    rintro e w1 ⟨rfl, bq⟩
    replace hB := hB.below bq
    have HO := hid (Only.of_below g bq)
    have HT2 := hid fun y => rem_row H64.out HM.out.2.1 HM.out.2.2.1 HM.out.2.2.2 y
    have eR : rs.take I ++ (rs.drop (I + 1)).take 0 ++ rs.drop (I + ((rs.drop (I + 1)).take 0).length) = rs := by rw [List.take_zero, List.append_nil]; exact List.take_append_drop I rs
    rw [eR] at HT2
    clear eR bq
    have hth : w1.there g (I * 2) (frK.cells []).length := fun j hj => absurd hj (Nat.not_lt_zero _)
    have hsrc : ∀ j v, (frK.cells [])[j]? = some v → w1.cell? ((⟨g, I * 2, none⟩ : Addr).add j) = some v := fun j v hj => by cases hj
    have hmin : ([] : List (Int × ByteArray)).length = Nat.min 0 1 := rfl
    go_upto_region 2 with (guard_target =~ wpList _ _ _ (⟨some 12, _, _, _, _, _⟩ :: _) _ _; refine frK.wpList_copy (op := ⟨some 12, .call _, _, _, _, _⟩) (by rfl) _ _ 44 44 38 (by rfl) g (I * 2) 1 1 ⟨g, I * 2, none⟩ 0 0 [] (by rfl) (by rfl) Try.underlying44 (by kernel_rfl) hmin hsrc hth ?_)
    change Code.wp _ _ _ _ w1
    have hth2 : I * 2 + frK.n ≤ (lkL rs ((I + (0 + 1) : Nat) : Int) s.lost).length := by rw [lk_len H64.out]; have := HM.out.1; show _ + 2 ≤ _; omega
    have hB3 := lk_put H64.out I (by have := HM.out.1; omega) (0, ⟨#[]⟩) hB
    have HO3 := hid (HO.out.cells (frK.enc (0, ⟨#[]⟩)) (I * 2))
    have HL3 := hid (show (rs.set I (0, ⟨#[]⟩)).length = 64 by rw [List.length_set]; exact H64.out)
    replace HT2 := hid (HT2.out (0, ⟨#[]⟩))
    rw [show I + 0 = I from rfl] at HT2
    rename Box w1 g _ _ => hBm
    clear hsrc hth hmin
    go_upto_region 3 with (first | (guard_target =~ wpList _ _ _ (⟨some 15, _, _, _, _, _⟩ :: _) _ _; refine wpList_build_any (op := ⟨some 15, .build _ _, _, _, _, _⟩) (by rfl) _ _ (by rfl) _ (by rfl) (frK.enc (0, ⟨#[]⟩)).toArray (by kernel_rfl) ?_) | (guard_target =~ wpList _ _ _ (⟨none, _, _, _, _, _⟩ :: _) _ _; refine frT.store_mid (op := ⟨none, .store _ _ _, _, _, _, _⟩) (by rfl) _ _ (by rfl) g (I * 2) (0, ⟨#[]⟩) _ _ (by rfl) (by rfl) hBm hth2 ?_))
    generalize w1.setCells g (I * 2) (frK.enc (0, ⟨#[]⟩)) = W3 at *
    generalize rs.set I (0, ⟨#[]⟩) = rs3 at *
    clear hBm hth2
    have hc := hB3.cell 128 _ (lk_count HL3.out)
    have hf := hB3.free 128
    have hw1 : IntKind.i64.wrap (((I + (0 + 1) : Nat) : Int) - 1) = ((I + 0 : Nat) : Int) := by have := HM.out.1; rw [IntKind.wrap_i64]; omega
    have hB4 := hB3.set 128 (.int .i64 ((I + 0 : Nat) : Int))
    rw [lk_setc HL3.out] at hB4
    have HO4 := hid (HO3.out.cell 128 (.int .i64 ((I + 0 : Nat) : Int)))
    have HA := hid (lk_shut (s := { s with q := s.q.eraseIdx I }) HL3.out (by rw [show (s.q.eraseIdx I).length = I + 0 from HE.out]; exact hB4) HT2.out)
    clear hB3 hB4
    obtain ⟨N, hN⟩ : ∃ N : Int, ((I + (0 + 1) : Nat) : Int) = N := ⟨_, rfl⟩
    obtain ⟨N2, hN2⟩ : ∃ N2 : Int, ((I + 0 : Nat) : Int) = N2 := ⟨_, rfl⟩
    rw [hN] at hc hw1
    rw [hN2] at hw1 HA HO4
    clear hN hN2
    go_wp2_with fail
    go_end0
    exact ⟨rfl, HA.out, HO4.out⟩
  · have hne : ¬ (m : Int) = 0 := by omega
    have hne2 : ¬ (0 : Int) = (m : Int) := by omega
    have hmin : ((rs.drop (I + 1)).take m).length = Nat.min m (m + 1) := by rw [HY.out]; show _ = min _ _; omega
    go_enter Try.func18, Try.ntmps18
    go_wp2_with fail
    refine hS.out.mono ?_
    rintro e w1 ⟨rfl, bq⟩
    replace hB := hB.below bq
    have HO := hid (Only.of_below g bq)
    have hsrc : ∀ j v, (frK.cells ((rs.drop (I + 1)).take m))[j]? = some v → w1.cell? ((⟨g, I * 2 + 2, none⟩ : Addr).add j) = some v := fun j v hj => by
      rw [Addr.add_plain]
      have h := fr_src H64.out hB (I + 1) m (by have := HM.out.1; omega) j v hj
      rw [Nat.add_mul] at h
      exact h
    have hth : w1.there g (I * 2) (frK.cells ((rs.drop (I + 1)).take m)).length := hB.there _ _ (by rw [lk_len H64.out, frK_len, HY.out]; have := HM.out.1; omega)
    have hB2 := lk_cells H64.out I ((rs.drop (I + 1)).take m) (by rw [HY.out]; have := HM.out.1; omega) hB
    have HO2 := hid (HO.out.cells (frK.cells ((rs.drop (I + 1)).take m)) (I * 2))
    have HL2 := hid (rem_len (rs := rs) (I := I) (m := m) H64.out HM.out.1)
    have HT2 := hid fun y => rem_row H64.out HM.out.2.1 HM.out.2.2.1 HM.out.2.2.2 y
    clear bq
    go_upto_region 2 with (guard_target =~ wpList _ _ _ (⟨some 12, _, _, _, _, _⟩ :: _) _ _; refine frK.wpList_copy (op := ⟨some 12, .call _, _, _, _, _⟩) (by rfl) _ _ 44 44 38 (by rfl) g (I * 2) (m + 1) (m + 1) ⟨g, I * 2 + 2, none⟩ m m ((rs.drop (I + 1)).take m) (by rfl) (by rfl) Try.underlying44 (by kernel_rfl) hmin hsrc hth ?_)
    generalize w1.setCells g (I * 2) (frK.cells ((rs.drop (I + 1)).take m)) = W2 at *
    generalize rs.take I ++ (rs.drop (I + 1)).take m ++ rs.drop (I + ((rs.drop (I + 1)).take m).length) = rs2 at *
    clear hsrc hth hB hmin
    have hth2 : I * 2 + m * 2 + frK.n ≤ (lkL rs2 ((I + (m + 1) : Nat) : Int) s.lost).length := by rw [lk_len HL2.out]; have := HM.out.1; show _ + 2 ≤ _; omega
    have hB3 := lk_put HL2.out (I + m) (by have := HM.out.1; omega) (0, ⟨#[]⟩) hB2
    rw [Nat.add_mul] at hB3
    have HO3 := hid (HO2.out.cells (frK.enc (0, ⟨#[]⟩)) (I * 2 + m * 2))
    have HL3 := hid (show (rs2.set (I + m) (0, ⟨#[]⟩)).length = 64 by rw [List.length_set]; exact HL2.out)
    replace HT2 := hid (HT2.out (0, ⟨#[]⟩))
    rename Box W2 g _ _ => hBm
    go_upto_region 3 with (first | (guard_target =~ wpList _ _ _ (⟨some 15, _, _, _, _, _⟩ :: _) _ _; refine wpList_build_any (op := ⟨some 15, .build _ _, _, _, _, _⟩) (by rfl) _ _ (by rfl) _ (by rfl) (frK.enc (0, ⟨#[]⟩)).toArray (by kernel_rfl) ?_) | (guard_target =~ wpList _ _ _ (⟨none, _, _, _, _, _⟩ :: _) _ _; refine frT.store_mid (op := ⟨none, .store _ _ _, _, _, _, _⟩) (by rfl) _ _ (by rfl) g (I * 2 + m * 2) (0, ⟨#[]⟩) _ _ (by rfl) (by rfl) hBm hth2 ?_))
    generalize W2.setCells g (I * 2 + m * 2) (frK.enc (0, ⟨#[]⟩)) = W3 at *
    generalize rs2.set (I + m) (0, ⟨#[]⟩) = rs3 at *
    clear hBm hth2
    have hc := hB3.cell 128 _ (lk_count HL3.out)
    have hf := hB3.free 128
    have hw1 : IntKind.i64.wrap (((I + (m + 1) : Nat) : Int) - 1) = ((I + m : Nat) : Int) := by have := HM.out.1; rw [IntKind.wrap_i64]; omega
    have hB4 := hB3.set 128 (.int .i64 ((I + m : Nat) : Int))
    rw [lk_setc HL3.out] at hB4
    have HO4 := hid (HO3.out.cell 128 (.int .i64 ((I + m : Nat) : Int)))
    have HA := hid (lk_shut (s := { s with q := s.q.eraseIdx I }) HL3.out (by rw [show (s.q.eraseIdx I).length = I + m from HE.out]; exact hB4) HT2.out)
    clear hB3 hB4
    obtain ⟨N, hN⟩ : ∃ N : Int, ((I + (m + 1) : Nat) : Int) = N := ⟨_, rfl⟩
    obtain ⟨N2, hN2⟩ : ∃ N2 : Int, ((I + m : Nat) : Int) = N2 := ⟨_, rfl⟩
    rw [hN] at hc hw1
    rw [hN2] at hw1 HA HO4
    clear hN hN2
    go_wp2_with fail
    go_end0
    exact ⟨rfl, HA.out, HO4.out⟩

set_option maxRecDepth 100000 in
set_option maxHeartbeats 8000000 in
theorem ownTakeL : CTakeL obL := by
  rintro g F s i w ⟨FA, rfl⟩ hin hi
  have HL := hid (look_any FA hin.1 i)
  rcases isL_split s i with hno | ⟨I, rfl, hI⟩
  · have hL : takeL s i = s := by unfold takeL; rw [hno]; rfl
    rw [hL]
    rw [hno] at HL ⊢
    have HA := hid FA
    clear FA hL
    go_enter Try.func11, Try.ntmps11
    go_wp2_with fail
    refine HL.out.mono ?_
    rintro e w1 ⟨rfl, bq⟩
    go_wp2_with fail
    go_ret3
    exact ⟨rfl, obL_goes (HA.out.below bq) (Only.of_below g bq)⟩
  · have hL : takeL s (I : Int) = { s with q := s.q.eraseIdx I } := by unfold takeL; rw [isL_yes hI, if_pos rfl]; rfl
    rw [hL]
    rw [isL_yes hI] at HL ⊢
    have HA := hid FA
    have HI := hid hI
    clear FA hL hI
    go_enter Try.func11, Try.ntmps11
    go_wp2_with fail
    refine HL.out.mono ?_
    rintro e w1 ⟨rfl, bq⟩
    go_wp2_with fail
    refine (remove_any (HA.out.below bq) hin.1 I HI.out).mono ?_
    rintro e w2 ⟨rfl, h1, h2⟩
    go_wp2_with fail
    go_ret3
    exact ⟨rfl, obL_goes h1 ((Only.of_below g bq).trans h2)⟩

end Go.Proofs.Ytehnhkjeijbliaa
