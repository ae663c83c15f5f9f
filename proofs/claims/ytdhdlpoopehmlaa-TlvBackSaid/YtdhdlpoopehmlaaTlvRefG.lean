/- The document's own Get (chapter 8). -/
import Derived.Test.YtdhdlpoopehmlaaTlvBox
import Derived.Test.YtdhdlpoopehmlaaOctRef
namespace Go.Proofs.Ytdhdlpoopehmlaa
open Go.RowKit Go.Proofs
set_option linter.unusedVariables false
set_option linter.unusedSimpArgs false

/-- The TLVs that bytes say from a place on, at most k more. -/
def getF (b : List UInt8) : Nat → Nat → List T2 → List T2 × Int
  | 0, A, acc => if A < b.length then ([], 7) else (acc, 0)
  | k + 1, A, acc =>
    if A < b.length then
      if b.length < A + 4 then ([], 2)
      else if b.length < A + 4 + numAt b (A + 2) 2 then ([], 2)
      else if numAt b (A + 2) 2 % 2 = 0 then getF b k (A + 4 + numAt b (A + 2) 2) (acc ++ [(((numAt b A 2 : Nat) : Int), (b.drop (A + 4)).take (numAt b (A + 2) 2))])
      else ([], 4)
    else (acc, 0)

def getT (b : List UInt8) (at' : Int) : List T2 × Int := if 0 ≤ at' ∧ at' ≤ b.length then getF b 8 at'.toNat [] else ([], 1)

theorem getF_end {b : List UInt8} {k A : Nat} {acc : List T2} (h : b.length ≤ A) : getF b k A acc = (acc, 0) := by
  cases k <;> simp only [getF, if_neg (show ¬ A < b.length by omega)]
theorem getF_full {b : List UInt8} {A : Nat} {acc : List T2} (h : A < b.length) : getF b 0 A acc = ([], 7) := by
  simp only [getF, if_pos h]
theorem getF_short {b : List UInt8} {k A : Nat} {acc : List T2} (h : A < b.length) (h1 : b.length < A + 4) : getF b (k + 1) A acc = ([], 2) := by
  simp only [getF, if_pos h, if_pos h1]
theorem getF_long {b : List UInt8} {k A : Nat} {acc : List T2} (h : A < b.length) (h1 : ¬ b.length < A + 4) (h2 : b.length < A + 4 + numAt b (A + 2) 2) : getF b (k + 1) A acc = ([], 2) := by
  simp only [getF, if_pos h, if_neg h1, if_pos h2]
theorem getF_odd {b : List UInt8} {k A : Nat} {acc : List T2} (h : A < b.length) (h1 : ¬ b.length < A + 4) (h2 : ¬ b.length < A + 4 + numAt b (A + 2) 2) (h3 : ¬ numAt b (A + 2) 2 % 2 = 0) : getF b (k + 1) A acc = ([], 4) := by
  simp only [getF, if_pos h, if_neg h1, if_neg h2, if_neg h3]
theorem getF_more {b : List UInt8} {k A : Nat} {acc : List T2} (h : A < b.length) (h1 : ¬ b.length < A + 4) (h2 : ¬ b.length < A + 4 + numAt b (A + 2) 2) (h3 : numAt b (A + 2) 2 % 2 = 0) :
    getF b (k + 1) A acc = getF b k (A + 4 + numAt b (A + 2) 2) (acc ++ [(((numAt b A 2 : Nat) : Int), (b.drop (A + 4)).take (numAt b (A + 2) 2))]) := by
  simp only [getF, if_pos h, if_neg h1, if_neg h2, if_pos h3]

set_option maxRecDepth 100000 in
set_option maxHeartbeats 4000000 in
theorem refGetT_any (v : Value) (l : List UInt8) (at' : Int) (w : World) (hB : Bytes w v l) (hl : l.length ≤ 140737488355328) (ha : -9223372036854775808 ≤ at' ∧ at' ≤ 9223372036854775807) :
    Calls Try.prog 23 #[v, .int .i64 at'] w fun e w' => ∃ v', e = .returned (.tuple #[v', .int .i64 (getT l at').2]) ∧ OwnT w' w.heap.size v' (getT l at').1 ∧ Below w.heap.size w w' := by
  have HB := hid fun (w' : World) (h : Below w.heap.size w w') => hB.below h
  obtain ⟨p, cap, rfl, hcap, hmax, hat⟩ := hB
  have HC := hid hcap
  have HX := hid hmax
  clear hat hcap hmax
  by_cases h0 : 0 ≤ at'
  · by_cases h1 : at' ≤ l.length
    · obtain ⟨A0, rfl⟩ := Int.eq_ofNat_of_zero_le h0
      have HF : Hid (getT l A0 = getF l 8 A0 []) := hid (by unfold getT; rw [if_pos ⟨h0, h1⟩]; rfl)
      have hA0 : A0 ≤ l.length := by omega
      generalize getT l A0 = F at *
      go_enter Try.func23, Try.ntmps23
      go_wp2_with fail
      simp only [show decide (l.length < A0) = false from decide_eq_false (by omega), show decide ((A0 : Int) < 0) = false from decide_eq_false (by omega), Bool.or_self]
      go_loopw [1, 6] (fun ia vl wr => ∃ (A : Nat) (acc : List T2), A ≤ l.length ∧ ia = .int .i64 A ∧ acc.length ≤ 8 ∧ OwnT wr w.heap.size vl acc ∧ Below w.heap.size w wr ∧ Hid (F = getF l (8 - acc.length) A acc)) (fun ia _ _ => l.length - (intOf ia).toNat)
      case atStart => exact ⟨A0, [], hA0, rfl, Nat.zero_le _, OwnT.nil _ _, Below.refl _ _, HF⟩
      case round =>
        obtain ⟨A, acc, hA, rfl, hacc, hown, hb, hG⟩ := hrel
        by_cases hlt : A < l.length
        · obtain ⟨pv, cv, rfl, -, -, -⟩ := id hown.tlvs
          by_cases hfull : acc.length = 8
          · have HE := hid (hG.out.trans (show getF l (8 - acc.length) A acc = ([], 7) by rw [hfull]; exact getF_full hlt))
            clear hG
            have hI : ((acc.length : Int) == 8) = true := by rw [hfull]; rfl
            go_wp2_with fail
            go_ret2
            exact ⟨_, by rw [HE.out]; rfl, by rw [HE.out]; exact OwnT.nil _ _, hb⟩
          · obtain ⟨m, hm⟩ : ∃ m, 8 - acc.length = m + 1 := ⟨7 - acc.length, by omega⟩
            rw [hm] at hG
            have hI : ((acc.length : Int) == 8) = false := by rw [beq_eq_false_iff_ne]; omega
            by_cases h4 : l.length < A + 4
            · have HE := hid (hG.out.trans (getF_short hlt h4))
              clear hG
              go_wp2_with fail
              go_ret2
              exact ⟨_, by rw [HE.out]; rfl, by rw [HE.out]; exact OwnT.nil _ _, hb⟩
            · go_wp2_with fail
              refine (refGet_ok _ l A 2 wr (HB.out _ hb) hl (by omega) (by decide) (by decide) (standB_true (by omega) (by decide) (by omega))).mono ?_
              rintro e w' ⟨rfl, rfl⟩
              go_wp2_with fail
              refine (refGet_ok _ l (A + 2) 2 wr (HB.out _ hb) hl (by omega) (by decide) (by decide) (standB_true (by omega) (by decide) (by omega))).mono ?_
              rintro e w' ⟨rfl, rfl⟩
              rw [show ((A : Int) + 2).toNat = A + 2 by omega, show Int.toNat 2 = 2 from rfl]
              have HT := num_at_lt l A 2 (by decide)
              have HN := num_at_lt l (A + 2) 2 (by decide)
              have HE1 := hid (@getF_long l m A acc hlt h4)
              have HE2 := hid (@getF_odd l m A acc hlt h4)
              have HE3 := hid (@getF_more l m A acc hlt h4)
              generalize hn : numAt l (A + 2) 2 = n at *
              generalize ht : numAt l A 2 = t at *
              by_cases h5 : l.length < A + 4 + n
              · have HE := hid (hG.out.trans (HE1.out h5))
                clear hG HE1 HE2 HE3
                go_wp2_with fail
                go_ret2
                exact ⟨_, by rw [HE.out]; rfl, by rw [HE.out]; exact OwnT.nil _ _, hb⟩
              · by_cases h6 : n % 2 = 0
                · have HE := hid (hG.out.trans (HE3.out h5 h6))
                  clear hG HE1 HE2 HE3
                  have hBr := HB.out _ hb
                  obtain ⟨q', c', hv, -, -, hat⟩ := hBr
                  cases hv
                  obtain ⟨b, off, rfl, hlb, hcell⟩ := hat.pos (by omega)
                  have hstr := (Bytes.cut (w := wr) (A + 4) n (cap - (A + 4)) hlb hcell (by omega) HC.out HX.out rfl).str
                  have hcc := HC.out
                  have hmx := HX.out
                  unfold maxLen at hmx
                  clear hcell hat hn ht
                  generalize hs : (l.drop (A + 4)).take n = s at *
                  have hO1 := hown.below (bnew wr (Obj.cells #[.int .i64 (t : Int), sv s] 32))
                  have hL1 := tlvs_lit wr ((t : Int), s)
                  have hB1 := bnext hb (bnew wr (Obj.cells #[.int .i64 (t : Int), sv s] 32))
                  by_cases hcz : cap = A + 4
                  · obtain rfl : n = 0 := by omega
                    subst hcz
                    obtain rfl : s = [] := by rw [← hs, List.take_zero]
                    clear hstr
                    have hS := (show Bytes wr (.slice (some ⟨b, off, none⟩) 0 0) [] from ⟨_, 0, rfl, Nat.le_refl _, Nat.zero_le _, .inl rfl⟩).str
                    go_wp2_with (at_builtin; refine wpList_append_tlvs (o := ⟨some 67, _, _, _, _, _⟩) rfl _ _ rfl rfl w.heap.size _ _ acc [((t : Int), ([] : List UInt8))] rfl rfl hO1 hL1 ?_ hB1.size ?_; (simp; omega); intro v' w' hown' hbel'; replace hB1 := hB1.trans hbel')
                    go_roundw
                    case rel => exact ⟨A + 4 + 0, acc ++ [((t : Int), ([] : List UInt8))], by omega, by go_num, by simp; omega, hown', hB1, hid (by rw [HE.out, List.length_append, List.length_singleton, show 8 - (acc.length + 1) = m by omega])⟩
                    case measure => simp [intOf]; omega
                  · have hcz2 : A + 4 < cap := by omega
                    go_wp2_with (at_builtin; refine wpList_append_tlvs (o := ⟨some 67, _, _, _, _, _⟩) rfl _ _ rfl rfl w.heap.size _ _ acc [((t : Int), s)] rfl rfl hO1 hL1 ?_ hB1.size ?_; (simp; omega); intro v' w' hown' hbel'; replace hB1 := hB1.trans hbel')
                    go_roundw
                    case rel => exact ⟨A + 4 + n, acc ++ [((t : Int), s)], by omega, by go_num, by simp; omega, hown', hB1, hid (by rw [HE.out, List.length_append, List.length_singleton, show 8 - (acc.length + 1) = m by omega])⟩
                    case measure => simp [intOf]; omega
                · have HE := hid (hG.out.trans (HE2.out h5 h6))
                  clear hG HE1 HE2 HE3
                  go_wp2_with fail
                  go_ret2
                  exact ⟨_, by rw [HE.out]; rfl, by rw [HE.out]; exact OwnT.nil _ _, hb⟩
        · have HE := hid (hG.out.trans (getF_end (by omega)))
          clear hG
          go_wp2_with fail
          go_ret2
          exact ⟨_, by rw [HE.out]; rfl, by rw [HE.out]; exact hown, hb⟩
    · have HF : Hid (getT l at' = ([], 1)) := hid (by unfold getT; rw [if_neg (by omega)])
      generalize getT l at' = F at *
      go_enter Try.func23, Try.ntmps23
      go_wp2_with fail
      go_ret2
      exact ⟨_, by rw [HF.out]; rfl, by rw [HF.out]; exact OwnT.nil _ _, Below.refl _ _⟩
  · have HF : Hid (getT l at' = ([], 1)) := hid (by unfold getT; rw [if_neg (by omega)])
    generalize getT l at' = F at *
    go_enter Try.func23, Try.ntmps23
    go_wp2_with fail
    go_ret2
    exact ⟨_, by rw [HF.out]; rfl, by rw [HF.out]; exact OwnT.nil _ _, Below.refl _ _⟩
end Go.Proofs.Ytdhdlpoopehmlaa
