/- The program's own Put of chapter 9: one scope, 'goto refused' from each step that fails. -/
import Derived.Test.YtohgpnlihfcecaaFramePut
import Derived.Test.YtohgpnlihfcecaaHeadPut
import Derived.Test.YtohgpnlihfcecaaBodyPut2
import Derived.Test.YtohgpnlihfcecaaTlvOwn6
import Derived.Test.YtohgpnlihfcecaaB1
namespace Go.Proofs.Ytohgpnlihfcecaa
open Go.RowKit Go.Proofs
set_option maxRecDepth 50000
set_option linter.unusedVariables false
set_option linter.unusedSimpArgs false

/-- As many bytes as there may be. -/
theorem putT_le (l : List T2) : (putT l).1.length ≤ 3232 := by
  unfold putT
  split
  · rename_i h
    obtain ⟨h8, hall⟩ := h
    have : ∀ (l : List T2), l.all checkT = true → (flatT l).length ≤ 404 * l.length := by
      intro l
      induction l with
      | nil => intro _; simp [flatT]
      | cons q l ih =>
        intro h
        simp only [List.all_cons, Bool.and_eq_true] at h
        have h1 := ih h.2
        obtain ⟨c, s⟩ := q
        obtain ⟨h2, h3, h4, h5⟩ := check_yes h.1
        have h6 : (putS c 2).length = 2 := putS_length _ 2 (by decide) (by decide)
        have h7 : (putS s.length 2).length = 2 := putS_length _ 2 (by decide) (by decide)
        simp only [flatT, List.flatMap_cons, List.length_append, tlvS, List.length_cons] at h1 ⊢
        omega
    have := this l hall
    show (flatT l).length ≤ _
    omega
  · simp

set_option maxRecDepth 100000 in
set_option maxHeartbeats 4000000 in
theorem framePut_any (h : Hd) (d : Bd) (v : Value) (l : List T2) (w : World) (hok : MsgOk h d) (hT : Tlvs w v l) (hl : l.length ≤ 140737488355328) (hz : ∀ q ∈ l, q.2.length ≤ 140737488355328) :
    Calls Try.prog 11 #[.agg (msgF h d).toArray, v] w fun e w' => e = .returned (.tuple #[sv (frameP h d l).1, .bool (frameP h d l).2]) ∧ Below w.heap.size w w' := by
  obtain ⟨⟨hsc, hsc2, -⟩, ⟨htc, htc2⟩, ⟨hgr, hgr2⟩, -⟩ := hok
  have HP := hid fun (wx : World) (h : Below w.heap.size w wx) (p : Option Addr) (b : List UInt8) (cap : Nat) (hB : Bytes wx (.slice p b.length cap) b) (hb : b.length ≤ 140737488351232) => putT_any p b cap v l wx hB hb (hT.below h) hl hz
  obtain ⟨p, cap, rfl, -, -, -⟩ := hT
  have HS := hid (show frameS h d l = (headS h (frameN h l) ++ bodyS h.ty d) ++ (putT l).1 from rfl)
  have HN := hid (show frameN h l = 34 + lenI h.ty + ((putT l).1.length : Int) from rfl)
  have HB := hid (show frameB h d l = ((putT l).2 && (checkM h d && decide (frameN h l ≤ 400))) from rfl)
  have HNo := hid (@frameP_no h d l)
  have HYes := hid (@frameP_yes h d l)
  have hshort : (putT l).1.length ≤ 3232 := putT_le l
  have HSH := hid hshort
  clear hz hl hshort
  generalize frameP h d l = FP at *
  generalize frameB h d l = FB at *
  generalize hFN : frameN h l = FN at *
  generalize frameS h d l = FSS at *
  generalize putT l = F at *
  obtain ⟨FS, PB⟩ := F
  clear hFN
  have hlen := lenI_in h.ty
  obtain ⟨hlen0, hlen1⟩ := hlen
  go_enter Try.func11, Try.ntmps11
  go_wp2_with fail
  obtain ⟨W, hWe, hb, hM⟩ := box_msg w (msgF h d)
  rw [← hWe]
  clear hWe
  refine wp_scope_hop ?_
  intro Q' hret hgo
  go_wp2_with (guard_target =~ wpList _ _ _ (⟨some 10, _, _, _, _, _⟩ :: _) _ _; refine wpList_load_msg (op := ⟨some 10, .load _ _, _, _, _, _⟩) (by rfl) _ (by rfl) w.heap.size (by rfl) (msgF h d) _ hM (msgF_length _ _) ?_)
  cases hm : checkM h d with
  | false =>
    have hF := HNo.out (by rw [HB.out, hm, Bool.false_and, Bool.and_false])
    subst hF
    refine (bodyPut_no (.slice none 0 0) [] h d W (Bytes.nil _) (by decide) hm).mono ?_
    rintro e w2 ⟨v2, rfl, o2, b2⟩
    replace hb := bnext hb b2
    clear o2 hM
    go_wp2_with fail
    go_step3
    refine hgo 0 _ _ _ rfl ?_
    go_wp2_with fail
    rw [Exit.noGoto_ret]
    go_ret2
    exact ⟨rfl, hb⟩
  | true =>
    obtain ⟨hcB, hk⟩ := checkM_head hm
    refine (bodyPut_yes (.slice none 0 0) [] h d W (Bytes.nil _) (by decide) hgr htc hm).mono ?_
    rintro e w2 ⟨v2, rfl, o2, b2⟩
    replace hb := bnext hb b2
    replace hM := hM.below b2
    rw [List.nil_append] at o2
    have hbl := bodyS_length h.ty d
    have HSo := HS.out
    generalize bodyS h.ty d = BS at *
    have hBl : BS.length ≤ 40 := by omega
    obtain ⟨p2, c2, rfl, -, -, -⟩ := id o2.bytes
    have hbl2 : (BS.length : Int) = lenI h.ty := hbl
    have HBL := hid hbl2
    have HSo2 := hid HSo
    clear hbl hbl2 HS HSo
    go_wp2_with fail
    refine (HP.out w2 hb p2 BS c2 o2.bytes (by omega)).mono ?_
    rintro e w3 ⟨v3, rfl, o3, b3⟩
    replace hb := bnext hb b3
    replace hM := hM.below b3
    clear o2
    cases PB with
    | false =>
      have hF := HNo.out (by rw [HB.out]; rfl)
      subst hF
      clear o3 hM
      go_wp2_with fail
      go_step3
      refine hgo 0 _ _ _ rfl ?_
      go_wp2_with fail
      rw [Exit.noGoto_ret]
      go_ret2
      exact ⟨rfl, hb⟩
    | true =>
      have hRl0 : (BS ++ FS).length = BS.length + FS.length := List.length_append
      have hcat0 : FSS = (headS h FN ++ BS) ++ FS := HSo2.out
      rw [List.append_assoc] at hcat0
      generalize BS ++ FS = R at *
      have hsh : FS.length ≤ 3232 := HSH.out
      have hRl : R.length ≤ 3300 := by omega
      have hNe : FN = 34 + (R.length : Int) := by have h1 : FN = 34 + lenI h.ty + (FS.length : Int) := HN.out; have h2 := HBL.out; omega
      have HNe := hid hNe
      have HC0 := hid hcat0
      obtain ⟨p3, c3, rfl, -, -, -⟩ := id o3.bytes
      have O3 := hid fun (wx : World) (h : Below w3.heap.size w3 wx) => (o3.bytes).below h
      clear hNe hcat0 hRl0 hsh o3 hBl
      go_wp2_with (guard_target =~ wpList _ _ _ (⟨some 25, _, _, _, _, _⟩ :: _) _ _; refine wpList_load_msg (op := ⟨some 25, .load _ _, _, _, _, _⟩) (by rfl) _ (by rfl) w.heap.size (by rfl) (msgF h d) _ hM (msgF_length _ _) ?_)
      rw [← HNe.out]
      by_cases hn : FN ≤ 400
      · have hF := HYes.out (by rw [HB.out, hm, decide_eq_true hn]; rfl)
        subst hF
        have hp : putB h FN = true := by
          unfold putB inB
          rw [hcB, Bool.true_and, decide_eq_true_eq]
          have := HNe.out
          omega
        clear hn
        refine (headPut_yes h (bdL d) FN w3 rfl hsc hp).mono ?_
        rintro e w4 ⟨v4, rfl, o4, b4⟩
        replace hb := bnext hb b4
        have o3 := O3.out _ b4
        have hhl := headS_length h FN
        generalize headS h FN = HS' at *
        have hcat := cat_bytes HS' R
        have hst3 := o3.str
        have hst4 := o4.bytes.str
        obtain ⟨p4, c4, rfl, -, -, -⟩ := id o4.bytes
        have hs1 : ¬ 9223372036854775807 < HS'.length + R.length := by omega
        clear hhl hM
        go_wp2_with fail
        refine hret _ _ ?_
        go_ret2
        exact ⟨by rw [HC0.out]; rfl, hb⟩
      · have hF := HNo.out (by rw [HB.out, hm, decide_eq_false hn]; rfl)
        subst hF
        have hp : putB h FN = false := by
          unfold putB inB
          rw [hcB, Bool.true_and, decide_eq_false_iff_not]
          omega
        clear hn
        refine (headPut_no h (bdL d) FN w3 rfl hp).mono ?_
        rintro e w4 ⟨rfl, b4⟩
        replace hb := bnext hb b4
        clear hM
        go_wp2_with fail
        go_step3
        refine hgo 0 _ _ _ rfl ?_
        go_wp2_with fail
        rw [Exit.noGoto_ret]
        go_ret2
        exact ⟨rfl, hb⟩
end Go.Proofs.Ytohgpnlihfcecaa
