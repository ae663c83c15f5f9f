/- The document's own Put of chapter 9 (gen_frameput.py). -/
import Derived.Test.YtohgpnlihfcecaaBodyRefPut
import Derived.Test.YtohgpnlihfcecaaBodyRef
import Derived.Test.YtohgpnlihfcecaaBodyPut2
import Derived.Test.YtohgpnlihfcecaaBodySay
import Derived.Test.YtohgpnlihfcecaaHeadRefPut
import Derived.Test.YtohgpnlihfcecaaTlvRef9
import Derived.Test.YtohgpnlihfcecaaTlvOwn6
import Derived.Test.YtohgpnlihfcecaaOpenM2
namespace Go.Proofs.Ytohgpnlihfcecaa
open Go.RowKit Go.Proofs
set_option maxRecDepth 50000
set_option linter.unusedVariables false
set_option linter.unusedSimpArgs false

/-- How many bytes a message has with its TLVs. -/
def frameN (h : Hd) (l : List T2) : Int := 34 + lenI h.ty + ((putT l).1.length : Int)

/-- A message's bytes. -/
def frameS (h : Hd) (d : Bd) (l : List T2) : List UInt8 := (headS h (frameN h l) ++ bodyS h.ty d) ++ (putT l).1

/-- Whether it may be. -/
def frameB (h : Hd) (d : Bd) (l : List T2) : Bool := (putT l).2 && (checkM h d && decide (frameN h l ≤ 400))

def frameP (h : Hd) (d : Bd) (l : List T2) : List UInt8 × Bool := if frameB h d l = true then (frameS h d l, true) else ([], false)

theorem frameP_no {h : Hd} {d : Bd} {l : List T2} (hh : frameB h d l = false) : frameP h d l = ([], false) := by unfold frameP; rw [hh]; rfl
theorem frameP_yes {h : Hd} {d : Bd} {l : List T2} (hh : frameB h d l = true) : frameP h d l = (frameS h d l, true) := if_pos hh

set_option maxRecDepth 100000 in
set_option maxHeartbeats 4000000 in
theorem refFramePut_any (h : Hd) (d : Bd) (v : Value) (l : List T2) (w : World) (hok : MsgOk h d) (hT : Tlvs w v l) (hl : l.length ≤ 140737488355328) (hz : ∀ q ∈ l, q.2.length ≤ 140737488355328) :
    Calls Try.prog 13 #[.agg (msgF h d).toArray, v] w fun e w' => e = .returned (.tuple #[sv (frameP h d l).1, .bool (frameP h d l).2]) ∧ Below w.heap.size w w' := by
  obtain ⟨⟨hsc, hsc2, -⟩, ⟨htc, htc2⟩, ⟨hgr, hgr2⟩, -⟩ := hok
  have HT := hid fun (wx : World) (h : Below w.heap.size w wx) => hT.below h
  have HP := hid fun (wx : World) (h : Below w.heap.size w wx) => refPutT_any v l wx (hT.below h) hl hz
  obtain ⟨p, cap, rfl, -, -, -⟩ := hT
  have PT := hid (@putT_true l)
  have HS := hid (show frameS h d l = (headS h (frameN h l) ++ bodyS h.ty d) ++ (putT l).1 from rfl)
  have HN := hid (show frameN h l = 34 + lenI h.ty + ((putT l).1.length : Int) from rfl)
  have HB := hid (show frameB h d l = ((putT l).2 && (checkM h d && decide (frameN h l ≤ 400))) from rfl)
  have HNo := hid (@frameP_no h d l)
  have HYes := hid (@frameP_yes h d l)
  have hshort : (putT l).2 = true → (putT l).1.length ≤ 3232 := fun hh => by
    obtain ⟨h8, hA, hf⟩ := putT_true hh
    rw [hf]
    have hall : ∀ (l : List T2), (∀ j (hj : j < l.length), checkT l[j] = true) → (flatT l).length ≤ 404 * l.length := by
      intro l
      induction l with
      | nil => intro _; simp [flatT]
      | cons q l ih =>
        intro h
        have h1 := ih (fun j hj => h (j + 1) (by simpa using hj))
        obtain ⟨c, s⟩ := q
        obtain ⟨h2, h3, h4, h5⟩ := check_yes (h 0 (by simp))
        have h6 : (putS c 2).length = 2 := putS_length _ 2 (by decide) (by decide)
        have h7 : (putS s.length 2).length = 2 := putS_length _ 2 (by decide) (by decide)
        simp only [flatT, List.flatMap_cons, List.length_append, tlvS, List.length_cons] at h1 ⊢
        have h8 : s.length ≤ 400 := h5
        omega
    have := hall l hA
    omega
  have HSH := hid hshort
  clear hz hl hshort
  generalize frameP h d l = FP at *
  generalize frameB h d l = FB at *
  generalize hFN : frameN h l = FN at *
  generalize frameS h d l = FSS at *
  generalize putT l = F at *
  obtain ⟨FS, PB⟩ := F
  clear hFN
  have hlen := lenI_in h.ty
  obtain ⟨hlen0, hlen1⟩ := hlen
  go_enter Try.func13, Try.ntmps13
  go_upto_region 1 with fail
  obtain ⟨W, hWe, hb, hM⟩ := box_msg w (msgF h d)
  rw [← hWe]
  clear hWe
  go_wp2_with fail
  refine (HP.out W hb).mono ?_
  rintro e w2 ⟨v2, rfl, o2, b2⟩
  replace hb := bnext hb b2
  replace hM := hM.below b2
  cases PB with
  | false =>
    have hF := HNo.out (by rw [HB.out]; rfl)
    subst hF
    go_wp2_with fail
    go_ret2
    exact ⟨rfl, hb⟩
  | true =>
    have hsh : FS.length ≤ 3232 := HSH.out rfl
    have HSH2 := hid hsh
    obtain ⟨p2, c2, rfl, -, -, -⟩ := id o2.bytes
    clear hsh
    go_wp2_with (guard_target =~ wpList _ _ _ (⟨some 18, _, _, _, _, _⟩ :: _) _ _; refine wpList_load_msg_g (op := ⟨some 18, .load _ _, _, _, _, _⟩) (by rfl) _ (by rfl) w.heap.size (by rfl) (msgF h d) _ hM (msgF_length _ _) ?_)
    refine (refCheckM_any h d w2).mono ?_
    rintro e w3 ⟨rfl, b3⟩
    replace hb := bnext hb b3
    replace hM := hM.below b3
    replace o2 := o2.below b3
    cases hm : checkM h d with
    | false =>
      have hF := HNo.out (by rw [HB.out, hm]; rfl)
      subst hF
      go_wp2_with fail
      go_ret2
      exact ⟨rfl, hb⟩
    | true =>
      obtain ⟨hcB, hk⟩ := checkM_head hm
      have c0 := hM.cell 0 _ rfl
      have hsh := HSH2.out
      go_wp2_with fail
      refine (refLen_any h.ty w3).mono ?_
      rintro e w' ⟨rfl, rfl⟩
      by_cases hn : FN ≤ 400
      · have hF := HYes.out (by rw [HB.out, hm, decide_eq_true hn]; rfl)
        subst hF
        have hNe : FN = 34 + lenI h.ty + (FS.length : Int) := HN.out
        have hp : putB h FN = true := by
          unfold putB inB
          rw [hcB, Bool.true_and, decide_eq_true_eq]
          omega
        have hNI : ¬ 400 < 34 + lenI h.ty + (FS.length : Int) := by omega
        have hbl := bodyS_length h.ty d
        have hhl := headS_length h FN
        have hbl2 : (bodyS h.ty d).length ≤ 40 := by omega
        have HNe := hid hNe
        clear hNe hn hbl
        go_wp2_with (guard_target =~ wpList _ _ _ (⟨some 31, _, _, _, _, _⟩ :: _) _ _; refine wpList_load_msg (op := ⟨some 31, .load _ _, _, _, _, _⟩) (by rfl) _ (by rfl) w.heap.size (by rfl) (msgF h d) _ hM (msgF_length _ _) ?_)
        rw [← HNe.out]
        refine (refHeadPut_yes h (bdL d) FN w3 rfl hsc hsc2 hp).mono ?_
        rintro e w6 ⟨v6, rfl, o6, b6⟩
        replace hb := bnext hb b6
        replace hM := hM.below b6
        replace o2 := o2.below b6
        have HFS := HS.out
        generalize headS h FN = HS' at *
        obtain ⟨HB', hHB⟩ : ∃ x, HS' ++ bodyS h.ty d = x := ⟨_, rfl⟩
        have hcat1 := cat_bytes HS' (bodyS h.ty d)
        have hcat2 := cat_bytes HB' FS
        have hHBl : HB'.length = HS'.length + (bodyS h.ty d).length := by rw [← hHB, List.length_append]
        have hs1 : ¬ 9223372036854775807 < HS'.length + (bodyS h.ty d).length := by omega
        have hs2 : ¬ 9223372036854775807 < HB'.length + FS.length := by omega
        rw [hHB] at hcat1 HFS
        have HFS2 := hid HFS
        clear hHB hHBl HFS c0 hNI hhl hbl2 hsh
        go_upto_region 8 with fail
        refine wp_region_held_drew (S := fun w' => Below w6.drew.heap.size w6.drew w') (by kernel_rfl) (Below.refl _ _) ?_
        intro hHeld
        have hbW := Below.drew (Below.refl w6.heap.size w6)
        generalize w6.drew = wd at *
        have hst9 := (o6.bytes.below hbW).strs
        have hst6 := (o2.bytes.below hbW).strs
        refine rtake 0 rfl (by rfl) (by kernel_rfl) (by kernel_rfl) (by kernel_rfl) (fun _ _ _ h => h) hHeld (fun wx hwx => by go_simp; try with_reducible rfl) ?_
        try simp only [Act.put, List.setIfInBounds_toArray, List.set_cons_zero, List.set_cons_succ]
        refine rtake 1 rfl (by rfl) (by kernel_rfl) (by kernel_rfl) (by kernel_rfl) (fun _ _ _ h => h) hHeld (fun wx hwx => by go_simp; try with_reducible rfl) ?_
        try simp only [Act.put, List.setIfInBounds_toArray, List.set_cons_zero, List.set_cons_succ]
        refine rtake 2 rfl (by rfl) (by kernel_rfl) (by kernel_rfl) (by kernel_rfl) (fun _ _ _ h => h) hHeld (fun wx hwx => exec_load_msg _ rfl w.heap.size rfl (msgF h d) _ (hM.below (bnext hbW hwx)) (msgF_length _ _)) ?_
        try simp only [Act.put, List.setIfInBounds_toArray, List.set_cons_zero, List.set_cons_succ]
        refine rtake 6 rfl (by rfl) (by kernel_rfl) (by kernel_rfl) (by kernel_rfl) (fun _ _ _ h => h) hHeld (fun wx hwx => by go_simp; try with_reducible rfl) ?_
        try simp only [Act.put, List.setIfInBounds_toArray, List.set_cons_zero, List.set_cons_succ]
        refine rtake 7 rfl (by rfl) (by kernel_rfl) (by kernel_rfl) (by kernel_rfl) (fun _ _ _ h => h) hHeld (fun wx hwx => by go_simp; try with_reducible rfl) ?_
        try simp only [Act.put, List.setIfInBounds_toArray, List.set_cons_zero, List.set_cons_succ]
        -- CALL 3: some 37 := Op.call { callee := Callee.value (Operand.func 27), args := #[Operand.tmp 36], argTypes := #[28] }
        refine rcall 3 rfl (by kernel_rfl) (by rfl) (fun K hK => ?_)
        go_simp
        refine (refBodyPut_any h d _ hk hgr hgr2 htc htc2).mono ?_
        rintro e wx3 ⟨x3, rfl, own3, hbel⟩
        have hst3 := own3.bytes.strs
        refine hK.out _ _ hbel ?_
        clear hK K
        refine wpAnyH_mono (S' := fun w' => Below wx3.heap.size wx3 w') (fun w' h => bnext hbel h) _ _ _ _ ?_
        have hH := Below.refl wx3.heap.size wx3
        have hW := bnext hbW hbel
        clear hbel hbW hHeld
        have hHeld := hH
        have hbW := hW
        clear hH hW
        have hsz3 := hbW.size
        try simp only [Act.put, List.setIfInBounds_toArray, List.set_cons_zero, List.set_cons_succ]
        refine rtake 4 rfl (by rfl) (by kernel_rfl) (by kernel_rfl) (by kernel_rfl) (fun _ _ _ h => h) hHeld (fun wx hwx => by go_simp; try with_reducible rfl) ?_
        try simp only [Act.put, List.setIfInBounds_toArray, List.set_cons_zero, List.set_cons_succ]
        refine rtake 5 rfl (by rfl) (by kernel_rfl) (by kernel_rfl) (by kernel_rfl) (fun _ _ _ h => h) hHeld (fun wx hwx => by go_simp; try with_reducible rfl) ?_
        try simp only [Act.put, List.setIfInBounds_toArray, List.set_cons_zero, List.set_cons_succ]
        refine rtake 8 rfl (by rfl) (by kernel_rfl) (by kernel_rfl) (by kernel_rfl) (fun _ _ _ h => h) hHeld (fun wx hwx => by go_simp; try with_reducible rfl) ?_
        try simp only [Act.put, List.setIfInBounds_toArray, List.set_cons_zero, List.set_cons_succ]
        refine rtake 9 rfl (by rfl) (by kernel_rfl) (by kernel_rfl) (by kernel_rfl) (fun _ _ _ h => h) hHeld (fun wx hwx => by go_simp; try with_reducible rfl) ?_
        try simp only [Act.put, List.setIfInBounds_toArray, List.set_cons_zero, List.set_cons_succ]
        refine rtake 10 rfl (by rfl) (by kernel_rfl) (by kernel_rfl) (by kernel_rfl) (fun _ _ _ h => h) hHeld (fun wx hwx => by go_simp; try with_reducible rfl) ?_
        try simp only [Act.put, List.setIfInBounds_toArray, List.set_cons_zero, List.set_cons_succ]
        refine wpAnyH_done (by kernel_rfl) ?_ _
        go_wp2_with fail
        go_ret2
        exact ⟨by rw [HFS2.out]; rfl, bnext hb hbW⟩
      · have hF := HNo.out (by rw [HB.out, hm, decide_eq_false hn]; rfl)
        subst hF
        have hNI : 400 < 34 + lenI h.ty + (FS.length : Int) := by have := HN.out; omega
        clear hn
        go_wp2_with fail
        go_ret2
        exact ⟨rfl, hb⟩
end Go.Proofs.Ytohgpnlihfcecaa
