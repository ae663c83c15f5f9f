/- What a frame that is put says when it is got; cut, or longer, it is none. -/
import Derived.Test.YtohgpnlihfcecaaFrameRef
import Derived.Test.YtohgpnlihfcecaaFramePut
import Derived.Test.YtohgpnlihfcecaaBodySay
import Derived.Test.YtohgpnlihfcecaaHeadSay
import Derived.Test.YtohgpnlihfcecaaTlvSay
namespace Go.Proofs.Ytohgpnlihfcecaa
open Go.RowKit Go.Proofs
set_option maxRecDepth 50000
set_option linter.unusedVariables false
set_option linter.unusedSimpArgs false

/-- A body that is put is got. -/
theorem bodyD_back (b t : List UInt8) (h : Hd) (d : Bd) (hok : MsgOk h d) (hm : checkM h d = true) :
    bodyE h.ty (b ++ (bodyS h.ty d ++ t)) b.length = 0 ∧ bodyD bd0 h.ty (b ++ (bodyS h.ty d ++ t)) b.length = d := by
  obtain ⟨c, eB, r1, r2, r3, r4, r5, r6, r7, r8, r9, r10, r11⟩ := checkM_iff.1 hm
  obtain ⟨-, ⟨t1, t2⟩, ⟨g1, g2⟩, -⟩ := hok
  have hk := (check_of c).1
  have hlen := bodyS_length h.ty d
  have hE : ∀ X, (b ++ (bodyS h.ty d ++ t)) = X → (stB h.ty = true → getB X b.length = true) → bodyE h.ty X b.length = 0 := by
    intro X hX hg
    unfold bodyE
    rw [if_neg (by rw [← hX, List.length_append, List.length_append]; omega), if_neg]
    rintro ⟨h1, h2⟩
    rw [hg h1] at h2
    cases h2
  rcases kinds h.ty with ⟨h1, h2, h3, h4⟩ | ⟨h1, h2, h3, h4⟩ | ⟨h1, h2, h3, h4⟩ | h1 | ⟨h1, h2, h3, h4⟩ | h1
  · rcases known_or hk with h | h | h | h | h | h | h | h | h | h <;> rw [h] at h1 h2 h3 h4 <;> first | exact absurd h1 (by decide) | exact absurd h2 (by decide) | omega
  · have hs := h1
    have hg := h2
    obtain ⟨t', ht'⟩ : ∃ t', bodyS h.ty d ++ t = stampS d.st ++ t' := ⟨ownS h.ty d ++ t, by unfold bodyS; simp [hs, hg]⟩
    refine ⟨hE _ rfl fun _ => by rw [ht']; exact getB_stampS d.st b _ _ rfl, ?_⟩
    rw [ht']
    have v1 := getV_stampS d.st b (t') b.length rfl
    rw [stamp_val r1] at v1
    unfold bodyD
    rw [if_neg h3, if_neg h4, if_neg (by rw [h2]; simp), if_pos h1, v1]
    have e3 := eB
    unfold ofB at e3
    simp only [hs, hg, if_neg h3, if_neg h4, if_true, if_false, Bool.false_eq_true] at e3
    rw [e3]
    rfl
  · have hs := h1
    have hg := h2
    have h5 : h.ty ≠ 2 := by intro e; rw [e] at hg; exact absurd hg (by decide)
    have ht' : bodyS h.ty d ++ t = stampS d.st ++ (portS d.tc d.tp ++ (t)) := by unfold bodyS ownS; simp [hs, hg, h3, h4, h5]
    refine ⟨hE _ rfl fun _ => by rw [ht']; exact getB_stampS d.st b _ _ rfl, ?_⟩
    rw [ht']
    have v1 := getV_stampS d.st b (portS d.tc d.tp ++ t) b.length rfl
    rw [stamp_val r1] at v1
    obtain ⟨p1, p2⟩ := port_at d.tc d.tp (b ++ stampS d.st) (t) (b.length + 10) (by rw [List.length_append, stampS_length]) t1 t2 r2
    rw [List.append_assoc] at p1 p2
    unfold bodyD
    rw [if_neg h3, if_neg h4, if_pos ⟨h1, h2⟩, v1, p1, p2]
    have e3 := eB
    unfold ofB at e3
    simp only [hs, hg, if_neg h3, if_neg h4, if_true, if_false, Bool.false_eq_true] at e3
    rw [e3]
    rfl
  · have hs : stB h.ty = true := by rw [h1]; decide
    have hg : tgB h.ty = false := by rw [h1]; decide
    have h4 : h.ty ≠ 13 := by omega
    have h5 : h.ty ≠ 2 := by omega
    have ht' : bodyS h.ty d ++ t = stampS d.st ++ (annS d ++ (t)) := by unfold bodyS ownS; simp [hs, hg, h1, h5, show stB 11 = true by decide, show tgB 11 = false by decide]
    refine ⟨hE _ rfl fun _ => by rw [ht']; exact getB_stampS d.st b _ _ rfl, ?_⟩
    rw [ht']
    have v1 := getV_stampS d.st b (annS d ++ t) b.length rfl
    rw [stamp_val r1] at v1
    have g := ann_back d (b ++ stampS d.st) t (b.length + 10) (by rw [List.length_append, stampS_length]) g1 g2 r3 r4 r5 r6 r7 r8
    rw [List.append_assoc] at g
    unfold bodyD
    rw [if_pos h1, g, v1]
    have e3 := eB
    unfold ofB at e3
    simp only [hs, hg, h1, show (11 : Int) ≠ 13 by decide, if_true, if_false, Bool.false_eq_true, ne_eq, show ¬ (11 : Int) = 13 by decide] at e3
    rw [e3]
    rfl
  · have hs := h1
    have hg := h2
    have h5 : h.ty ≠ 2 := by intro e; rw [e] at hg; exact absurd hg (by decide)
    have ht' : bodyS h.ty d ++ t = portS d.tc d.tp ++ (t) := by unfold bodyS ownS; simp [hs, hg, h3, h4, h5]
    refine ⟨hE _ rfl fun hx => absurd hx (by rw [hs]; simp), ?_⟩
    rw [ht']
    obtain ⟨p1, p2⟩ := port_at d.tc d.tp (b) (t) (b.length) rfl t1 t2 r2
    unfold bodyD
    rw [if_neg h3, if_neg h4, if_neg (by rw [h1]; simp), if_neg (by rw [h1]; simp), p1, p2]
    have e3 := eB
    unfold ofB at e3
    simp only [hs, hg, if_neg h3, if_neg h4, if_true, if_false, Bool.false_eq_true] at e3
    rw [e3]
    rfl
  · have hs : stB h.ty = false := by rw [h1]; decide
    have hg : tgB h.ty = true := by rw [h1]; decide
    have h3 : h.ty ≠ 11 := by omega
    have h5 : h.ty ≠ 2 := by omega
    have ht' : bodyS h.ty d ++ t = portS d.tc d.tp ++ (manS d ++ (t)) := by unfold bodyS ownS; simp [hs, hg, h1, h5, show stB 13 = false by decide, show tgB 13 = true by decide]
    refine ⟨hE _ rfl fun hx => absurd hx (by rw [hs]; simp), ?_⟩
    rw [ht']
    obtain ⟨p1, p2⟩ := port_at d.tc d.tp (b) (manS d ++ t) (b.length) rfl t1 t2 r2
    have g := man_back d (b ++ portS d.tc d.tp) t (b.length + 10) (by rw [List.length_append, portS_length]) r9 r10 r11
    rw [List.append_assoc] at g
    unfold bodyD
    rw [if_neg h3, if_pos h1, p1, p2, g]
    have e3 := eB
    unfold ofB at e3
    simp only [hs, hg, h1, show (13 : Int) ≠ 11 by decide, if_true, if_false, Bool.false_eq_true, ne_eq, show ¬ (13 : Int) = 11 by decide] at e3
    rw [e3]
    rfl

theorem frameB_parts {h : Hd} {d : Bd} {l : List T2} (hh : frameB h d l = true) : ((putT l).2 = true) ∧ checkM h d = true ∧ frameN h l ≤ 400 ∧ putB h (frameN h l) = true ∧ ((frameS h d l).length : Int) = frameN h l := by
  unfold frameB at hh
  rw [Bool.and_eq_true, Bool.and_eq_true, decide_eq_true_eq] at hh
  obtain ⟨h1, h2, h3⟩ := hh
  have hlen := lenI_in h.ty
  have hbl := bodyS_length h.ty d
  have hhl := headS_length h (frameN h l)
  have hN : frameN h l = 34 + lenI h.ty + ((putT l).1.length : Int) := rfl
  refine ⟨h1, h2, h3, ?_, ?_⟩
  · unfold putB inB
    rw [(checkM_head h2).1, Bool.true_and, decide_eq_true_eq]
    omega
  · unfold frameS
    rw [List.length_append, List.length_append]
    omega

theorem frameS_eq (h : Hd) (d : Bd) (l : List T2) : frameS h d l = headS h (frameN h l) ++ (bodyS h.ty d ++ (putT l).1) := by unfold frameS; rw [List.append_assoc]

/-- What is put is got. -/
theorem frame_back {h : Hd} {d : Bd} {l : List T2} (hok : MsgOk h d) (hh : frameB h d l = true) :
    frameE (frameS h d l) = 0 ∧ frameH (frameS h d l) = h ∧ frameD (frameS h d l) = d ∧ frameT (frameS h d l) = l := by
  obtain ⟨h1, h2, h3, h4, h5⟩ := frameB_parts hh
  obtain ⟨h8, hA, hf⟩ := putT_true h1
  have hhl := headS_length h (frameN h l)
  have hbl := bodyS_length h.ty d
  have hlen := lenI_in h.ty
  rw [frameS_eq] at h5 ⊢
  obtain ⟨k, hk⟩ : ∃ k, (bodyS h.ty d ++ (putT l).1).length = k := ⟨_, rfl⟩
  obtain ⟨e1, -, e2⟩ := head_back h (frameN h l) k hok.1 h4 (by rw [List.length_append, hhl, hk] at h5; omega) (bodyS h.ty d ++ (putT l).1) hk
  have hb := bodyD_back (headS h (frameN h l)) (putT l).1 h d hok h2
  rw [hhl] at hb
  have hL : frameL (headS h (frameN h l) ++ (bodyS h.ty d ++ (putT l).1)) = (l, 0) := by
    unfold frameL
    rw [e2, hf, ← List.append_assoc]
    have hpl : ((headS h (frameN h l) ++ bodyS h.ty d).length : Int) = 34 + lenI h.ty := by rw [List.length_append, hhl]; omega
    rw [← hpl]
    exact getT_behind _ h8 hA
  have hE : frameE (headS h (frameN h l) ++ (bodyS h.ty d ++ (putT l).1)) = 0 := by
    rw [frameE_tlvs e1 (by rw [e2]; exact hb.1), hL]
  obtain ⟨q1, q2, q3⟩ := frame_yes hE
  exact ⟨hE, q1.trans e2, q2.trans (by rw [e2]; exact hb.2), q3.trans (by rw [hL])⟩

/-- A frame that is cut is none. -/
theorem frame_cut {h : Hd} {d : Bd} {l : List T2} (hok : MsgOk h d) (hh : frameB h d l = true) (k : Nat) (hk : k < (frameS h d l).length) : frameE ((frameS h d l).take k) = 2 := by
  obtain ⟨h1, h2, h3, h4, h5⟩ := frameB_parts hh
  have hhl := headS_length h (frameN h l)
  rw [frameS_eq] at h5 hk ⊢
  have hkl : ((headS h (frameN h l) ++ (bodyS h.ty d ++ (putT l).1)).take k).length = k := by rw [List.length_take]; omega
  by_cases h34 : k < 34
  · have e : getE ((headS h (frameN h l) ++ (bodyS h.ty d ++ (putT l).1)).take k) = 2 := by unfold getE; rw [if_pos (by rw [hkl]; exact h34)]
    rw [frameE_short (by rw [e]; decide), e]
  · have ht : (headS h (frameN h l) ++ (bodyS h.ty d ++ (putT l).1)).take k = headS h (frameN h l) ++ (bodyS h.ty d ++ (putT l).1).take (k - 34) := by
      rw [List.take_append, hhl, List.take_of_length_le (by rw [hhl]; omega)]
    obtain ⟨e1, e2, e3⟩ := head_got h (frameN h l) ((bodyS h.ty d ++ (putT l).1).take (k - 34)) hok.1 h4
    rw [← ht] at e1 e2 e3
    have e : getE ((headS h (frameN h l) ++ (bodyS h.ty d ++ (putT l).1)).take k) = 2 := getE_short (by rw [hkl]; exact h34) e3 (by rw [e2, hkl]; omega)
    rw [frameE_short (by rw [e]; decide), e]

/-- .. a longer one too. -/
theorem frame_long {h : Hd} {d : Bd} {l : List T2} (hok : MsgOk h d) (hh : frameB h d l = true) (m : List UInt8) (hm : 0 < m.length) : frameE (frameS h d l ++ m) = 3 := by
  obtain ⟨h1, h2, h3, h4, h5⟩ := frameB_parts hh
  have hhl := headS_length h (frameN h l)
  rw [frameS_eq] at h5 ⊢
  rw [List.append_assoc]
  obtain ⟨e1, e2, e3⟩ := head_got h (frameN h l) ((bodyS h.ty d ++ (putT l).1) ++ m) hok.1 h4
  have hL : (headS h (frameN h l) ++ ((bodyS h.ty d ++ (putT l).1) ++ m)).length = (headS h (frameN h l) ++ (bodyS h.ty d ++ (putT l).1)).length + m.length := by rw [← List.append_assoc, List.length_append]
  have hlen := lenI_in h.ty
  have hN : frameN h l = 34 + lenI h.ty + ((putT l).1.length : Int) := rfl
  have e : getE (headS h (frameN h l) ++ ((bodyS h.ty d ++ (putT l).1) ++ m)) = 3 := getE_long (by rw [hL]; omega) e3 (by rw [e2, hL]; omega)
  rw [frameE_short (by rw [e]; decide), e]

/-- Unlike messages, or unlike TLVs, have unlike frames. -/
theorem frame_apart {h h' : Hd} {d d' : Bd} {l l' : List T2} (hok : MsgOk h d) (hok' : MsgOk h' d') (hh : frameB h d l = true) (hh' : frameB h' d' l' = true) (e : frameS h d l = frameS h' d' l') : h = h' ∧ d = d' ∧ l = l' := by
  obtain ⟨-, a1, a2, a3⟩ := frame_back hok hh
  obtain ⟨-, b1, b2, b3⟩ := frame_back hok' hh'
  rw [e] at a1 a2 a3
  exact ⟨a1.symm.trans b1, a2.symm.trans b2, a3.symm.trans b3⟩
end Go.Proofs.Ytohgpnlihfcecaa
