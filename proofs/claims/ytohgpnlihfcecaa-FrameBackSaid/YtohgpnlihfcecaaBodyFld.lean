/- A field that its type has not makes a message none. -/
import Derived.Test.YtohgpnlihfcecaaBodyChk
namespace Go.Proofs.Ytohgpnlihfcecaa
open Go.RowKit Go.Proofs
set_option maxRecDepth 50000
set_option linter.unusedVariables false
set_option linter.unusedSimpArgs false

theorem checkM_iff {h : Hd} {d : Bd} : checkM h d = true ↔ checkB h = true ∧ d = ofB h.ty d ∧ mayB d.st = true ∧ mayP d.tp = true ∧ inB d.ut (-32768) 32767 = true ∧ inB d.p1 0 255 = true ∧ mayQ d.qc d.qa d.qv = true ∧ inB d.p2 0 255 = true ∧
    inB d.sr 0 65535 = true ∧ inB d.og 0 255 = true ∧ inB d.sh 0 255 = true ∧ inB d.hp 0 255 = true ∧ inB d.ac 0 15 = true := by
  unfold checkM
  simp only [Bool.and_eq_true, sameM_iff, true_and]

theorem field_st {h : Hd} {d : Bd} (hm : checkM h d = true) : checkM h { d with st := 5 } = stB h.ty := by
  obtain ⟨c, e, r1, r2, r3, r4, r5, r6, r7, r8, r9, r10, r11⟩ := checkM_iff.1 hm
  rw [Bool.eq_iff_iff, checkM_iff]
  constructor
  · rintro ⟨-, e2, -⟩
    have := congrArg Bd.st e2
    simp only [ofB] at this
    cases hs : stB h.ty
    · rw [hs] at this
      exact absurd this (by decide)
    · rfl
  · intro hs
    refine ⟨c, ?_, (show mayB 5 = true by decide), r2, r3, r4, r5, r6, r7, r8, r9, r10, r11⟩
    obtain ⟨a0, a1, a2, a3, a4, a5, a6, a7, a8, a9, a10, a11, a12, a13, a14⟩ := d
    simp only [ofB, Bd.mk.injEq, hs, if_true, true_and] at e ⊢
    exact e

theorem field_tp {h : Hd} {d : Bd} (hm : checkM h d = true) : checkM h { d with tp := 9 } = tgB h.ty := by
  obtain ⟨c, e, r1, r2, r3, r4, r5, r6, r7, r8, r9, r10, r11⟩ := checkM_iff.1 hm
  rw [Bool.eq_iff_iff, checkM_iff]
  constructor
  · rintro ⟨-, e2, -⟩
    have := congrArg Bd.tp e2
    simp only [ofB] at this
    cases hs : tgB h.ty
    · rw [hs] at this
      exact absurd this (by decide)
    · rfl
  · intro hs
    refine ⟨c, ?_, r1, (show mayP 9 = true by decide), r3, r4, r5, r6, r7, r8, r9, r10, r11⟩
    obtain ⟨a0, a1, a2, a3, a4, a5, a6, a7, a8, a9, a10, a11, a12, a13, a14⟩ := d
    simp only [ofB, Bd.mk.injEq, hs, if_true, true_and] at e ⊢
    exact e

theorem field_sr {h : Hd} {d : Bd} (hm : checkM h d = true) : checkM h { d with sr := 3 } = (h.ty == 11) := by
  obtain ⟨c, e, r1, r2, r3, r4, r5, r6, r7, r8, r9, r10, r11⟩ := checkM_iff.1 hm
  rw [Bool.eq_iff_iff, checkM_iff, beq_iff_eq]
  constructor
  · rintro ⟨-, e2, -⟩
    have := congrArg Bd.sr e2
    simp only [ofB] at this
    by_cases hs : h.ty = 11
    · exact hs
    · rw [if_neg hs] at this
      exact absurd this (by decide)
  · intro hs
    refine ⟨c, ?_, r1, r2, r3, r4, r5, r6, (show inB 3 0 65535 = true by decide), r8, r9, r10, r11⟩
    obtain ⟨a0, a1, a2, a3, a4, a5, a6, a7, a8, a9, a10, a11, a12, a13, a14⟩ := d
    simp only [ofB, Bd.mk.injEq, hs, if_true, true_and] at e ⊢
    exact e

theorem field_hp {h : Hd} {d : Bd} (hm : checkM h d = true) : checkM h { d with hp := 2 } = (h.ty == 13) := by
  obtain ⟨c, e, r1, r2, r3, r4, r5, r6, r7, r8, r9, r10, r11⟩ := checkM_iff.1 hm
  rw [Bool.eq_iff_iff, checkM_iff, beq_iff_eq]
  constructor
  · rintro ⟨-, e2, -⟩
    have := congrArg Bd.hp e2
    simp only [ofB] at this
    by_cases hs : h.ty = 13
    · exact hs
    · rw [if_neg hs] at this
      exact absurd this (by decide)
  · intro hs
    refine ⟨c, ?_, r1, r2, r3, r4, r5, r6, r7, r8, r9, (show inB 2 0 255 = true by decide), r11⟩
    obtain ⟨a0, a1, a2, a3, a4, a5, a6, a7, a8, a9, a10, a11, a12, a13, a14⟩ := d
    simp only [ofB, Bd.mk.injEq, hs, if_true, true_and] at e ⊢
    exact e

theorem st_known {t : Int} (hk : knownB t = true) : stB t = ((t != 12) && (t != 13)) := by
  rcases known_or hk with rfl | rfl | rfl | rfl | rfl | rfl | rfl | rfl | rfl | rfl <;> rfl
theorem tg_known {t : Int} (hk : knownB t = true) : tgB t = ((t == 9) || ((t == 3) || ((t == 10) || ((t == 12) || (t == 13))))) := by
  rcases known_or hk with rfl | rfl | rfl | rfl | rfl | rfl | rfl | rfl | rfl | rfl <;> rfl
end Go.Proofs.Ytohgpnlihfcecaa
