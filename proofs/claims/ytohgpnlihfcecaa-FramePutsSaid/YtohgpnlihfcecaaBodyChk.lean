/- The document's own Check of chapter 7 (gen_body.py). -/
import Derived.Test.YtohgpnlihfcecaaBodyCheck
import Derived.Test.YtohgpnlihfcecaaB3
namespace Go.Proofs.Ytohgpnlihfcecaa
open Go.RowKit Go.Proofs
set_option maxRecDepth 50000
set_option linter.unusedVariables false
set_option linter.unusedSimpArgs false

theorem sameM_comm (h : Hd) (d : Bd) (h' : Hd) (d' : Bd) : sameM h d h' d' = sameM h' d' h d := by
  rw [Bool.eq_iff_iff, sameM_iff, sameM_iff]
  exact ⟨fun ⟨a, b⟩ => ⟨a.symm, b.symm⟩, fun ⟨a, b⟩ => ⟨a.symm, b.symm⟩⟩

theorem zeros : mayB 0 = true ∧ mayP 0 = true ∧ inB 0 (-32768) 32767 = true ∧ inB 0 0 255 = true ∧ mayQ 0 0 0 = true ∧ inB 0 0 65535 = true ∧ inB 0 0 15 = true := by decide

theorem checkM_S (h : Hd) (d : Bd) (hc : checkB h = true) (hs : stB h.ty = true) (hg : tgB h.ty = false) (h11 : h.ty ≠ 11) (h13 : h.ty ≠ 13) : checkM h d = (mayB d.st && (sameM h ⟨d.st, 0, 0, 0, 0, 0, 0, 0, 0, 0, 0, 0, 0, 0, 0⟩ h d)) := by
  have eB : ofB h.ty d = ⟨d.st, 0, 0, 0, 0, 0, 0, 0, 0, 0, 0, 0, 0, 0, 0⟩ := by unfold ofB; simp [hs, hg, h11, h13]
  unfold checkM
  rw [eB, hc, Bool.true_and, sameM_comm]
  obtain ⟨z1, z2, z3, z4, z5, z6, z7⟩ := zeros
  cases hsm : sameM h ⟨d.st, 0, 0, 0, 0, 0, 0, 0, 0, 0, 0, 0, 0, 0, 0⟩ h d
  · simp
  · have h2 := (sameM_iff.1 hsm).2
    obtain ⟨a0, a1, a2, a3, a4, a5, a6, a7, a8, a9, a10, a11, a12, a13, a14⟩ := d
    simp only [Bd.mk.injEq, true_and, and_true] at h2
    obtain ⟨rfl, rfl, rfl, rfl, rfl, rfl, rfl, rfl, rfl, rfl, rfl, rfl, rfl, rfl⟩ := h2
    simp only [z1, z2, z3, z4, z5, z6, z7, Bool.true_and, Bool.and_true]
    try simp only [Bool.and_left_comm, Bool.and_assoc, Bool.and_comm]

theorem checkM_B (h : Hd) (d : Bd) (hc : checkB h = true) (hs : stB h.ty = true) (hg : tgB h.ty = true) (h11 : h.ty ≠ 11) (h13 : h.ty ≠ 13) : checkM h d = (mayB d.st && (mayP d.tp && (sameM h ⟨d.st, d.tc, d.tp, 0, 0, 0, 0, 0, 0, 0, 0, 0, 0, 0, 0⟩ h d))) := by
  have eB : ofB h.ty d = ⟨d.st, d.tc, d.tp, 0, 0, 0, 0, 0, 0, 0, 0, 0, 0, 0, 0⟩ := by unfold ofB; simp [hs, hg, h11, h13]
  unfold checkM
  rw [eB, hc, Bool.true_and, sameM_comm]
  obtain ⟨z1, z2, z3, z4, z5, z6, z7⟩ := zeros
  cases hsm : sameM h ⟨d.st, d.tc, d.tp, 0, 0, 0, 0, 0, 0, 0, 0, 0, 0, 0, 0⟩ h d
  · simp
  · have h2 := (sameM_iff.1 hsm).2
    obtain ⟨a0, a1, a2, a3, a4, a5, a6, a7, a8, a9, a10, a11, a12, a13, a14⟩ := d
    simp only [Bd.mk.injEq, true_and, and_true] at h2
    obtain ⟨rfl, rfl, rfl, rfl, rfl, rfl, rfl, rfl, rfl, rfl, rfl, rfl⟩ := h2
    simp only [z1, z2, z3, z4, z5, z6, z7, Bool.true_and, Bool.and_true]
    try simp only [Bool.and_left_comm, Bool.and_assoc, Bool.and_comm]

theorem checkM_A (h : Hd) (d : Bd) (hc : checkB h = true) (h11 : h.ty = 11) : checkM h d = (mayB d.st && (inB d.ut (-32768) 32767 && (inB d.p1 0 255 && (inB d.p2 0 255 && (inB d.og 0 255 && (mayQ d.qc d.qa d.qv && (inB d.sr 0 65535 && (sameM h ⟨d.st, 0, 0, d.ut, d.p1, d.qc, d.qa, d.qv, d.p2, d.gr, d.sr, d.og, 0, 0, 0⟩ h d)))))))) := by
  have hs : stB h.ty = true := by rw [h11]; decide
  have hg : tgB h.ty = false := by rw [h11]; decide
  have h13 : h.ty ≠ 13 := by omega
  have eB : ofB h.ty d = ⟨d.st, 0, 0, d.ut, d.p1, d.qc, d.qa, d.qv, d.p2, d.gr, d.sr, d.og, 0, 0, 0⟩ := by unfold ofB; simp [hs, hg, h11, h13, show stB 11 = true by decide, show tgB 11 = false by decide]
  unfold checkM
  rw [eB, hc, Bool.true_and, sameM_comm]
  obtain ⟨z1, z2, z3, z4, z5, z6, z7⟩ := zeros
  cases hsm : sameM h ⟨d.st, 0, 0, d.ut, d.p1, d.qc, d.qa, d.qv, d.p2, d.gr, d.sr, d.og, 0, 0, 0⟩ h d
  · simp
  · have h2 := (sameM_iff.1 hsm).2
    obtain ⟨a0, a1, a2, a3, a4, a5, a6, a7, a8, a9, a10, a11, a12, a13, a14⟩ := d
    simp only [Bd.mk.injEq, true_and, and_true] at h2
    obtain ⟨rfl, rfl, rfl, rfl, rfl⟩ := h2
    simp only [z1, z2, z3, z4, z5, z6, z7, Bool.true_and, Bool.and_true]
    try simp only [Bool.and_left_comm, Bool.and_assoc, Bool.and_comm]

theorem checkM_G (h : Hd) (d : Bd) (hc : checkB h = true) (hs : stB h.ty = false) (hg : tgB h.ty = true) (h11 : h.ty ≠ 11) (h13 : h.ty ≠ 13) : checkM h d = (mayP d.tp && (sameM h ⟨0, d.tc, d.tp, 0, 0, 0, 0, 0, 0, 0, 0, 0, 0, 0, 0⟩ h d)) := by
  have eB : ofB h.ty d = ⟨0, d.tc, d.tp, 0, 0, 0, 0, 0, 0, 0, 0, 0, 0, 0, 0⟩ := by unfold ofB; simp [hs, hg, h11, h13]
  unfold checkM
  rw [eB, hc, Bool.true_and, sameM_comm]
  obtain ⟨z1, z2, z3, z4, z5, z6, z7⟩ := zeros
  cases hsm : sameM h ⟨0, d.tc, d.tp, 0, 0, 0, 0, 0, 0, 0, 0, 0, 0, 0, 0⟩ h d
  · simp
  · have h2 := (sameM_iff.1 hsm).2
    obtain ⟨a0, a1, a2, a3, a4, a5, a6, a7, a8, a9, a10, a11, a12, a13, a14⟩ := d
    simp only [Bd.mk.injEq, true_and, and_true] at h2
    obtain ⟨rfl, rfl, rfl, rfl, rfl, rfl, rfl, rfl, rfl, rfl, rfl, rfl, rfl⟩ := h2
    simp only [z1, z2, z3, z4, z5, z6, z7, Bool.true_and, Bool.and_true]
    try simp only [Bool.and_left_comm, Bool.and_assoc, Bool.and_comm]

theorem checkM_M (h : Hd) (d : Bd) (hc : checkB h = true) (h13 : h.ty = 13) : checkM h d = (mayP d.tp && (inB d.sh 0 255 && (inB d.hp 0 255 && (inB d.ac 0 15 && (sameM h ⟨0, d.tc, d.tp, 0, 0, 0, 0, 0, 0, 0, 0, 0, d.sh, d.hp, d.ac⟩ h d))))) := by
  have hs : stB h.ty = false := by rw [h13]; decide
  have hg : tgB h.ty = true := by rw [h13]; decide
  have h11 : h.ty ≠ 11 := by omega
  have eB : ofB h.ty d = ⟨0, d.tc, d.tp, 0, 0, 0, 0, 0, 0, 0, 0, 0, d.sh, d.hp, d.ac⟩ := by unfold ofB; simp [hs, hg, h11, h13, show stB 13 = false by decide, show tgB 13 = true by decide]
  unfold checkM
  rw [eB, hc, Bool.true_and, sameM_comm]
  obtain ⟨z1, z2, z3, z4, z5, z6, z7⟩ := zeros
  cases hsm : sameM h ⟨0, d.tc, d.tp, 0, 0, 0, 0, 0, 0, 0, 0, 0, d.sh, d.hp, d.ac⟩ h d
  · simp
  · have h2 := (sameM_iff.1 hsm).2
    obtain ⟨a0, a1, a2, a3, a4, a5, a6, a7, a8, a9, a10, a11, a12, a13, a14⟩ := d
    simp only [Bd.mk.injEq, true_and, and_true] at h2
    obtain ⟨rfl, rfl, rfl, rfl, rfl, rfl, rfl, rfl, rfl, rfl⟩ := h2
    simp only [z1, z2, z3, z4, z5, z6, z7, Bool.true_and, Bool.and_true]
    try simp only [Bool.and_left_comm, Bool.and_assoc, Bool.and_comm]

end Go.Proofs.Ytohgpnlihfcecaa