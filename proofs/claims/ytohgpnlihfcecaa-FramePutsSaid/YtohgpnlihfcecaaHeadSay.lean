/- What a header's bytes say. -/
import Derived.Test.YtohgpnlihfcecaaHeadPut
import Derived.Test.YtohgpnlihfcecaaHeadGet
namespace Go.Proofs.Ytohgpnlihfcecaa
open Go.RowKit Go.Proofs
set_option maxRecDepth 50000
set_option linter.unusedVariables false
set_option linter.unusedSimpArgs false

theorem numAt_piece (a p b : List UInt8) (A k : Nat) (ha : a.length = A) (hp : p.length = k) : numAt (a ++ (p ++ b)) A k = num p := by
  unfold numAt
  subst ha hp
  rw [List.drop_left, List.take_left]

theorem head_at (h : Hd) (n : Int) (t : List UInt8) :
    numAt (headS h n ++ t) 0 1 = num (putS h.ty 1) ∧
    numAt (headS h n ++ t) 1 1 = num (putS 18 1) ∧
    numAt (headS h n ++ t) 2 2 = num (putS n 2) ∧
    numAt (headS h n ++ t) 4 1 = num (putS h.dm 1) ∧
    numAt (headS h n ++ t) 6 2 = num (putS h.fl 2) ∧
    numAt (headS h n ++ t) 8 8 = num (putS h.co 8) ∧
    numAt (headS h n ++ t) 20 8 = num (putN h.sc.toNat 8) ∧
    numAt (headS h n ++ t) 28 2 = num (putS h.sp 2) ∧
    numAt (headS h n ++ t) 30 2 = num (putS h.sq 2) ∧
    numAt (headS h n ++ t) 33 1 = num (putS h.lg 1) := by
  have l0 : (putS h.ty 1).length = 1 := putS_length _ _ (by decide) (by decide)
  have l1 : (putS 18 1).length = 1 := putS_length _ _ (by decide) (by decide)
  have l2 : (putS n 2).length = 2 := putS_length _ _ (by decide) (by decide)
  have l3 : (putS h.dm 1).length = 1 := putS_length _ _ (by decide) (by decide)
  have l4 : (putS 0 1).length = 1 := putS_length _ _ (by decide) (by decide)
  have l5 : (putS h.fl 2).length = 2 := putS_length _ _ (by decide) (by decide)
  have l6 : (putS h.co 8).length = 8 := putS_length _ _ (by decide) (by decide)
  have l7 : (putS 0 4).length = 4 := putS_length _ _ (by decide) (by decide)
  have l8 : (putN h.sc.toNat 8).length = 8 := putN_length _ _
  have l9 : (putS h.sp 2).length = 2 := putS_length _ _ (by decide) (by decide)
  have l10 : (putS h.sq 2).length = 2 := putS_length _ _ (by decide) (by decide)
  have l11 : (putS (ctl h.ty) 1).length = 1 := putS_length _ _ (by decide) (by decide)
  have l12 : (putS h.lg 1).length = 1 := putS_length _ _ (by decide) (by decide)
  unfold headS portS
  generalize putS h.ty 1 = p0 at *
  generalize putS 18 1 = p1 at *
  generalize putS n 2 = p2 at *
  generalize putS h.dm 1 = p3 at *
  generalize putS 0 1 = p4 at *
  generalize putS h.fl 2 = p5 at *
  generalize putS h.co 8 = p6 at *
  generalize putS 0 4 = p7 at *
  generalize putN h.sc.toNat 8 = p8 at *
  generalize putS h.sp 2 = p9 at *
  generalize putS h.sq 2 = p10 at *
  generalize putS (ctl h.ty) 1 = p11 at *
  generalize putS h.lg 1 = p12 at *
  refine ⟨?_, ?_, ?_, ?_, ?_, ?_, ?_, ?_, ?_, ?_⟩
  · have e := numAt_piece ([]) p0 (p1 ++ p2 ++ p3 ++ p4 ++ p5 ++ p6 ++ p7 ++ p8 ++ p9 ++ p10 ++ p11 ++ p12 ++ t) 0 1 (by simp [l0]) l0
    simpa only [List.append_assoc, List.nil_append] using e
  · have e := numAt_piece (p0) p1 (p2 ++ p3 ++ p4 ++ p5 ++ p6 ++ p7 ++ p8 ++ p9 ++ p10 ++ p11 ++ p12 ++ t) 1 1 (by simp [l0]) l1
    simpa only [List.append_assoc, List.nil_append] using e
  · have e := numAt_piece (p0 ++ p1) p2 (p3 ++ p4 ++ p5 ++ p6 ++ p7 ++ p8 ++ p9 ++ p10 ++ p11 ++ p12 ++ t) 2 2 (by simp [l0, l1]) l2
    simpa only [List.append_assoc, List.nil_append] using e
  · have e := numAt_piece (p0 ++ p1 ++ p2) p3 (p4 ++ p5 ++ p6 ++ p7 ++ p8 ++ p9 ++ p10 ++ p11 ++ p12 ++ t) 4 1 (by simp [l0, l1, l2]) l3
    simpa only [List.append_assoc, List.nil_append] using e
  · have e := numAt_piece (p0 ++ p1 ++ p2 ++ p3 ++ p4) p5 (p6 ++ p7 ++ p8 ++ p9 ++ p10 ++ p11 ++ p12 ++ t) 6 2 (by simp [l0, l1, l2, l3, l4]) l5
    simpa only [List.append_assoc, List.nil_append] using e
  · have e := numAt_piece (p0 ++ p1 ++ p2 ++ p3 ++ p4 ++ p5) p6 (p7 ++ p8 ++ p9 ++ p10 ++ p11 ++ p12 ++ t) 8 8 (by simp [l0, l1, l2, l3, l4, l5]) l6
    simpa only [List.append_assoc, List.nil_append] using e
  · have e := numAt_piece (p0 ++ p1 ++ p2 ++ p3 ++ p4 ++ p5 ++ p6 ++ p7) p8 (p9 ++ p10 ++ p11 ++ p12 ++ t) 20 8 (by simp [l0, l1, l2, l3, l4, l5, l6, l7]) l8
    simpa only [List.append_assoc, List.nil_append] using e
  · have e := numAt_piece (p0 ++ p1 ++ p2 ++ p3 ++ p4 ++ p5 ++ p6 ++ p7 ++ p8) p9 (p10 ++ p11 ++ p12 ++ t) 28 2 (by simp [l0, l1, l2, l3, l4, l5, l6, l7, l8]) l9
    simpa only [List.append_assoc, List.nil_append] using e
  · have e := numAt_piece (p0 ++ p1 ++ p2 ++ p3 ++ p4 ++ p5 ++ p6 ++ p7 ++ p8 ++ p9) p10 (p11 ++ p12 ++ t) 30 2 (by simp [l0, l1, l2, l3, l4, l5, l6, l7, l8, l9]) l10
    simpa only [List.append_assoc, List.nil_append] using e
  · have e := numAt_piece (p0 ++ p1 ++ p2 ++ p3 ++ p4 ++ p5 ++ p6 ++ p7 ++ p8 ++ p9 ++ p10 ++ p11) p12 (t) 33 1 (by simp [l0, l1, l2, l3, l4, l5, l6, l7, l8, l9, l10, l11]) l12
    simpa only [List.append_assoc, List.nil_append] using e

theorem signedAt_same {l : List UInt8} {A k : Nat} {x : Int} (hk1 : 1 ≤ k) (hk8 : k ≤ 8) (h : numAt l A k = num (putS x k)) (lo : -(256 ^ k : Int) ≤ 2 * x) (hi : 2 * x < 256 ^ k) : signedAt l A k = x := by
  have e := signedAt_putS x k (by omega) (by omega) (by rw [Int.toNat_natCast]; exact lo) (by rw [Int.toNat_natCast]; exact hi)
  rw [Int.toNat_natCast] at e
  rw [← e]
  unfold signedAt
  rw [h, List.nil_append, show Int.toNat 0 = 0 from rfl, numAt_whole _ k (by rw [putS_length _ _ (by omega) (by omega), Int.toNat_natCast])]

/-- What is put, with whatever behind it, is got. -/
theorem head_got (h : Hd) (n : Int) (t : List UInt8) (hok : HdOk h) (hp : putB h n = true) : gotH (headS h n ++ t) = h ∧ lenOf (headS h n ++ t) = n ∧ badB (headS h n ++ t) = false := by
  unfold putB at hp
  rw [Bool.and_eq_true] at hp
  obtain ⟨hc, hn⟩ := hp
  obtain ⟨hk, ⟨d1, d2⟩, ⟨f1, f2⟩, ⟨s1, s2⟩, ⟨q1, q2⟩, ⟨g1, g2⟩⟩ := check_of hc
  have hT : 0 ≤ h.ty ∧ h.ty ≤ 13 := by have := known_or hk; omega
  have hn' := hn
  unfold inB at hn'
  rw [decide_eq_true_eq] at hn'
  obtain ⟨o1, o2, o3, o4⟩ := hok
  obtain ⟨a0, a1, a2, a3, a5, a6, a8, a9, a10, a12⟩ := head_at h n t
  have e0 := num_putS h.ty 1 (by decide) (by decide)
  have e1 := num_putS 18 1 (by decide) (by decide)
  have e2 := num_putS n 2 (by decide) (by decide)
  have e3 := num_putS h.dm 1 (by decide) (by decide)
  have e5 := num_putS h.fl 2 (by decide) (by decide)
  have e8 := num_putN h.sc.toNat 8 (by decide)
  have e9 := num_putS h.sp 2 (by decide) (by decide)
  have e10 := num_putS h.sq 2 (by decide) (by decide)
  have s6 := signedAt_same (l := headS h n ++ t) (A := 8) (k := 8) (x := h.co) (by decide) (by decide) a6 (by omega) (by omega)
  have s12 := signedAt_same (l := headS h n ++ t) (A := 33) (k := 1) (x := h.lg) (by decide) (by decide) a12 (by omega) (by omega)
  rw [← a0] at e0; rw [← a1] at e1; rw [← a2] at e2; rw [← a3] at e3; rw [← a5] at e5; rw [← a8] at e8; rw [← a9] at e9; rw [← a10] at e10
  simp only [show (1 : Int).toNat = 1 from rfl, show (2 : Int).toNat = 2 from rfl] at e0 e1 e2 e3 e5 e9 e10
  have E0 : ((numAt (headS h n ++ t) 0 1 : Nat) : Int) = h.ty := by omega
  have E2 : ((numAt (headS h n ++ t) 2 2 : Nat) : Int) = n := by omega
  refine ⟨?_, E2, ?_⟩
  · unfold gotH
    rw [s6, s12, E0]
    obtain ⟨ty, dm, fl, co, sc, sp, sq, lg⟩ := h
    simp only [Hd.mk.injEq, true_and, and_true] at *
    refine ⟨?_, ?_, ?_, ?_, ?_⟩ <;> omega
  · unfold badB lenOf
    rw [E0, E2, hk, hn]
    have : ((numAt (headS h n ++ t) 1 1 : Nat) : Int) % 16 = 2 := by omega
    rw [decide_eq_true this]
    rfl

/-- .. with just so many bytes behind it. -/
theorem head_back (h : Hd) (n : Int) (k : Nat) (hok : HdOk h) (hp : putB h n = true) (hk : n = 34 + (k : Int)) (t : List UInt8) (ht : t.length = k) :
    getE (headS h n ++ t) = 0 ∧ getN (headS h n ++ t) = n ∧ getH (headS h n ++ t) = h := by
  obtain ⟨e1, e2, e3⟩ := head_got h n t hok hp
  have hl : (headS h n ++ t).length = 34 + k := by rw [List.length_append, headS_length, ht]
  have he : getE (headS h n ++ t) = 0 := getE_ok (by omega) e3 (by rw [e2, hl]; omega)
  obtain ⟨g1, g2⟩ := get_some he
  exact ⟨he, g1.trans e2, g2.trans e1⟩
end Go.Proofs.Ytohgpnlihfcecaa
