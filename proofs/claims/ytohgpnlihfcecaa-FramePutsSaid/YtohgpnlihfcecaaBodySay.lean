/- What a body's bytes say (gen_bodysay.py). -/
import Derived.Test.YtohgpnlihfcecaaBodyGet2
import Derived.Test.YtohgpnlihfcecaaBodyPut
import Derived.Test.YtohgpnlihfcecaaBodyFld
import Derived.Test.YtohgpnlihfcecaaOpenM2
namespace Go.Proofs.Ytohgpnlihfcecaa
open Go.RowKit Go.Proofs
set_option maxRecDepth 50000
set_option linter.unusedVariables false
set_option linter.unusedSimpArgs false

theorem numAt_part (a p b : List UInt8) (A k : Nat) (ha : a.length = A) (hp : p.length = k) : numAt (a ++ (p ++ b)) A k = num p := by
  unfold numAt
  subst ha hp
  rw [List.drop_left, List.take_left]

theorem numAt_off (a m : List UInt8) (A i k : Nat) (ha : a.length = A) : numAt (a ++ m) (A + i) k = numAt m i k := by
  unfold numAt
  subst ha
  rw [List.drop_append, List.drop_of_length_le (by omega), List.nil_append, Nat.add_sub_cancel_left]

theorem signedAt_as {l : List UInt8} {A k : Nat} {x : Int} (h1 : 1 ≤ k) (h8 : k ≤ 8) (h : numAt l A k = num (putS x k)) (lo : -(256 ^ k : Int) ≤ 2 * x) (hi : 2 * x < 256 ^ k) : signedAt l A k = x := by
  have e := signedAt_putS x k (by omega) (by omega) (by simpa using lo) (by simpa using hi)
  have h2 : numAt ([] ++ putS x k) (Int.toNat 0) k = num (putS x k) := numAt_whole _ _ (by rw [List.nil_append, putS_length _ _ (by omega) (by omega)]; simp)
  unfold signedAt at e ⊢
  simp only [Int.toNat_natCast] at e
  rw [h2] at e
  rw [h]
  exact e

theorem ann_at (d : Bd) (t : List UInt8) : numAt (annS d ++ t) 0 2 = num (putS d.ut 2) ∧ numAt (annS d ++ t) 2 1 = num (putS 0 1) ∧ numAt (annS d ++ t) 3 1 = num (putS d.p1 1) ∧ numAt (annS d ++ t) 4 1 = num (putS d.qc 1) ∧ numAt (annS d ++ t) 5 1 = num (putS d.qa 1) ∧ numAt (annS d ++ t) 6 2 = num (putS d.qv 2) ∧ numAt (annS d ++ t) 8 1 = num (putS d.p2 1) ∧ numAt (annS d ++ t) 9 8 = num (putN d.gr.toNat 8) ∧ numAt (annS d ++ t) 17 2 = num (putS d.sr 2) ∧ numAt (annS d ++ t) 19 1 = num (putS d.og 1) := by
  have l0 : (putS d.ut 2).length = 2 := putS_length _ _ (by decide) (by decide)
  have l1 : (putS 0 1).length = 1 := putS_length _ _ (by decide) (by decide)
  have l2 : (putS d.p1 1).length = 1 := putS_length _ _ (by decide) (by decide)
  have l3 : (putS d.qc 1).length = 1 := putS_length _ _ (by decide) (by decide)
  have l4 : (putS d.qa 1).length = 1 := putS_length _ _ (by decide) (by decide)
  have l5 : (putS d.qv 2).length = 2 := putS_length _ _ (by decide) (by decide)
  have l6 : (putS d.p2 1).length = 1 := putS_length _ _ (by decide) (by decide)
  have l7 : (putN d.gr.toNat 8).length = 8 := putN_length _ _
  have l8 : (putS d.sr 2).length = 2 := putS_length _ _ (by decide) (by decide)
  have l9 : (putS d.og 1).length = 1 := putS_length _ _ (by decide) (by decide)
  unfold annS qualS
  generalize putS d.ut 2 = p0 at *
  generalize putS 0 1 = p1 at *
  generalize putS d.p1 1 = p2 at *
  generalize putS d.qc 1 = p3 at *
  generalize putS d.qa 1 = p4 at *
  generalize putS d.qv 2 = p5 at *
  generalize putS d.p2 1 = p6 at *
  generalize putN d.gr.toNat 8 = p7 at *
  generalize putS d.sr 2 = p8 at *
  generalize putS d.og 1 = p9 at *
  refine ⟨?_, ?_, ?_, ?_, ?_, ?_, ?_, ?_, ?_, ?_⟩
  · have e := numAt_part ([]) p0 (p1 ++ p2 ++ p3 ++ p4 ++ p5 ++ p6 ++ p7 ++ p8 ++ p9 ++ t) 0 2 (by simp [List.length_nil]) l0
    simpa only [List.append_assoc, List.nil_append] using e
  · have e := numAt_part (p0) p1 (p2 ++ p3 ++ p4 ++ p5 ++ p6 ++ p7 ++ p8 ++ p9 ++ t) 2 1 (by simp [l0]) l1
    simpa only [List.append_assoc, List.nil_append] using e
  · have e := numAt_part (p0 ++ p1) p2 (p3 ++ p4 ++ p5 ++ p6 ++ p7 ++ p8 ++ p9 ++ t) 3 1 (by simp [l0, l1]) l2
    simpa only [List.append_assoc, List.nil_append] using e
  · have e := numAt_part (p0 ++ p1 ++ p2) p3 (p4 ++ p5 ++ p6 ++ p7 ++ p8 ++ p9 ++ t) 4 1 (by simp [l0, l1, l2]) l3
    simpa only [List.append_assoc, List.nil_append] using e
  · have e := numAt_part (p0 ++ p1 ++ p2 ++ p3) p4 (p5 ++ p6 ++ p7 ++ p8 ++ p9 ++ t) 5 1 (by simp [l0, l1, l2, l3]) l4
    simpa only [List.append_assoc, List.nil_append] using e
  · have e := numAt_part (p0 ++ p1 ++ p2 ++ p3 ++ p4) p5 (p6 ++ p7 ++ p8 ++ p9 ++ t) 6 2 (by simp [l0, l1, l2, l3, l4]) l5
    simpa only [List.append_assoc, List.nil_append] using e
  · have e := numAt_part (p0 ++ p1 ++ p2 ++ p3 ++ p4 ++ p5) p6 (p7 ++ p8 ++ p9 ++ t) 8 1 (by simp [l0, l1, l2, l3, l4, l5]) l6
    simpa only [List.append_assoc, List.nil_append] using e
  · have e := numAt_part (p0 ++ p1 ++ p2 ++ p3 ++ p4 ++ p5 ++ p6) p7 (p8 ++ p9 ++ t) 9 8 (by simp [l0, l1, l2, l3, l4, l5, l6]) l7
    simpa only [List.append_assoc, List.nil_append] using e
  · have e := numAt_part (p0 ++ p1 ++ p2 ++ p3 ++ p4 ++ p5 ++ p6 ++ p7) p8 (p9 ++ t) 17 2 (by simp [l0, l1, l2, l3, l4, l5, l6, l7]) l8
    simpa only [List.append_assoc, List.nil_append] using e
  · have e := numAt_part (p0 ++ p1 ++ p2 ++ p3 ++ p4 ++ p5 ++ p6 ++ p7 ++ p8) p9 (t) 19 1 (by simp [l0, l1, l2, l3, l4, l5, l6, l7, l8]) l9
    simpa only [List.append_assoc, List.nil_append] using e

theorem man_at (d : Bd) (t : List UInt8) : numAt (manS d ++ t) 0 1 = num (putS d.sh 1) ∧ numAt (manS d ++ t) 1 1 = num (putS d.hp 1) ∧ numAt (manS d ++ t) 2 1 = num (putS d.ac 1) ∧ numAt (manS d ++ t) 3 1 = num (putS 0 1) := by
  have l0 : (putS d.sh 1).length = 1 := putS_length _ _ (by decide) (by decide)
  have l1 : (putS d.hp 1).length = 1 := putS_length _ _ (by decide) (by decide)
  have l2 : (putS d.ac 1).length = 1 := putS_length _ _ (by decide) (by decide)
  have l3 : (putS 0 1).length = 1 := putS_length _ _ (by decide) (by decide)
  unfold manS
  generalize putS d.sh 1 = p0 at *
  generalize putS d.hp 1 = p1 at *
  generalize putS d.ac 1 = p2 at *
  generalize putS 0 1 = p3 at *
  refine ⟨?_, ?_, ?_, ?_⟩
  · have e := numAt_part ([]) p0 (p1 ++ p2 ++ p3 ++ t) 0 1 (by simp [List.length_nil]) l0
    simpa only [List.append_assoc, List.nil_append] using e
  · have e := numAt_part (p0) p1 (p2 ++ p3 ++ t) 1 1 (by simp [l0]) l1
    simpa only [List.append_assoc, List.nil_append] using e
  · have e := numAt_part (p0 ++ p1) p2 (p3 ++ t) 2 1 (by simp [l0, l1]) l2
    simpa only [List.append_assoc, List.nil_append] using e
  · have e := numAt_part (p0 ++ p1 ++ p2) p3 (t) 3 1 (by simp [l0, l1, l2]) l3
    simpa only [List.append_assoc, List.nil_append] using e

theorem port_at (c p : Int) (a t : List UInt8) (A : Nat) (ha : a.length = A) (hc : 0 ≤ c) (hc2 : c < 18446744073709551616) (hp : mayP p = true) :
    ((numAt (a ++ (portS c p ++ t)) A 8 : Nat) : Int) = c ∧ ((numAt (a ++ (portS c p ++ t)) (A + 8) 2 : Nat) : Int) = p := by
  unfold mayP at hp
  rw [decide_eq_true_eq] at hp
  have l8 : (putN c.toNat 8).length = 8 := putN_length _ _
  have e1 := num_putN c.toNat 8 (by decide)
  have e2 := num_putS p 2 (by decide) (by decide)
  have a1 := numAt_part a (putN c.toNat 8) (putS p 2 ++ t) A 8 ha l8
  have a2 := numAt_part (a ++ putN c.toNat 8) (putS p 2) t (A + 8) 2 (by rw [List.length_append, ha, l8]) (putS_length _ _ (by decide) (by decide))
  unfold portS
  rw [List.append_assoc] at a2 ⊢
  rw [a1, a2]
  simp only [show (2 : Int).toNat = 2 from rfl] at e2
  omega

theorem stamp_val {t : Int} (h : mayB t = true) : stampT t = t := by unfold stampT; rw [h]; rfl

theorem ann_back (d : Bd) (a t : List UInt8) (A : Nat) (ha : a.length = A) (hgr : 0 ≤ d.gr) (hgr2 : d.gr < 18446744073709551616) (r3 : inB d.ut (-32768) 32767 = true) (r4 : inB d.p1 0 255 = true) (r5 : mayQ d.qc d.qa d.qv = true)
    (r6 : inB d.p2 0 255 = true) (r7 : inB d.sr 0 65535 = true) (r8 : inB d.og 0 255 = true) (d0 : Bd) :
    gotAnn d0 (a ++ (annS d ++ t)) A = { d0 with ut := d.ut, p1 := d.p1, qc := d.qc, qa := d.qa, qv := d.qv, p2 := d.p2, gr := d.gr, sr := d.sr, og := d.og } := by
  obtain ⟨a0, -, a2, a3, a4, a5, a6, a7, a8, a9⟩ := ann_at d t
  obtain ⟨q1, q2, q3⟩ := mayQ_iff.1 r5
  have q1 := in1_iff.1 q1
  have q2 := in1_iff.1 q2
  have q3 := in2_iff.1 q3
  unfold inB at r3 r4 r6 r7 r8
  rw [decide_eq_true_eq] at r3 r4 r6 r7 r8
  have o := fun i k => numAt_off a (annS d ++ t) A i k ha
  have o0 := o 0 2
  rw [Nat.add_zero] at o0
  have s := signedAt_as (l := a ++ (annS d ++ t)) (A := A) (k := 2) (x := d.ut) (by decide) (by decide) (o0.trans a0) (by omega) (by omega)
  have e2 := num_putS d.p1 1 (by decide) (by decide)
  have e3 := num_putS d.qc 1 (by decide) (by decide)
  have e4 := num_putS d.qa 1 (by decide) (by decide)
  have e5 := num_putS d.qv 2 (by decide) (by decide)
  have e6 := num_putS d.p2 1 (by decide) (by decide)
  have e7 := num_putN d.gr.toNat 8 (by decide)
  have e8 := num_putS d.sr 2 (by decide) (by decide)
  have e9 := num_putS d.og 1 (by decide) (by decide)
  simp only [show (1 : Int).toNat = 1 from rfl, show (2 : Int).toNat = 2 from rfl] at e2 e3 e4 e5 e6 e8 e9
  unfold gotAnn
  rw [s, o 3 1, o 4 1, o 5 1, o 6 2, o 8 1, o 9 8, o 17 2, o 19 1, a2, a3, a4, a5, a6, a7, a8, a9]
  obtain ⟨x0, x1, x2, x3, x4, x5, x6, x7, x8, x9, x10, x11, x12, x13, x14⟩ := d
  simp only [Bd.mk.injEq, true_and, and_true] at *
  refine ⟨?_, ?_, ?_, ?_, ?_, ?_, ?_, ?_⟩ <;> omega

theorem man_back (d : Bd) (a t : List UInt8) (A : Nat) (ha : a.length = A) (r9 : inB d.sh 0 255 = true) (r10 : inB d.hp 0 255 = true) (r11 : inB d.ac 0 15 = true) (d0 : Bd) :
    gotMan d0 (a ++ (manS d ++ t)) A = { d0 with sh := d.sh, hp := d.hp, ac := d.ac } := by
  obtain ⟨a0, a1, a2, -⟩ := man_at d t
  unfold inB at r9 r10 r11
  rw [decide_eq_true_eq] at r9 r10 r11
  have o := fun i k => numAt_off a (manS d ++ t) A i k ha
  have o0 := o 0 1
  rw [Nat.add_zero] at o0
  have e0 := num_putS d.sh 1 (by decide) (by decide)
  have e1 := num_putS d.hp 1 (by decide) (by decide)
  have e2 := num_putS d.ac 1 (by decide) (by decide)
  simp only [show (1 : Int).toNat = 1 from rfl] at e0 e1 e2
  unfold gotMan
  rw [o0, o 1 1, o 2 1, a0, a1, a2]
  obtain ⟨x0, x1, x2, x3, x4, x5, x6, x7, x8, x9, x10, x11, x12, x13, x14⟩ := d
  simp only [Bd.mk.injEq, true_and, and_true] at *
  refine ⟨?_, ?_, ?_⟩ <;> omega

/-- What was put is got. -/
theorem bodyGet_back (v : Value) (b t : List UInt8) (h h' : Hd) (d : Bd) (w : World) (hB : Bytes w v (b ++ (bodyS h.ty d ++ t))) (hl : (b ++ (bodyS h.ty d ++ t)).length ≤ 140737488355328) (hty : h'.ty = h.ty) (hok : MsgOk h d) (hm : checkM h d = true) :
    Calls Try.prog 29 #[.agg (msgF h' bd0).toArray, v, .int .i64 (b.length : Int)] w fun e w' => e = .returned (.tuple #[.agg (msgF h' d).toArray, .int .i64 ((b.length : Int) + lenI h.ty), .int .i64 0]) ∧ Below w.heap.size w w' := by
  obtain ⟨c, eB, r1, r2, r3, r4, r5, r6, r7, r8, r9, r10, r11⟩ := checkM_iff.1 hm
  obtain ⟨-, ⟨t1, t2⟩, ⟨g1, g2⟩, -⟩ := hok
  have hk := (check_of c).1
  have hlen := bodyS_length h.ty d
  have hA : (b.length : Int) + lenI h'.ty ≤ (b ++ (bodyS h.ty d ++ t)).length := by
    rw [hty, List.length_append, List.length_append]
    omega
  rcases kinds h.ty with ⟨h1, h2, h3, h4⟩ | ⟨h1, h2, h3, h4⟩ | ⟨h1, h2, h3, h4⟩ | h1 | ⟨h1, h2, h3, h4⟩ | h1
  · rcases known_or hk with h | h | h | h | h | h | h | h | h | h <;> rw [h] at h1 h2 h3 h4 <;> first | exact absurd h1 (by decide) | exact absurd h2 (by decide) | omega
  · have hs := h1
    have hg := h2
    obtain ⟨t', ht'⟩ : ∃ t', bodyS h.ty d ++ t = stampS d.st ++ t' := ⟨ownS h.ty d ++ t, by unfold bodyS; simp [hs, hg]⟩
    rw [ht'] at hB hl hA
    refine (bodyGet_S v _ h' bd0 b.length w hB hl hA (getB_stampS d.st b _ _ rfl) (by rw [hty]; exact hs) (by rw [hty]; exact hg) (by rw [hty]; exact h3) (by rw [hty]; exact h4)).mono ?_
    rintro e w' ⟨rfl, hbel⟩
    refine ⟨?_, hbel⟩
    have v1 := getV_stampS d.st b (t') b.length rfl
    rw [stamp_val r1] at v1
    rw [v1]
    have eD : ({ bd0 with st := d.st } : Bd) = d := by
      have e3 := eB
      unfold ofB at e3
      simp only [hs, hg, if_neg h3, if_neg h4, if_true, if_false, Bool.false_eq_true] at e3
      rw [e3]
      rfl
    rw [hty]
    exact congrArg (fun x => Ending.returned (.tuple #[.agg (msgF h' x).toArray, .int .i64 ((b.length : Int) + lenI h.ty), .int .i64 0])) eD
  · have hs := h1
    have hg := h2
    have h5 : h.ty ≠ 2 := by intro e; rw [e] at hg; exact absurd hg (by decide)
    have ht' : bodyS h.ty d ++ t = stampS d.st ++ (portS d.tc d.tp ++ (t)) := by unfold bodyS ownS; simp [hs, hg, h3, h4, h5]
    rw [ht'] at hB hl hA
    refine (bodyGet_B v _ h' bd0 b.length w hB hl hA (getB_stampS d.st b _ _ rfl) (by rw [hty]; exact hs) (by rw [hty]; exact hg) (by rw [hty]; exact h3) (by rw [hty]; exact h4)).mono ?_
    rintro e w' ⟨rfl, hbel⟩
    refine ⟨?_, hbel⟩
    have v1 := getV_stampS d.st b (portS d.tc d.tp ++ t) b.length rfl
    rw [stamp_val r1] at v1
    rw [v1]
    obtain ⟨p1, p2⟩ := port_at d.tc d.tp (b ++ stampS d.st) (t) (b.length + 10) (by rw [List.length_append, stampS_length]) t1 t2 r2
    rw [List.append_assoc] at p1 p2
    rw [p1, p2]
    have eD : ({ bd0 with st := d.st, tc := d.tc, tp := d.tp } : Bd) = d := by
      have e3 := eB
      unfold ofB at e3
      simp only [hs, hg, if_neg h3, if_neg h4, if_true, if_false, Bool.false_eq_true] at e3
      rw [e3]
      rfl
    rw [hty]
    exact congrArg (fun x => Ending.returned (.tuple #[.agg (msgF h' x).toArray, .int .i64 ((b.length : Int) + lenI h.ty), .int .i64 0])) eD
  · have hs : stB h.ty = true := by rw [h1]; decide
    have hg : tgB h.ty = false := by rw [h1]; decide
    have h4 : h.ty ≠ 13 := by omega
    have h5 : h.ty ≠ 2 := by omega
    have ht' : bodyS h.ty d ++ t = stampS d.st ++ (annS d ++ (t)) := by unfold bodyS ownS; simp [hs, hg, h1, h5, show stB 11 = true by decide, show tgB 11 = false by decide]
    rw [ht'] at hB hl hA
    refine (bodyGet_A v _ h' bd0 b.length w hB hl hA (getB_stampS d.st b _ _ rfl) (by rw [hty]; exact h1)).mono ?_
    rintro e w' ⟨rfl, hbel⟩
    refine ⟨?_, hbel⟩
    have v1 := getV_stampS d.st b (annS d ++ t) b.length rfl
    rw [stamp_val r1] at v1
    rw [v1]
    have g := ann_back d (b ++ stampS d.st) t (b.length + 10) (by rw [List.length_append, stampS_length]) g1 g2 r3 r4 r5 r6 r7 r8
    rw [List.append_assoc] at g
    rw [g]
    have eD : ({ bd0 with st := d.st, ut := d.ut, p1 := d.p1, qc := d.qc, qa := d.qa, qv := d.qv, p2 := d.p2, gr := d.gr, sr := d.sr, og := d.og } : Bd) = d := by
      have e3 := eB
      unfold ofB at e3
      simp only [hs, hg, h1, show (11 : Int) ≠ 13 by decide, if_true, if_false, Bool.false_eq_true, ne_eq, show ¬ (11 : Int) = 13 by decide] at e3
      rw [e3]
      rfl
    rw [hty]
    exact congrArg (fun x => Ending.returned (.tuple #[.agg (msgF h' x).toArray, .int .i64 ((b.length : Int) + lenI h.ty), .int .i64 0])) eD
  · have hs := h1
    have hg := h2
    have h5 : h.ty ≠ 2 := by intro e; rw [e] at hg; exact absurd hg (by decide)
    have ht' : bodyS h.ty d ++ t = portS d.tc d.tp ++ (t) := by unfold bodyS ownS; simp [hs, hg, h3, h4, h5]
    rw [ht'] at hB hl hA
    refine (bodyGet_G v _ h' bd0 b.length w hB hl hA (by rw [hty]; exact hs) (by rw [hty]; exact hg) (by rw [hty]; exact h3) (by rw [hty]; exact h4)).mono ?_
    rintro e w' ⟨rfl, hbel⟩
    refine ⟨?_, hbel⟩
    obtain ⟨p1, p2⟩ := port_at d.tc d.tp (b) (t) (b.length) rfl t1 t2 r2
    rw [p1, p2]
    have eD : ({ bd0 with tc := d.tc, tp := d.tp } : Bd) = d := by
      have e3 := eB
      unfold ofB at e3
      simp only [hs, hg, if_neg h3, if_neg h4, if_true, if_false, Bool.false_eq_true] at e3
      rw [e3]
      rfl
    rw [hty]
    exact congrArg (fun x => Ending.returned (.tuple #[.agg (msgF h' x).toArray, .int .i64 ((b.length : Int) + lenI h.ty), .int .i64 0])) eD
  · have hs : stB h.ty = false := by rw [h1]; decide
    have hg : tgB h.ty = true := by rw [h1]; decide
    have h3 : h.ty ≠ 11 := by omega
    have h5 : h.ty ≠ 2 := by omega
    have ht' : bodyS h.ty d ++ t = portS d.tc d.tp ++ (manS d ++ (t)) := by unfold bodyS ownS; simp [hs, hg, h1, h5, show stB 13 = false by decide, show tgB 13 = true by decide]
    rw [ht'] at hB hl hA
    refine (bodyGet_M v _ h' bd0 b.length w hB hl hA (by rw [hty]; exact h1)).mono ?_
    rintro e w' ⟨rfl, hbel⟩
    refine ⟨?_, hbel⟩
    obtain ⟨p1, p2⟩ := port_at d.tc d.tp (b) (manS d ++ t) (b.length) rfl t1 t2 r2
    rw [p1, p2]
    have g := man_back d (b ++ portS d.tc d.tp) t (b.length + 10) (by rw [List.length_append, portS_length]) r9 r10 r11
    rw [List.append_assoc] at g
    rw [g]
    have eD : ({ bd0 with tc := d.tc, tp := d.tp, sh := d.sh, hp := d.hp, ac := d.ac } : Bd) = d := by
      have e3 := eB
      unfold ofB at e3
      simp only [hs, hg, h1, if_true, if_false, Bool.false_eq_true, show ¬ (13 : Int) = 11 by decide] at e3
      rw [e3]
      rfl
    rw [hty]
    exact congrArg (fun x => Ending.returned (.tuple #[.agg (msgF h' x).toArray, .int .i64 ((b.length : Int) + lenI h.ty), .int .i64 0])) eD
end Go.Proofs.Ytohgpnlihfcecaa