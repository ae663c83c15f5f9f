/- The document's own Check of a configuration (gen_mgmlaws.py). -/
import Derived.Test.YtgjffmhlehcoiaaConf
import Derived.Test.YtgjffmhlehcoiaaConfVal
import Derived.Test.YtgjffmhlehcoiaaQual
import Derived.Test.YtgjffmhlehcoiaaNum
namespace Go.Proofs.Ytgjffmhlehcoiaa
open Go.RowKit Go.Proofs
set_option maxRecDepth 50000
set_option linter.unusedVariables false
set_option linter.unusedSimpArgs false

set_option maxRecDepth 100000 in
set_option maxHeartbeats 8000000 in
theorem refChk10_any (c : Cf) (w : World) :
    Calls Try.prog 9 #[.agg (cfL c).toArray] w fun e w' => e = .returned (.int .i64 (checkE c)) ∧ Below w.heap.size w w' := by
  have B := Box.new w (cfL c) 28
  have hb := bnew w (Obj.cells (cfL c).toArray 28)
  go_enter Try.func9, Try.ntmps9
  go_upto_region 1 with fail
  change Code.wp Try.prog _ _ _ (w.alloc (Obj.cells (cfL c).toArray 28))
  generalize w.alloc (Obj.cells (cfL c).toArray 28) = W at *
  generalize hG : w.heap.size = G at *
  have k0 := B.cell 0 _ rfl
  have k1 := B.cell 1 _ rfl
  have k2 := B.cell 2 _ rfl
  have k3 := B.cell 3 _ rfl
  have k4 := B.cell 4 _ rfl
  have k5 := B.cell 5 _ rfl
  have k6 := B.cell 6 _ rfl
  have k7 := B.cell 7 _ rfl
  have k8 := B.cell 8 _ rfl
  have k9 := B.cell 9 _ rfl
  have k10 := B.cell 10 _ rfl
  have k11 := B.cell 11 _ rfl
  have k12 := B.cell 12 _ rfl
  have k15 := B.cell 15 _ rfl
  have k16 := B.cell 16 _ rfl
  have k17 := B.cell 17 _ rfl
  have k18 := B.cell 18 _ rfl
  have k19 := B.cell 19 _ rfl
  have k20 := B.cell 20 _ rfl
  have k21 := B.cell 21 _ rfl
  go_wp2_with fail
  refine (refIn_any c.po (1) (8) _).mono ?_
  rintro e W1 ⟨rfl, rfl⟩
  by_cases hN : 1 ≤ c.po ∧ c.po ≤ 8
  case neg =>
    have hE := hid (show checkE c = 15 from if_neg fun h => hN h.2.2.1)
    rw [decide_eq_false hN]
    clear hN
    go_wp2_with fail
    go_ret
    exact ⟨by rw [hE.out]; rfl, by rw [hG]; exact hb⟩
  rw [decide_eq_true hN]
  have Hpo := hid hN
  clear hN
  go_wp2_with fail
  refine (refIn_any c.dm (0) (127) _).mono ?_
  rintro e W1 ⟨rfl, rfl⟩
  by_cases hN : 0 ≤ c.dm ∧ c.dm ≤ 127
  case neg =>
    have hE := hid (show checkE c = 15 from if_neg fun h => hN h.2.2.2.1)
    rw [decide_eq_false hN]
    clear hN
    go_wp2_with fail
    go_ret
    exact ⟨by rw [hE.out]; rfl, by rw [hG]; exact hb⟩
  rw [decide_eq_true hN]
  have Hdm := hid hN
  clear hN
  go_wp2_with fail
  refine (refIn_any c.p1 (0) (255) _).mono ?_
  rintro e W1 ⟨rfl, rfl⟩
  by_cases hN : 0 ≤ c.p1 ∧ c.p1 ≤ 255
  case neg =>
    have hE := hid (show checkE c = 15 from if_neg fun h => hN h.2.2.2.2.1)
    rw [decide_eq_false hN]
    clear hN
    go_wp2_with fail
    go_ret
    exact ⟨by rw [hE.out]; rfl, by rw [hG]; exact hb⟩
  rw [decide_eq_true hN]
  have Hp1 := hid hN
  clear hN
  go_wp2_with fail
  refine (refIn_any c.p2 (0) (255) _).mono ?_
  rintro e W1 ⟨rfl, rfl⟩
  by_cases hN : 0 ≤ c.p2 ∧ c.p2 ≤ 255
  case neg =>
    have hE := hid (show checkE c = 15 from if_neg fun h => hN h.2.2.2.2.2.1)
    rw [decide_eq_false hN]
    clear hN
    go_wp2_with fail
    go_ret
    exact ⟨by rw [hE.out]; rfl, by rw [hG]; exact hb⟩
  rw [decide_eq_true hN]
  have Hp2 := hid hN
  clear hN
  go_wp2_with fail
  refine (refMayQ_any c.qc c.qa c.qv _).mono ?_
  rintro e W1 ⟨rfl, b1⟩
  replace B := B.below b1
  replace hb := hb.trans (b1.mono (by have := B.lt; have := hb.size; omega))
  clear k0 k1 k2 k3 k4 k5 k6 k7 k8 k9 k10 k11 k12 k15 k16 k17 k18 k19 k20 k21
  clear b1
  have k0 := B.cell 0 _ rfl
  have k1 := B.cell 1 _ rfl
  have k2 := B.cell 2 _ rfl
  have k3 := B.cell 3 _ rfl
  have k4 := B.cell 4 _ rfl
  have k5 := B.cell 5 _ rfl
  have k6 := B.cell 6 _ rfl
  have k7 := B.cell 7 _ rfl
  have k8 := B.cell 8 _ rfl
  have k9 := B.cell 9 _ rfl
  have k10 := B.cell 10 _ rfl
  have k11 := B.cell 11 _ rfl
  have k12 := B.cell 12 _ rfl
  have k15 := B.cell 15 _ rfl
  have k16 := B.cell 16 _ rfl
  have k17 := B.cell 17 _ rfl
  have k18 := B.cell 18 _ rfl
  have k19 := B.cell 19 _ rfl
  have k20 := B.cell 20 _ rfl
  have k21 := B.cell 21 _ rfl
  by_cases hN : (0 ≤ c.qc ∧ c.qc ≤ 255) ∧ (0 ≤ c.qa ∧ c.qa ≤ 255) ∧ (0 ≤ c.qv ∧ c.qv ≤ 65535)
  case neg =>
    have hE := hid (show checkE c = 15 from if_neg fun h => hN ⟨h.2.2.2.2.2.2.1, h.2.2.2.2.2.2.2.1, h.2.2.2.2.2.2.2.2.1⟩)
    have hQ : mayQ c.qc c.qa c.qv = false := by
      unfold mayQ in1 in2
      rw [Bool.eq_false_iff]
      intro hh
      simp only [Bool.and_eq_true, decide_eq_true_eq] at hh
      exact hN (by omega)
    rw [hQ]
    clear hN hQ
    go_wp2_with fail
    go_ret
    exact ⟨by rw [hE.out]; rfl, by rw [hG]; exact hb⟩
  have hQ : mayQ c.qc c.qa c.qv = true := by
    unfold mayQ in1 in2
    simp only [Bool.and_eq_true, decide_eq_true_eq]
    omega
  rw [hQ]
  have Hqc := hid hN.1
  have Hqa := hid hN.2.1
  have Hqv := hid hN.2.2
  clear hN hQ
  go_wp2_with fail
  refine (refIn_any c.la (-3) (4) _).mono ?_
  rintro e W1 ⟨rfl, rfl⟩
  by_cases hN : -3 ≤ c.la ∧ c.la ≤ 4
  case neg =>
    have hE := hid (show checkE c = 15 from if_neg fun h => hN h.2.2.2.2.2.2.2.2.2.1)
    rw [decide_eq_false hN]
    clear hN
    go_wp2_with fail
    go_ret
    exact ⟨by rw [hE.out]; rfl, by rw [hG]; exact hb⟩
  rw [decide_eq_true hN]
  have Hla := hid hN
  clear hN
  go_wp2_with fail
  refine (refIn_any c.ls (-3) (4) _).mono ?_
  rintro e W1 ⟨rfl, rfl⟩
  by_cases hN : -3 ≤ c.ls ∧ c.ls ≤ 4
  case neg =>
    have hE := hid (show checkE c = 15 from if_neg fun h => hN h.2.2.2.2.2.2.2.2.2.2.1)
    rw [decide_eq_false hN]
    clear hN
    go_wp2_with fail
    go_ret
    exact ⟨by rw [hE.out]; rfl, by rw [hG]; exact hb⟩
  rw [decide_eq_true hN]
  have Hls := hid hN
  clear hN
  go_wp2_with fail
  refine (refIn_any c.ld (-3) (4) _).mono ?_
  rintro e W1 ⟨rfl, rfl⟩
  by_cases hN : -3 ≤ c.ld ∧ c.ld ≤ 4
  case neg =>
    have hE := hid (show checkE c = 15 from if_neg fun h => hN h.2.2.2.2.2.2.2.2.2.2.2.1)
    rw [decide_eq_false hN]
    clear hN
    go_wp2_with fail
    go_ret
    exact ⟨by rw [hE.out]; rfl, by rw [hG]; exact hb⟩
  rw [decide_eq_true hN]
  have Hld := hid hN
  clear hN
  go_wp2_with fail
  refine (refIn_any c.tm (2) (10) _).mono ?_
  rintro e W1 ⟨rfl, rfl⟩
  by_cases hN : 2 ≤ c.tm ∧ c.tm ≤ 10
  case neg =>
    have hE := hid (show checkE c = 15 from if_neg fun h => hN h.2.2.2.2.2.2.2.2.2.2.2.2.1)
    rw [decide_eq_false hN]
    clear hN
    go_wp2_with fail
    go_ret
    exact ⟨by rw [hE.out]; rfl, by rw [hG]; exact hb⟩
  rw [decide_eq_true hN]
  have Htm := hid hN
  clear hN
  go_wp2_with fail
  refine (refIn_any c.md (1) (15) _).mono ?_
  rintro e W1 ⟨rfl, rfl⟩
  by_cases hN : 1 ≤ c.md ∧ c.md ≤ 15
  case neg =>
    have hE := hid (show checkE c = 15 from if_neg fun h => hN h.2.2.2.2.2.2.2.2.2.2.2.2.2.1)
    rw [decide_eq_false hN]
    clear hN
    go_wp2_with fail
    go_ret
    exact ⟨by rw [hE.out]; rfl, by rw [hG]; exact hb⟩
  rw [decide_eq_true hN]
  have Hmd := hid hN
  clear hN
  go_wp2_with fail
  refine (refIn_any c.kp (0) (2000) _).mono ?_
  rintro e W1 ⟨rfl, rfl⟩
  by_cases hN : 0 ≤ c.kp ∧ c.kp ≤ 2000
  case neg =>
    have hE := hid (show checkE c = 15 from if_neg fun h => hN h.2.2.2.2.2.2.2.2.2.2.2.2.2.2.1)
    rw [decide_eq_false hN]
    clear hN
    go_wp2_with fail
    go_ret
    exact ⟨by rw [hE.out]; rfl, by rw [hG]; exact hb⟩
  rw [decide_eq_true hN]
  have Hkp := hid hN
  clear hN
  go_wp2_with fail
  refine (refIn_any c.ki (0) (2000) _).mono ?_
  rintro e W1 ⟨rfl, rfl⟩
  by_cases hN : 0 ≤ c.ki ∧ c.ki ≤ 2000
  case neg =>
    have hE := hid (show checkE c = 15 from if_neg fun h => hN h.2.2.2.2.2.2.2.2.2.2.2.2.2.2.2.1)
    rw [decide_eq_false hN]
    clear hN
    go_wp2_with fail
    go_ret
    exact ⟨by rw [hE.out]; rfl, by rw [hG]; exact hb⟩
  rw [decide_eq_true hN]
  have Hki := hid hN
  clear hN
  go_wp2_with fail
  refine (refIn_any c.st (0) (1000000000) _).mono ?_
  rintro e W1 ⟨rfl, rfl⟩
  by_cases hN : 0 ≤ c.st ∧ c.st ≤ 1000000000
  case neg =>
    have hE := hid (show checkE c = 15 from if_neg fun h => hN h.2.2.2.2.2.2.2.2.2.2.2.2.2.2.2.2.1)
    rw [decide_eq_false hN]
    clear hN
    go_wp2_with fail
    go_ret
    exact ⟨by rw [hE.out]; rfl, by rw [hG]; exact hb⟩
  rw [decide_eq_true hN]
  have Hst := hid hN
  clear hN
  go_wp2_with fail
  refine (refIn_any c.ut (-32768) (32767) _).mono ?_
  rintro e W1 ⟨rfl, rfl⟩
  by_cases hN : -32768 ≤ c.ut ∧ c.ut ≤ 32767
  case neg =>
    have hE := hid (show checkE c = 15 from if_neg fun h => hN h.2.2.2.2.2.2.2.2.2.2.2.2.2.2.2.2.2.1)
    rw [decide_eq_false hN]
    clear hN
    go_wp2_with fail
    go_ret
    exact ⟨by rw [hE.out]; rfl, by rw [hG]; exact hb⟩
  rw [decide_eq_true hN]
  have Hut := hid hN
  clear hN
  go_wp2_with fail
  refine (refIn_any c.fl (0) (63) _).mono ?_
  rintro e W1 ⟨rfl, rfl⟩
  by_cases hN : 0 ≤ c.fl ∧ c.fl ≤ 63
  case neg =>
    have hE := hid (show checkE c = 15 from if_neg fun h => hN h.2.2.2.2.2.2.2.2.2.2.2.2.2.2.2.2.2.2.1)
    rw [decide_eq_false hN]
    clear hN
    go_wp2_with fail
    go_ret
    exact ⟨by rw [hE.out]; rfl, by rw [hG]; exact hb⟩
  rw [decide_eq_true hN]
  have Hfl := hid hN
  clear hN
  go_wp2_with fail
  refine (refIn_any c.og (0) (255) _).mono ?_
  rintro e W1 ⟨rfl, rfl⟩
  by_cases hN : 0 ≤ c.og ∧ c.og ≤ 255
  case neg =>
    have hE := hid (show checkE c = 15 from if_neg fun h => hN h.2.2.2.2.2.2.2.2.2.2.2.2.2.2.2.2.2.2.2.1)
    rw [decide_eq_false hN]
    clear hN
    go_wp2_with fail
    go_ret
    exact ⟨by rw [hE.out]; rfl, by rw [hG]; exact hb⟩
  rw [decide_eq_true hN]
  have Hog := hid hN
  clear hN
  by_cases hN : c.cl ≠ 0
  case neg =>
    have hE := hid (show checkE c = 15 from if_neg fun h => hN h.1)
    have hz : (c.cl == 0) = true := beq_iff_eq.2 (Decidable.not_not.1 hN)
    clear hN
    go_wp2_with fail
    go_ret
    exact ⟨by rw [hE.out]; rfl, by rw [hG]; exact hb⟩
  have hz0 : (c.cl == 0) = false := beq_false_of_ne hN
  have Hcl0 := hid hN
  clear hN
  by_cases hN : c.cl ≠ 18446744073709551615
  case neg =>
    have hE := hid (show checkE c = 15 from if_neg fun h => hN h.2.1)
    have hz : (c.cl == 18446744073709551615) = true := beq_iff_eq.2 (Decidable.not_not.1 hN)
    clear hN
    go_wp2_with fail
    go_ret
    exact ⟨by rw [hE.out]; rfl, by rw [hG]; exact hb⟩
  have hz1 : (c.cl == 18446744073709551615) = false := beq_false_of_ne hN
  have Hclm := hid hN
  clear hN
  have OKK : (c.so = true → c.po = 1 ∧ c.qc = 255) → checkE c = 0 := fun hs => if_pos ⟨Hcl0.out, Hclm.out, Hpo.out, Hdm.out, Hp1.out, Hp2.out, Hqc.out, Hqa.out, Hqv.out, Hla.out, Hls.out, Hld.out, Htm.out, Hmd.out, Hkp.out, Hki.out, Hst.out, Hut.out, Hfl.out, Hog.out, hs⟩
  replace OKK := hid OKK
  cases hso : c.so
  case false =>
    rw [hso] at k8
    have hE := hid (OKK.out (by rw [hso]; intro h; cases h))
    clear OKK hso
    go_wp2_with fail
    go_ret
    exact ⟨by rw [hE.out]; rfl, by rw [hG]; exact hb⟩
  case true =>
    rw [hso] at k8
    by_cases h1 : c.po = 1
    case neg =>
      have hE := hid (show checkE c = 15 from if_neg fun h => h1 (h.2.2.2.2.2.2.2.2.2.2.2.2.2.2.2.2.2.2.2.2 hso).1)
      have hn : (c.po != 1) = true := bne_iff_ne.2 h1
      clear h1 OKK hso
      go_wp2_with fail
      go_ret
      exact ⟨by rw [hE.out]; rfl, by rw [hG]; exact hb⟩
    have hn1 : (c.po != 1) = false := by rw [h1]; rfl
    by_cases h2 : c.qc = 255
    case neg =>
      have hE := hid (show checkE c = 15 from if_neg fun h => h2 (h.2.2.2.2.2.2.2.2.2.2.2.2.2.2.2.2.2.2.2.2 hso).2)
      have hn : (c.qc != 255) = true := bne_iff_ne.2 h2
      clear h1 h2 OKK hso
      go_wp2_with fail
      go_ret
      exact ⟨by rw [hE.out]; rfl, by rw [hG]; exact hb⟩
    have hn2 : (c.qc != 255) = false := by rw [h2]; rfl
    have hE := hid (OKK.out fun _ => ⟨h1, h2⟩)
    clear h1 h2 OKK hso
    go_wp2_with fail
    go_ret
    exact ⟨by rw [hE.out]; rfl, by rw [hG]; exact hb⟩
end Go.Proofs.Ytgjffmhlehcoiaa
