/- The program's own of chapter 13: bestOf, All (gen_decown.py). -/
import Derived.Test.YtclpblhjfaodbaaDecOwn1
import Derived.Test.YtclpblhjfaodbaaVecLit
import Derived.Test.YtclpblhjfaodbaaInK
import Derived.Test.YtclpblhjfaodbaaRowKeep
namespace Go.Proofs.Ytclpblhjfaodbaa
open Go.RowKit Go.Proofs
set_option maxRecDepth 50000
set_option linter.unusedVariables false
set_option linter.unusedSimpArgs false

theorem ty_vi : 28 ≠ 3 := by decide
theorem ty_iv : 3 ≠ 28 := by decide

set_option maxRecDepth 100000 in
set_option maxHeartbeats 8000000 in
theorem bestOf_any (v : Value) (ps : List (Option Addr)) (os : List (Option Vc)) (w : World) (hR : poK.Reads w v ps) (hP : Pts w ps os) (h8 : os.length ≤ 8) (hin : ∀ a, some a ∈ os → VcIn a) :
    Calls Try.prog 16 #[v] w fun e w' => e = .returned (.int .i64 (bestO os os.length)) ∧ Below w.heap.size w w' := by
  obtain ⟨p, cap, rfl, hcap, hmax, hat⟩ := hR
  have HL := hid fun h => RowK.At.pos (K := poK) hat h
  have HP := hid hP
  have hlen := hid hP.1
  have HIN := hid hin
  have H8 := hid h8
  unfold maxLen at hmax
  clear hat hP hin h8
  obtain ⟨B0, hB0⟩ : ∃ B0, B0 = w.heap.size := ⟨_, rfl⟩
  have hbs0 : B0 ≤ w.heap.size := Nat.le_of_eq hB0
  have hb0 : Below B0 w w := Below.refl _ _
  rw [← hB0]
  have HB0 := hid hB0
  clear hB0
  have hV0 := RowK.Own.nil vecK 28 w B0
  have hI0 := RowK.Own.nil inK 3 w B0
  go_enter Try.func16, Try.ntmps16
  go_wp2_with fail
  go_loopw [3, 4, 10] (fun hv pv iv wr => ∃ n : Nat, n ≤ ps.length ∧ iv = .int .i64 (n : Int) ∧ vecK.Own 28 wr B0 hv (heardO os n) ∧ inK.Own 3 wr B0 pv (placeO os n) ∧ Below B0 w wr ∧ B0 ≤ wr.heap.size) (fun _ _ iv _ => ps.length - (intOf iv).toNat)
  case atStart => exact ⟨0, Nat.zero_le _, rfl, hV0, hI0, hb0, hbs0⟩
  case round =>
    obtain ⟨n, hn, rfl, oV, oI, hb, hbs⟩ := hrel
    clear hV0 hI0
    by_cases hlt : n < ps.length
    · have hnI : (n : Int) < (ps.length : Int) := by omega
      have hno : n < os.length := by have := hlen.out; omega
      obtain ⟨b, off, rfl, hbl, hrow⟩ := HL.out (by omega)
      have hcell : wr.cell? ⟨b, off + n, none⟩ = some (.pointer ps[n]) := by
        rw [hb.cell (p := ⟨b, off + n, none⟩) (by show b < B0; have := HB0.out; omega)]
        exact cell_one rfl hrow n hlt _ rfl
      have hpt : PAt w ps[n] os[n] := HP.out.2 n hlt hno
      have ho : oat os (n : Int) = os[n] := oat_get os n hno
      have hmem : os[n] ∈ os := List.getElem_mem hno
      have hhl := heardO_le os n
      have hpl := placeO_length os n
      have hlv : ((heardO os n).length + 1) * 88 ≤ 140737488355328 := by have := H8.out; omega
      have hlw : (heardO os n).length + 1 ≤ 140737488355328 := by have := H8.out; omega
      have hli : ((placeO os n).length + 1) * 8 ≤ 140737488355328 := by have := H8.out; omega
      have hlj : (placeO os n).length + 1 ≤ 140737488355328 := by have := H8.out; omega
      have hnn := hid (And.intro hlt hn)
      have hn8 : n < 8 := by have := H8.out; omega
      obtain ⟨q, hq⟩ : ∃ q, ps[n] = q := ⟨_, rfl⟩
      obtain ⟨o, hoe⟩ : ∃ o, os[n] = o := ⟨_, rfl⟩
      rw [hq] at hcell hpt
      rw [hoe] at hpt ho hmem
      clear hrow hhl hpl hq hoe hn hlt hcap hmax
      cases o with
      | none =>
        cases q with
        | some x => exact hpt.elim
        | none =>
          have HH := hid (heardO_none ho)
          have HQ := hid (placeO_none ho)
          clear ho hmem hpt hlv hlw hli hlj
          go_wp2_with fail
          go_roundw
          case rel => exact ⟨n + 1, hnn.out.1, by go_num, by rw [HH.out]; exact oV, by rw [HQ.out]; exact oI, hb, hbs⟩
          case measure => (have := hnn.out; simp [intOf] <;> omega)
      | some a =>
        cases q with
        | none => exact hpt.elim
        | some x =>
          obtain ⟨b2, off2, rfl, hbl2, hR2⟩ := hpt
          have HH := hid (heardO_some ho)
          have HQ := hid (placeO_some ho)
          have hR3 : wr.rangeAt b2 off2 (vcL a) := fun j u hj => by rw [hb.cell (p := ⟨b2, off2 + j, none⟩) (by show b2 < B0; have := HB0.out; omega)]; exact hR2 j u hj
          clear ho hmem hR2
          have z1 := bnew wr (Obj.cells (vcL a).toArray 28)
          have hlit := lit_vec a wr
          have r1 : vecK.Reads (wr.alloc (Obj.cells (vcL a).toArray 28)) (.slice (some ⟨wr.heap.size, 0, none⟩) 1 1) [a] := vecK.one_new wr a 28
          generalize wr.alloc (Obj.cells (vcL a).toArray 28) = W2 at *
          have oV1 := oV.below z1
          have oI1 := oI.below z1
          have hbs1 := Nat.le_trans hbs z1.size
          go_upto_region 8 with (first | (guard_target =~ wpList _ _ _ (⟨some 20, _, _, _, _, _⟩ :: _) _ _; refine wpList_load_mid (op := ⟨some 20, .load _ _, _, _, _, _⟩) (by rfl) _ _ (by rfl) b2 off2 (by rfl) (vcL a) _ hR3 Try.underlying28 rfl (by rw [info_vec, vcL_length]) ?_) | (guard_target =~ wpList _ _ _ (⟨some 21, _, _, _, _, _⟩ :: _) _ _; refine @wpList_lit _ _ ⟨some 21, .buildSlice 30 1 #[(0, .tmp 20)], _, _, _, _⟩ _ _ _ (by rfl) 30 1 _ (by rfl) #[(0, .agg (vcL a).toArray)] (by kernel_rfl) _ _ hlit ?_) | (guard_target =~ wpList _ _ _ (⟨some 22, _, _, _, _, _⟩ :: _) _ _; refine vecK.wpList_append_kept Try.underlying30 vec_info rfl (o := ⟨some 22, _, _, _, _, _⟩) rfl _ _ rfl rfl B0 _ _ (heardO os n) [a] rfl rfl oV1 r1 hlv hlw hbs1 ?_; intro vV w3 oV3 b3 k3))
          have oI3 := oI1.kept k3 ty_iv
          have hb3 := (hb.trans (z1.mono hbs)).trans b3
          have hbs3 := Nat.le_trans hbs1 b3.size
          clear z1 hlit r1 oV1 oI1 hbs1 b3 k3 hR3 oV oI hb hbs hcell
          have z4 := bnew w3 (Obj.cells (inK.enc (n : Int)).toArray 3)
          have hlit4 := lit_int (n : Int) w3
          have r5 : inK.Reads (w3.alloc (Obj.cells (inK.enc (n : Int)).toArray 3)) (.slice (some ⟨w3.heap.size, 0, none⟩) 1 1) [(n : Int)] := inK.one_new w3 (n : Int) 3
          generalize w3.alloc (Obj.cells (inK.enc (n : Int)).toArray 3) = W4 at *
          have oV5 := oV3.below z4
          have oI5 := oI3.below z4
          have hbs5 := Nat.le_trans hbs3 z4.size
          go_wp2_with (first | (guard_target =~ wpList _ _ _ (⟨some 25, _, _, _, _, _⟩ :: _) _ _; refine @wpList_lit _ _ ⟨some 25, .buildSlice 31 1 #[(0, .tmp 24)], _, _, _, _⟩ _ _ _ (by rfl) 31 1 _ (by rfl) #[(0, .int .i64 (n : Int))] (by kernel_rfl) _ _ hlit4 ?_) | (guard_target =~ wpList _ _ _ (⟨some 26, _, _, _, _, _⟩ :: _) _ _; refine inK.wpList_append_kept Try.underlying31 int_info rfl (o := ⟨some 26, _, _, _, _, _⟩) rfl _ _ rfl rfl B0 _ _ (placeO os n) [(n : Int)] rfl rfl oI5 r5 hli hlj hbs5 ?_; intro vI w6 oI6 b6 k6))
          have oV6 := oV5.kept k6 ty_vi
          have hb6 := (hb3.trans (z4.mono hbs3)).trans b6
          have hbs6 := Nat.le_trans hbs5 b6.size
          go_roundw
          case rel => exact ⟨n + 1, hnn.out.1, by go_num, by rw [HH.out]; exact oV6, by rw [HQ.out]; exact oI6, hb6, hbs6⟩
          case measure => (have := hnn.out; simp [intOf] <;> omega)
    · obtain rfl : n = ps.length := by omega
      rw [hlen.out] at oV oI
      have HBH := hid (bestO_heard os os.length)
      have hRd := oV.reads
      have HM := hid (fun a (ha : a ∈ heardO os os.length) => HIN.out a (heardO_mem ha))
      have hHl : (heardO os os.length).length ≤ 40 := by have := heardO_le os os.length; have := H8.out; omega
      have HF := hid fun (wx : World) (v9 : Value) (h : vecK.Reads wx v9 (heardO os os.length)) => ownBestS v9 (heardO os os.length) wx h hHl (fun a ha => (HM.out a ha).2.2.2.2.2.2.1)
      clear hlt hn hHl HL hcap hmax
      go_wp2_with fail
      refine (HF.out _ _ hRd).mono ?_
      rintro e w2 ⟨rfl, b2⟩
      have hb2 := hb.trans (b2.mono hbs)
      have oI2 := oI.below b2
      clear HF hRd oV oI b2 hb
      obtain ⟨BO, hBO⟩ : ∃ BO, BO = bestO os os.length := ⟨_, rfl⟩
      rcases HBH.out with ⟨h1, h2⟩ | ⟨K, hK, hKp, h1, h2, h3, h4⟩
      · have hg : bestG (heardO os os.length) (heardO os os.length).length = -1 := by rw [h1]; rfl
        have HX := hid h2
        rw [hg]
        clear hg h1 h2 HBH oI2 hBO
        go_wp2_with fail
        go_ret
        exact ⟨ret_int HX.out.symm, hb2⟩
      · rw [h1]
        obtain ⟨g, c1, hv1, hg0, hg1, hc1, hm1⟩ := oI2.form (by omega)
        obtain rfl := hv1
        have hcK := oI2.cell K 0 hKp (by decide) _ rfl
        rw [show K * inK.n + 0 = K by show K * 1 + 0 = K; omega, h2] at hcK
        have hKI : (K : Int) < ((placeO os os.length).length : Int) := by omega
        have hK0 : ¬ (K : Int) < 0 := by omega
        clear h1 h2 h3 h4 HBH oI2 hBO hK hKp hc1 hm1
        generalize (placeO os os.length).length = N1 at *
        go_wp2_with fail
        go_ret
        exact ⟨rfl, hb2⟩

end Go.Proofs.Ytclpblhjfaodbaa
