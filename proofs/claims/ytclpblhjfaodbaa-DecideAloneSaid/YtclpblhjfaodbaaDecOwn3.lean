/- The program's own of chapter 13: All, Text (gen_decown.py). -/
import Derived.Test.YtclpblhjfaodbaaDecOwn2
import Derived.Test.YtclpblhjfaodbaaDecLaws1
namespace Go.Proofs.Ytclpblhjfaodbaa
open Go.RowKit Go.Proofs
set_option maxRecDepth 50000
set_option linter.unusedVariables false
set_option linter.unusedSimpArgs false

theorem oat_in {os : List (Option Vc)} {i : Int} {a : Vc} (h : oat os i = some a) : some a ∈ os := by
  unfold oat at h
  rw [List.getD_eq_getElem?_getD] at h
  cases hg : os[i.toNat]? with
  | none => rw [hg] at h; cases h
  | some x => rw [hg] at h; obtain rfl : x = some a := h; exact List.mem_of_getElem? hg
theorem beq_dec (a b : Int) : (a == b) = decide (a = b) := rfl
theorem allD_step (d : Vc) (bs : List Bool) (os : List (Option Vc)) (j : Nat) (h : j < os.length) : (allD d bs os).take (j + 1) = (allD d bs os).take j ++ [oneD d (bs.getD j false) (topO os) (oat os (j : Int)) (decide ((j : Int) = bestO os os.length))] := by
  rw [take_snoc _ j (by rw [allD_length]; exact h), allD_get]
theorem Pts.take {w : World} {ps : List (Option Addr)} {os : List (Option Vc)} (h : Pts w ps os) (n : Nat) : Pts w (ps.take n) (os.take n) := by
  have h1 := h.1
  refine ⟨by rw [List.length_take, List.length_take, h1], fun i hi hi' => ?_⟩
  rw [List.getElem_take, List.getElem_take]
  exact h.2 i _ _
theorem RowK.Reads.cut {α : Type} {K : RowK α} {w : World} {p : Option Addr} {l : List α} {cap : Nat} (h : K.Reads w (.slice p l.length cap) l) (n : Nat) (hn : n ≤ l.length) : K.Reads w (.slice p n cap) (l.take n) := by
  obtain ⟨p', cap', he, h1, h2, h3⟩ := h
  cases he
  exact ⟨p, cap, by rw [List.length_take, Nat.min_eq_left hn], by rw [List.length_take]; omega, h2, h3.take n⟩

set_option maxRecDepth 100000 in
set_option maxHeartbeats 8000000 in
theorem ownAll : CAll := by
  intro d lv pv bs ps os w hdi hLr hR hP hos hin
  obtain ⟨pb, capb, rfl, hcapb, hmaxb, hatb⟩ := hLr
  obtain ⟨p, cap, rfl, hcap, hmax, hat⟩ := id hR
  have hd : I64 d.st := hdi.2.2.2.2.2.2.1
  obtain ⟨B0, hB0⟩ : ∃ B0, B0 = w.heap.size := ⟨_, rfl⟩
  have HBL := hid fun h => RowK.At.pos (K := boK) hatb h
  have HLo := hid fun h => RowK.At.pos (K := poK) hat h
  have HB0 := hid hB0
  have hbs0 : B0 ≤ w.heap.size := Nat.le_of_eq hB0
  have hB9 := Box.new w (vcL d) 28
  have hb9 : Below B0 w (w.alloc (Obj.cells (vcL d).toArray 28)) := by rw [hB0]; exact bnew w _
  have hbs9 : B0 ≤ (w.alloc (Obj.cells (vcL d).toArray 28)).heap.size := by rw [hB0]; exact (bnew w _).size
  have hZ9 := bnew w (Obj.cells (vcL d).toArray 28)
  have HR := hid hR
  have HP := hid hP
  have HINo := hid hin
  unfold maxLen at hmax hmaxb
  obtain ⟨OZ, hOZ⟩ : ∃ OZ, OZ = os.take 8 := ⟨_, rfl⟩
  rw [← hOZ]
  have HOZ := hid hOZ
  clear hat hatb hR hP hdi hin hB0 hOZ
  go_enter Try.func8, Try.ntmps8
  go_upto_region 1 with fail
  change Code.wp Try.prog _ _ _ (w.alloc (Obj.cells (vcL d).toArray 28))
  generalize w.alloc (Obj.cells (vcL d).toArray 28) = W at *
  obtain ⟨G, hG⟩ : ∃ G, G = w.heap.size := ⟨_, rfl⟩
  rw [← hG] at hB9
  rw [← hG]
  clear hG
  by_cases h8 : 8 < ps.length
  · have h8I : (8 : Int) < (ps.length : Int) := by omega
    have h8n : ¬ (ps.length : Int) ≤ 8 := by omega
    have h8c : (8 : Int) ≤ (cap : Int) := by omega
    obtain ⟨PS, hPSe⟩ : ∃ PS, PS = ps.take 8 := ⟨_, rfl⟩
    obtain ⟨OS, hOSe⟩ : ∃ OS, OS = os.take 8 := ⟨_, rfl⟩
    have hPL : PS.length = 8 := by rw [hPSe, List.length_take]; omega
    have HPO := hid (show OZ = OS from by rw [HOZ.out, hOSe])
    have hPS0 := hid (show Pts w PS OS from by rw [hPSe, hOSe]; exact HP.out.take 8)
    have hR0 : poK.Reads w (.slice p 8 cap) PS := by rw [hPSe]; exact HR.out.cut 8 (by omega)
    have HLL := hid fun (h : 0 < PS.length) => (show ∃ b off, p = some ⟨b, off, none⟩ ∧ b < B0 ∧ ∀ (wx : World), Below B0 w wx → ∀ i (h : i < PS.length), wx.cell? ⟨b, off + i, none⟩ = some (.pointer PS[i]) from by
      obtain ⟨p', cap', he, -, -, hat⟩ := hR0
      simp only [Value.slice.injEq] at he
      obtain ⟨rfl, -, -⟩ := he
      obtain ⟨b, off, he, hbl, hrow⟩ := RowK.At.pos (K := poK) hat h
      refine ⟨b, off, he, by rw [HB0.out]; exact hbl, fun wx hx i hi => ?_⟩
      rw [hx.cell (p := ⟨b, off + i, none⟩) (by show b < B0; rw [HB0.out]; exact hbl)]
      exact cell_one rfl hrow i hi _ rfl)
    have H8 : OS.length ≤ 8 := by rw [hOSe, List.length_take]; omega
    have HIN := hid fun a (ha : some a ∈ OS) => (show VcIn a from HINo.out a (List.mem_of_mem_take (by rw [← hOSe]; exact ha)))
    have hRS := hR0.below hZ9
    have hPS := hPS0.out.below hZ9
    have hB := hB9
    have hb := hb9
    have hbs := hbs9
    clear hR0 hB9 hb9 hbs9 hZ9
    have hN8 := hid (show (PS.length : Int) = 8 from by rw [hPL]; rfl)
    have hNp := hid h8
    clear h8 hPSe hOSe hPL HLo HINo HR
    go_wp2_with fail
    all_goals first
      | omega
      | skip
    refine (bestOf_any _ PS OS _ hRS hPS H8 HIN.out).mono ?_
    rintro e w2 ⟨rfl, b2⟩
    have hb2 := hb.trans (b2.mono hbs)
    have hbs2 := Nat.le_trans hbs b2.size
    have hB2 := hB.below b2
    have hPS2 := hPS.below b2
    obtain ⟨BO, hBO⟩ : ∃ BO, BO = bestO OS OS.length := ⟨_, rfl⟩
    rw [← hBO]
    have hrng := hid (bestO_range OS OS.length)
    rw [← hBO] at hrng
    have hTOP : topO OS = if BO < 0 then none else oat OS BO := by rw [hBO]; rfl
    have HBO := hid hBO
    have HTOP := hid hTOP
    have HL := hid fun (h : 0 < PS.length) => (show ∃ b off, p = some ⟨b, off, none⟩ ∧ b < B0 ∧ ∀ (wx : World), Below B0 w wx → ∀ i (h : i < PS.length), wx.cell? ⟨b, off + i, none⟩ = some (.pointer PS[i]) from HLL.out h)
    clear hTOP hBO hb hbs hB hPS hRS b2
    go_upto_if 22 with fail
    go_cut [9] (fun qv w' => w2 = w' ∧ ∃ qb, qv = .pointer qb ∧ PAt w qb (topO OS))
    case first =>
      rcases hrng.out with ⟨h1, h2⟩ | ⟨h1, h2, b, h3⟩
      · obtain rfl := h1
        clear HL
        go_wp2_with fail
        go_meet
        exact ⟨rfl, none, rfl, by rw [HTOP.out]; exact trivial⟩
      · obtain ⟨K, hK⟩ := Int.eq_ofNat_of_zero_le h1
        have hKl : K < OS.length := by omega
        have hKp : K < PS.length := by rw [hPS0.out.1]; exact hKl
        have hT := hid (HTOP.out.trans (if_neg (by omega)))
        subst hK
        have hKn : ¬ (K : Int) = -1 := by omega
        have hKb : ((K : Int) != -1) = true := by simp
        have hpt : PAt w PS[K] OS[K] := hPS0.out.2 K hKp hKl
        obtain ⟨bb, off, hpe, hbl, hrow⟩ := HL.out (by omega)
        subst hpe
        have hcell := hrow w2 hb2 K hKp
        obtain ⟨q, hq⟩ : ∃ q, PS[K] = q := ⟨_, rfl⟩
        obtain ⟨o, hoe⟩ : ∃ o, OS[K] = o := ⟨_, rfl⟩
        rw [hq] at hcell hpt
        rw [hoe] at hpt
        have hKI : (K : Int) < ((8 : Int) : Int) := by have := hN8.out; omega
        have hpt2 := hid hpt
        have hT2 := hid ((hT.out.trans (oat_get OS K hKl)).trans hoe)
        clear hrow hq hoe hpt h1 h2 h3 hKl hKp HL
        go_wp2_with fail
        go_meet
        exact ⟨rfl, q, rfl, by rw [hT2.out]; exact hpt2.out⟩
    case rest =>
      obtain ⟨rfl, qb, rfl, hQ0⟩ := hcut
      have QKEEP := hid fun (wx : World) (h : Below B0 w wx) => hQ0.below (by rw [HB0.out] at h; exact h)
      have hQB2 := QKEEP.out _ hb2
      obtain ⟨TO, hTO⟩ : ∃ TO, TO = topO OS := ⟨_, rfl⟩
      rw [← hTO] at hQB2 QKEEP
      have HTO := hid fun a (ha : TO = some a) => (show I64 a.st from by
        rw [hTO, HTOP.out] at ha
        split at ha
        · cases ha
        · exact (HIN.out a (oat_in ha)).2.2.2.2.2.2.1)
      have HTE := hid hTO
      have hI0 := RowK.Own.nil inK 3 w2 B0
      clear hrng HTOP hTO hQ0
      go_wp2_with fail
      go_loopw [10, 29] (fun av iv wr => ∃ n : Nat, n ≤ PS.length ∧ iv = .int .i64 (n : Int) ∧ inK.Own 3 wr B0 av ((allD d bs OS).take n) ∧ Below B0 w wr ∧ B0 ≤ wr.heap.size ∧ Box wr G (vcL d) 28 ∧ PAt wr qb TO) (fun _ iv _ => PS.length - (intOf iv).toNat)
      case atStart => exact ⟨0, Nat.zero_le _, rfl, hI0, hb2, hbs2, hB2, hQB2⟩
      case round =>
        clear hb2 hbs2 hB2 hQB2 hI0
        obtain ⟨n, hn, rfl, oI, hb, hbs, hB, hQB⟩ := hrel
        by_cases hlt : n < PS.length
        · have hnI : (n : Int) < ((8 : Int) : Int) := by have := hN8.out; omega
          have hn8 : n < 8 := by have := hPS0.out.1; have := H8; omega
          have hno : n < OS.length := by rw [← hPS0.out.1]; exact hlt
          obtain ⟨bb, off, hpe, hbl, hrow⟩ := HL.out (by omega)
          have hcell := hrow wr hb n hlt
          have hpt : PAt w PS[n] OS[n] := hPS0.out.2 n hlt hno
          have ho := oat_get OS n hno
          have hmem : OS[n] ∈ OS := List.getElem_mem hno
          have HST := hid (allD_step d bs OS n hno)
          rw [← HBO.out, ← HTE.out, ho] at HST
          obtain ⟨q, hq⟩ : ∃ q, PS[n] = q := ⟨_, rfl⟩
          obtain ⟨o, hoe⟩ : ∃ o, OS[n] = o := ⟨_, rfl⟩
          rw [hq] at hcell hpt
          rw [hoe] at hpt HST hmem
          replace hpt := hpt.below (by rw [HB0.out] at hb; exact hb)
          have hLT0 : ((allD d bs OS).take n).length ≤ 8 := by rw [List.length_take]; omega
          have hnn := hid (And.intro hlt hn)
          subst hpe
          clear hrow hq hoe hn hlt hno ho
          generalize (allD d bs OS).take n = LT at *
          have hLT := hid hLT0
          clear hLT0
          by_cases hlj : n < bs.length
          · have hljI : (n : Int) < (bs.length : Int) := by omega
            obtain ⟨bq, offq, hqe, hbq, hrowq⟩ := HBL.out (by omega)
            have hbc : wr.cell? ⟨bq, offq + n, none⟩ = some (.bool (bs.getD n false)) := by
              rw [hb.cell (p := ⟨bq, offq + n, none⟩) (by show bq < B0; have := HB0.out; omega)]
              exact bo_cell hrowq n hlj
            clear hrowq hlj
            subst hqe
            generalize bs.getD n false = lis at *
            have HONE := hid fun (wx : World) (h2 : PAt wx qb TO) (h3 : PAt wx q o) (he : Bool) => one_any d lis he TO o qb q wx hd h2 h3 HTO.out (fun a ha => (HIN.out a (by rw [← ha]; exact hmem)).2.2.2.2.2.2.1)
            clear hmem
            go_wp2_with (guard_target =~ wpList _ _ _ (⟨some 45, _, _, _, _, _⟩ :: _) _ _; refine wpList_load_vec (op := ⟨some 45, .load _ _, _, _, _, _⟩) (by rfl) _ (by rfl) G (by rfl) (d) _ hB ?_)
            refine (HONE.out _ hQB hpt _).mono ?_
            rintro e w3 ⟨rfl, b3⟩
            clear HONE
            rw [beq_dec]
            have hst := HST.out
            generalize oneD d lis TO o (decide ((n : Int) = BO)) = Z at *
            have hb3 := hb.trans (b3.mono hbs)
            have o3 := oI.below b3
            have hB3 := hB.below b3
            have hbs3 := Nat.le_trans hbs b3.size
            have hQB3 := hQB.below b3
            clear oI hb hbs hB hQB b3 hpt
            have z4 := bnew w3 (Obj.cells (inK.enc Z).toArray 3)
            have hlit4 := lit_int Z w3
            have r5 : inK.Reads (w3.alloc (Obj.cells (inK.enc Z).toArray 3)) (.slice (some ⟨w3.heap.size, 0, none⟩) 1 1) [Z] := inK.one_new w3 Z 3
            generalize w3.alloc (Obj.cells (inK.enc Z).toArray 3) = W4 at *
            have o5 := o3.below z4
            have hB5 := hB3.below z4
            have hQB5 := hQB3.below z4
            have hbs5 := Nat.le_trans hbs3 z4.size
            have hl1 : (LT.length + [Z].length) * 8 ≤ 140737488355328 := by have := hLT.out; rw [List.length_singleton]; omega
            have hl2 : LT.length + [Z].length ≤ 140737488355328 := by have := hLT.out; rw [List.length_singleton]; omega
            go_wp2_with (first | (guard_target =~ wpList _ _ _ (⟨some 53, _, _, _, _, _⟩ :: _) _ _; refine @wpList_lit _ _ ⟨some 53, .buildSlice 31 1 #[(0, .tmp 52)], _, _, _, _⟩ _ _ _ (by rfl) 31 1 _ (by rfl) #[(0, .int .i64 Z)] (by kernel_rfl) _ _ hlit4 ?_) | (guard_target =~ wpList _ _ _ (⟨some 54, _, _, _, _, _⟩ :: _) _ _; refine inK.wpList_append_kept Try.underlying31 int_info rfl (o := ⟨some 54, _, _, _, _, _⟩) rfl _ _ rfl rfl B0 _ _ LT [Z] rfl rfl o5 r5 hl1 hl2 hbs5 ?_; intro vI w6 o6 b6 k6))
            have hb6 := (hb3.trans (z4.mono hbs3)).trans b6
            have hbs6 := Nat.le_trans hbs5 b6.size
            have hB6 := hB5.kept k6 ty_vi
            have hQB6 := QKEEP.out _ hb6
            go_roundw
            case rel => exact ⟨n + 1, hnn.out.1, by go_num, by rw [hst]; exact o6, hb6, hbs6, hB6, hQB6⟩
            case measure => (have := hnn.out; simp [intOf] <;> omega)
          · have hljI : ¬ (n : Int) < (bs.length : Int) := by omega
            have hgd := getD_over bs n (by omega)
            rw [hgd] at HST
            clear hlj hgd
            have HONE := hid fun (wx : World) (h2 : PAt wx qb TO) (h3 : PAt wx q o) (he : Bool) => one_any d false he TO o qb q wx hd h2 h3 HTO.out (fun a ha => (HIN.out a (by rw [← ha]; exact hmem)).2.2.2.2.2.2.1)
            clear hmem
            go_wp2_with (guard_target =~ wpList _ _ _ (⟨some 45, _, _, _, _, _⟩ :: _) _ _; refine wpList_load_vec (op := ⟨some 45, .load _ _, _, _, _, _⟩) (by rfl) _ (by rfl) G (by rfl) (d) _ hB ?_)
            refine (HONE.out _ hQB hpt _).mono ?_
            rintro e w3 ⟨rfl, b3⟩
            clear HONE
            rw [beq_dec]
            have hst := HST.out
            generalize oneD d false TO o (decide ((n : Int) = BO)) = Z at *
            have hb3 := hb.trans (b3.mono hbs)
            have o3 := oI.below b3
            have hB3 := hB.below b3
            have hbs3 := Nat.le_trans hbs b3.size
            have hQB3 := hQB.below b3
            clear oI hb hbs hB hQB b3 hpt
            have z4 := bnew w3 (Obj.cells (inK.enc Z).toArray 3)
            have hlit4 := lit_int Z w3
            have r5 : inK.Reads (w3.alloc (Obj.cells (inK.enc Z).toArray 3)) (.slice (some ⟨w3.heap.size, 0, none⟩) 1 1) [Z] := inK.one_new w3 Z 3
            generalize w3.alloc (Obj.cells (inK.enc Z).toArray 3) = W4 at *
            have o5 := o3.below z4
            have hB5 := hB3.below z4
            have hQB5 := hQB3.below z4
            have hbs5 := Nat.le_trans hbs3 z4.size
            have hl1 : (LT.length + [Z].length) * 8 ≤ 140737488355328 := by have := hLT.out; rw [List.length_singleton]; omega
            have hl2 : LT.length + [Z].length ≤ 140737488355328 := by have := hLT.out; rw [List.length_singleton]; omega
            go_wp2_with (first | (guard_target =~ wpList _ _ _ (⟨some 53, _, _, _, _, _⟩ :: _) _ _; refine @wpList_lit _ _ ⟨some 53, .buildSlice 31 1 #[(0, .tmp 52)], _, _, _, _⟩ _ _ _ (by rfl) 31 1 _ (by rfl) #[(0, .int .i64 Z)] (by kernel_rfl) _ _ hlit4 ?_) | (guard_target =~ wpList _ _ _ (⟨some 54, _, _, _, _, _⟩ :: _) _ _; refine inK.wpList_append_kept Try.underlying31 int_info rfl (o := ⟨some 54, _, _, _, _, _⟩) rfl _ _ rfl rfl B0 _ _ LT [Z] rfl rfl o5 r5 hl1 hl2 hbs5 ?_; intro vI w6 o6 b6 k6))
            have hb6 := (hb3.trans (z4.mono hbs3)).trans b6
            have hbs6 := Nat.le_trans hbs5 b6.size
            have hB6 := hB5.kept k6 ty_vi
            have hQB6 := QKEEP.out _ hb6
            go_roundw
            case rel => exact ⟨n + 1, hnn.out.1, by go_num, by rw [hst]; exact o6, hb6, hbs6, hB6, hQB6⟩
            case measure => (have := hnn.out; simp [intOf] <;> omega)
        · obtain rfl : n = PS.length := by omega
          have hfull : (allD d bs OS).take PS.length = allD d bs OS := List.take_of_length_le (by rw [allD_length, hPS0.out.1]; exact Nat.le_refl _)
          rw [hfull] at oI
          have HR := hid oI.reads.intsK
          have HBO2 := hid HBO.out
          clear hlt hn HL oI hfull
          have hnI : ¬ (PS.length : Int) < 8 := by have := hN8.out; omega
          go_wp2_with fail
          go_ret2
          have e2 := HBO2.out.symm
          rw [← HPO.out] at e2
          have e3 := HR.out
          rw [← HPO.out] at e3
          rw [HB0.out] at hb
          rw [e2]
          exact ⟨_, rfl, e3, hb⟩
  · have h8I : ¬ (8 : Int) < (ps.length : Int) := by omega
    have h8n : (ps.length : Int) ≤ 8 := by omega
    have h8c : (ps.length : Int) ≤ (cap : Int) := by omega
    obtain ⟨PS, hPSe⟩ : ∃ PS, PS = ps := ⟨_, rfl⟩
    obtain ⟨OS, hOSe⟩ : ∃ OS, OS = os := ⟨_, rfl⟩
    have HPO := hid (show OZ = OS from by rw [HOZ.out, hOSe]; exact List.take_of_length_le (by have := HP.out.1; omega))
    have hPS0 := hid (show Pts w PS OS from by rw [hPSe, hOSe]; exact HP.out)
    have hR0 : poK.Reads w (.slice p PS.length cap) PS := by rw [hPSe]; exact HR.out
    have HLL := hid fun (h : 0 < PS.length) => (show ∃ b off, p = some ⟨b, off, none⟩ ∧ b < B0 ∧ ∀ (wx : World), Below B0 w wx → ∀ i (h : i < PS.length), wx.cell? ⟨b, off + i, none⟩ = some (.pointer PS[i]) from by
      obtain ⟨p', cap', he, -, -, hat⟩ := hR0
      simp only [Value.slice.injEq] at he
      obtain ⟨rfl, -, -⟩ := he
      obtain ⟨b, off, he, hbl, hrow⟩ := RowK.At.pos (K := poK) hat h
      refine ⟨b, off, he, by rw [HB0.out]; exact hbl, fun wx hx i hi => ?_⟩
      rw [hx.cell (p := ⟨b, off + i, none⟩) (by show b < B0; rw [HB0.out]; exact hbl)]
      exact cell_one rfl hrow i hi _ rfl)
    have H8 : OS.length ≤ 8 := by rw [hOSe]; have := HP.out.1; omega
    have HIN := hid fun a (ha : some a ∈ OS) => (show VcIn a from HINo.out a (by rw [← hOSe]; exact ha))
    have hRS := hR0.below hZ9
    have hPS := hPS0.out.below hZ9
    have hB := hB9
    have hb := hb9
    have hbs := hbs9
    clear hR0 hB9 hb9 hbs9 hZ9
    have hN8 := hid (show (PS.length : Int) ≤ 8 from by rw [hPSe]; exact h8n)
    rw [← hPSe] at h8I h8n h8c
    rw [← hPSe]
    clear h8 hPSe hOSe HLo HINo HR
    go_wp2_with fail
    all_goals first
      | omega
      | skip
    refine (bestOf_any _ PS OS _ hRS hPS H8 HIN.out).mono ?_
    rintro e w2 ⟨rfl, b2⟩
    have hb2 := hb.trans (b2.mono hbs)
    have hbs2 := Nat.le_trans hbs b2.size
    have hB2 := hB.below b2
    have hPS2 := hPS.below b2
    obtain ⟨BO, hBO⟩ : ∃ BO, BO = bestO OS OS.length := ⟨_, rfl⟩
    rw [← hBO]
    have hrng := hid (bestO_range OS OS.length)
    rw [← hBO] at hrng
    have hTOP : topO OS = if BO < 0 then none else oat OS BO := by rw [hBO]; rfl
    have HBO := hid hBO
    have HTOP := hid hTOP
    have HL := hid fun (h : 0 < PS.length) => (show ∃ b off, p = some ⟨b, off, none⟩ ∧ b < B0 ∧ ∀ (wx : World), Below B0 w wx → ∀ i (h : i < PS.length), wx.cell? ⟨b, off + i, none⟩ = some (.pointer PS[i]) from HLL.out h)
    clear hTOP hBO hb hbs hB hPS hRS b2
    go_upto_if 22 with fail
    go_cut [9] (fun qv w' => w2 = w' ∧ ∃ qb, qv = .pointer qb ∧ PAt w qb (topO OS))
    case first =>
      rcases hrng.out with ⟨h1, h2⟩ | ⟨h1, h2, b, h3⟩
      · obtain rfl := h1
        clear HL
        go_wp2_with fail
        go_meet
        exact ⟨rfl, none, rfl, by rw [HTOP.out]; exact trivial⟩
      · obtain ⟨K, hK⟩ := Int.eq_ofNat_of_zero_le h1
        have hKl : K < OS.length := by omega
        have hKp : K < PS.length := by rw [hPS0.out.1]; exact hKl
        have hT := hid (HTOP.out.trans (if_neg (by omega)))
        subst hK
        have hKn : ¬ (K : Int) = -1 := by omega
        have hKb : ((K : Int) != -1) = true := by simp
        have hpt : PAt w PS[K] OS[K] := hPS0.out.2 K hKp hKl
        obtain ⟨bb, off, hpe, hbl, hrow⟩ := HL.out (by omega)
        subst hpe
        have hcell := hrow w2 hb2 K hKp
        obtain ⟨q, hq⟩ : ∃ q, PS[K] = q := ⟨_, rfl⟩
        obtain ⟨o, hoe⟩ : ∃ o, OS[K] = o := ⟨_, rfl⟩
        rw [hq] at hcell hpt
        rw [hoe] at hpt
        have hKI : (K : Int) < (PS.length : Int) := by have := hN8.out; omega
        have hpt2 := hid hpt
        have hT2 := hid ((hT.out.trans (oat_get OS K hKl)).trans hoe)
        clear hrow hq hoe hpt h1 h2 h3 hKl hKp HL
        go_wp2_with fail
        go_meet
        exact ⟨rfl, q, rfl, by rw [hT2.out]; exact hpt2.out⟩
    case rest =>
      obtain ⟨rfl, qb, rfl, hQ0⟩ := hcut
      have QKEEP := hid fun (wx : World) (h : Below B0 w wx) => hQ0.below (by rw [HB0.out] at h; exact h)
      have hQB2 := QKEEP.out _ hb2
      obtain ⟨TO, hTO⟩ : ∃ TO, TO = topO OS := ⟨_, rfl⟩
      rw [← hTO] at hQB2 QKEEP
      have HTO := hid fun a (ha : TO = some a) => (show I64 a.st from by
        rw [hTO, HTOP.out] at ha
        split at ha
        · cases ha
        · exact (HIN.out a (oat_in ha)).2.2.2.2.2.2.1)
      have HTE := hid hTO
      have hI0 := RowK.Own.nil inK 3 w2 B0
      clear hrng HTOP hTO hQ0
      go_wp2_with fail
      go_loopw [10, 29] (fun av iv wr => ∃ n : Nat, n ≤ PS.length ∧ iv = .int .i64 (n : Int) ∧ inK.Own 3 wr B0 av ((allD d bs OS).take n) ∧ Below B0 w wr ∧ B0 ≤ wr.heap.size ∧ Box wr G (vcL d) 28 ∧ PAt wr qb TO) (fun _ iv _ => PS.length - (intOf iv).toNat)
      case atStart => exact ⟨0, Nat.zero_le _, rfl, hI0, hb2, hbs2, hB2, hQB2⟩
      case round =>
        clear hb2 hbs2 hB2 hQB2 hI0
        obtain ⟨n, hn, rfl, oI, hb, hbs, hB, hQB⟩ := hrel
        by_cases hlt : n < PS.length
        · have hnI : (n : Int) < (PS.length : Int) := by have := hN8.out; omega
          have hn8 : n < 8 := by have := hPS0.out.1; have := H8; omega
          have hno : n < OS.length := by rw [← hPS0.out.1]; exact hlt
          obtain ⟨bb, off, hpe, hbl, hrow⟩ := HL.out (by omega)
          have hcell := hrow wr hb n hlt
          have hpt : PAt w PS[n] OS[n] := hPS0.out.2 n hlt hno
          have ho := oat_get OS n hno
          have hmem : OS[n] ∈ OS := List.getElem_mem hno
          have HST := hid (allD_step d bs OS n hno)
          rw [← HBO.out, ← HTE.out, ho] at HST
          obtain ⟨q, hq⟩ : ∃ q, PS[n] = q := ⟨_, rfl⟩
          obtain ⟨o, hoe⟩ : ∃ o, OS[n] = o := ⟨_, rfl⟩
          rw [hq] at hcell hpt
          rw [hoe] at hpt HST hmem
          replace hpt := hpt.below (by rw [HB0.out] at hb; exact hb)
          have hLT0 : ((allD d bs OS).take n).length ≤ 8 := by rw [List.length_take]; omega
          have hnn := hid (And.intro hlt hn)
          subst hpe
          clear hrow hq hoe hn hlt hno ho
          generalize (allD d bs OS).take n = LT at *
          have hLT := hid hLT0
          clear hLT0
          by_cases hlj : n < bs.length
          · have hljI : (n : Int) < (bs.length : Int) := by omega
            obtain ⟨bq, offq, hqe, hbq, hrowq⟩ := HBL.out (by omega)
            have hbc : wr.cell? ⟨bq, offq + n, none⟩ = some (.bool (bs.getD n false)) := by
              rw [hb.cell (p := ⟨bq, offq + n, none⟩) (by show bq < B0; have := HB0.out; omega)]
              exact bo_cell hrowq n hlj
            clear hrowq hlj
            subst hqe
            generalize bs.getD n false = lis at *
            have HONE := hid fun (wx : World) (h2 : PAt wx qb TO) (h3 : PAt wx q o) (he : Bool) => one_any d lis he TO o qb q wx hd h2 h3 HTO.out (fun a ha => (HIN.out a (by rw [← ha]; exact hmem)).2.2.2.2.2.2.1)
            clear hmem
            go_wp2_with (guard_target =~ wpList _ _ _ (⟨some 45, _, _, _, _, _⟩ :: _) _ _; refine wpList_load_vec (op := ⟨some 45, .load _ _, _, _, _, _⟩) (by rfl) _ (by rfl) G (by rfl) (d) _ hB ?_)
            refine (HONE.out _ hQB hpt _).mono ?_
            rintro e w3 ⟨rfl, b3⟩
            clear HONE
            rw [beq_dec]
            have hst := HST.out
            generalize oneD d lis TO o (decide ((n : Int) = BO)) = Z at *
            have hb3 := hb.trans (b3.mono hbs)
            have o3 := oI.below b3
            have hB3 := hB.below b3
            have hbs3 := Nat.le_trans hbs b3.size
            have hQB3 := hQB.below b3
            clear oI hb hbs hB hQB b3 hpt
            have z4 := bnew w3 (Obj.cells (inK.enc Z).toArray 3)
            have hlit4 := lit_int Z w3
            have r5 : inK.Reads (w3.alloc (Obj.cells (inK.enc Z).toArray 3)) (.slice (some ⟨w3.heap.size, 0, none⟩) 1 1) [Z] := inK.one_new w3 Z 3
            generalize w3.alloc (Obj.cells (inK.enc Z).toArray 3) = W4 at *
            have o5 := o3.below z4
            have hB5 := hB3.below z4
            have hQB5 := hQB3.below z4
            have hbs5 := Nat.le_trans hbs3 z4.size
            have hl1 : (LT.length + [Z].length) * 8 ≤ 140737488355328 := by have := hLT.out; rw [List.length_singleton]; omega
            have hl2 : LT.length + [Z].length ≤ 140737488355328 := by have := hLT.out; rw [List.length_singleton]; omega
            go_wp2_with (first | (guard_target =~ wpList _ _ _ (⟨some 53, _, _, _, _, _⟩ :: _) _ _; refine @wpList_lit _ _ ⟨some 53, .buildSlice 31 1 #[(0, .tmp 52)], _, _, _, _⟩ _ _ _ (by rfl) 31 1 _ (by rfl) #[(0, .int .i64 Z)] (by kernel_rfl) _ _ hlit4 ?_) | (guard_target =~ wpList _ _ _ (⟨some 54, _, _, _, _, _⟩ :: _) _ _; refine inK.wpList_append_kept Try.underlying31 int_info rfl (o := ⟨some 54, _, _, _, _, _⟩) rfl _ _ rfl rfl B0 _ _ LT [Z] rfl rfl o5 r5 hl1 hl2 hbs5 ?_; intro vI w6 o6 b6 k6))
            have hb6 := (hb3.trans (z4.mono hbs3)).trans b6
            have hbs6 := Nat.le_trans hbs5 b6.size
            have hB6 := hB5.kept k6 ty_vi
            have hQB6 := QKEEP.out _ hb6
            go_roundw
            case rel => exact ⟨n + 1, hnn.out.1, by go_num, by rw [hst]; exact o6, hb6, hbs6, hB6, hQB6⟩
            case measure => (have := hnn.out; simp [intOf] <;> omega)
          · have hljI : ¬ (n : Int) < (bs.length : Int) := by omega
            have hgd := getD_over bs n (by omega)
            rw [hgd] at HST
            clear hlj hgd
            have HONE := hid fun (wx : World) (h2 : PAt wx qb TO) (h3 : PAt wx q o) (he : Bool) => one_any d false he TO o qb q wx hd h2 h3 HTO.out (fun a ha => (HIN.out a (by rw [← ha]; exact hmem)).2.2.2.2.2.2.1)
            clear hmem
            go_wp2_with (guard_target =~ wpList _ _ _ (⟨some 45, _, _, _, _, _⟩ :: _) _ _; refine wpList_load_vec (op := ⟨some 45, .load _ _, _, _, _, _⟩) (by rfl) _ (by rfl) G (by rfl) (d) _ hB ?_)
            refine (HONE.out _ hQB hpt _).mono ?_
            rintro e w3 ⟨rfl, b3⟩
            clear HONE
            rw [beq_dec]
            have hst := HST.out
            generalize oneD d false TO o (decide ((n : Int) = BO)) = Z at *
            have hb3 := hb.trans (b3.mono hbs)
            have o3 := oI.below b3
            have hB3 := hB.below b3
            have hbs3 := Nat.le_trans hbs b3.size
            have hQB3 := hQB.below b3
            clear oI hb hbs hB hQB b3 hpt
            have z4 := bnew w3 (Obj.cells (inK.enc Z).toArray 3)
            have hlit4 := lit_int Z w3
            have r5 : inK.Reads (w3.alloc (Obj.cells (inK.enc Z).toArray 3)) (.slice (some ⟨w3.heap.size, 0, none⟩) 1 1) [Z] := inK.one_new w3 Z 3
            generalize w3.alloc (Obj.cells (inK.enc Z).toArray 3) = W4 at *
            have o5 := o3.below z4
            have hB5 := hB3.below z4
            have hQB5 := hQB3.below z4
            have hbs5 := Nat.le_trans hbs3 z4.size
            have hl1 : (LT.length + [Z].length) * 8 ≤ 140737488355328 := by have := hLT.out; rw [List.length_singleton]; omega
            have hl2 : LT.length + [Z].length ≤ 140737488355328 := by have := hLT.out; rw [List.length_singleton]; omega
            go_wp2_with (first | (guard_target =~ wpList _ _ _ (⟨some 53, _, _, _, _, _⟩ :: _) _ _; refine @wpList_lit _ _ ⟨some 53, .buildSlice 31 1 #[(0, .tmp 52)], _, _, _, _⟩ _ _ _ (by rfl) 31 1 _ (by rfl) #[(0, .int .i64 Z)] (by kernel_rfl) _ _ hlit4 ?_) | (guard_target =~ wpList _ _ _ (⟨some 54, _, _, _, _, _⟩ :: _) _ _; refine inK.wpList_append_kept Try.underlying31 int_info rfl (o := ⟨some 54, _, _, _, _, _⟩) rfl _ _ rfl rfl B0 _ _ LT [Z] rfl rfl o5 r5 hl1 hl2 hbs5 ?_; intro vI w6 o6 b6 k6))
            have hb6 := (hb3.trans (z4.mono hbs3)).trans b6
            have hbs6 := Nat.le_trans hbs5 b6.size
            have hB6 := hB5.kept k6 ty_vi
            have hQB6 := QKEEP.out _ hb6
            go_roundw
            case rel => exact ⟨n + 1, hnn.out.1, by go_num, by rw [hst]; exact o6, hb6, hbs6, hB6, hQB6⟩
            case measure => (have := hnn.out; simp [intOf] <;> omega)
        · obtain rfl : n = PS.length := by omega
          have hfull : (allD d bs OS).take PS.length = allD d bs OS := List.take_of_length_le (by rw [allD_length, hPS0.out.1]; exact Nat.le_refl _)
          rw [hfull] at oI
          have HR := hid oI.reads.intsK
          have HBO2 := hid HBO.out
          clear hlt hn HL oI hfull
          go_wp2_with fail
          go_ret2
          have e2 := HBO2.out.symm
          rw [← HPO.out] at e2
          have e3 := HR.out
          rw [← HPO.out] at e3
          rw [HB0.out] at hb
          rw [e2]
          exact ⟨_, rfl, e3, hb⟩
end Go.Proofs.Ytclpblhjfaodbaa
