/- The walk of the law TlvBack (gen_tlvback.py). -/
import Derived.Test.YtdhdlpoopehmlaaTlvLaws5
import Derived.Test.YtdhdlpoopehmlaaTlvSay2
import Derived.Test.YtdhdlpoopehmlaaPlace
namespace Go.Proofs.Ytdhdlpoopehmlaa
open Go.RowKit Go.Proofs
set_option linter.unusedVariables false
set_option linter.unusedSimpArgs false

set_option maxRecDepth 100000 in
set_option maxHeartbeats 1600000 in
theorem tlvBack_no (v0 : Value) (b : List UInt8) {w : World} (v : Value) (l : List T2) (hT : Tlvs w v l) (hl : l.length * 24 ≤ 140737488351232) (vi : Value) (id' : Int) (x : List UInt8) (hx : x.length ≤ 140737488351232) (h : ¬ (fewB l = true ∧ x.length ≤ 300)) :
    Calls Try.prog 6 #[v0, v, vi, .int .i64 id', sv x] w fun e w' => e = .returned (.bool true) ∧ Below w.heap.size w w' := by
  have hfew := few_any v l w hT (by omega)
  obtain ⟨p, capT, rfl, -, -, -⟩ := hT
  cases hF : fewB l with
  | false =>
    rw [hF] at hfew
    clear h
    go_enter Try.func6, Try.ntmps6
    go_wp2_with fail
    refine hfew.mono ?_
    rintro e w1 ⟨rfl, rfl⟩
    go_wp2_with fail
    refine (awake08_any w).mono ?_
    rintro e w1 ⟨rfl, b1⟩
    go_wp2_with fail
    go_ret
    exact ⟨rfl, b1⟩
  | true =>
    have hx3 : 300 < x.length := by
      by_cases h3 : x.length ≤ 300
      · exact absurd ⟨hF, h3⟩ h
      · omega
    rw [hF] at hfew
    clear h hF
    go_enter Try.func6, Try.ntmps6
    go_wp2_with fail
    refine hfew.mono ?_
    rintro e w1 ⟨rfl, rfl⟩
    go_wp2_with fail
    refine (awake08_any w).mono ?_
    rintro e w1 ⟨rfl, b1⟩
    go_wp2_with fail
    go_ret
    exact ⟨rfl, b1⟩

set_option maxRecDepth 100000 in
set_option maxHeartbeats 8000000 in
theorem tlvBack_yes (v0 : Value) (b : List UInt8) {w : World} (hB : Bytes w v0 b) (hbl : b.length ≤ 140737488351232) (v : Value) (l : List T2) (hT : Tlvs w v l) (hl : l.length * 24 ≤ 140737488351232) (vi : Value) (zs : List Int) (hI : Ids w vi zs)
    (hzl : zs.length * 8 ≤ 140737488351232) (hz : ∀ z ∈ zs, 0 ≤ z ∧ z < 18446744073709551616) (id' : Int) (x : List UInt8) (hF : fewB l = true) (h300 : x.length ≤ 300) :
    Calls Try.prog 6 #[v0, v, vi, .int .i64 id', sv x] w fun e w' => e = .returned (.bool true) ∧ Below w.heap.size w w' := by
  have hfew := few_any v l w hT (by omega)
  have HT := hid fun (wx : World) (h : Below w.heap.size w wx) => hT.below h
  have HB := hid fun (wx : World) (h : Below w.heap.size w wx) => hB.below h
  obtain ⟨p, capT, rfl, -, -, -⟩ := hT
  obtain ⟨p0, cap0, rfl, -, -, -⟩ := id hB
  have HL := hid hl
  have HBL := hid hbl
  rw [hF] at hfew
  have hsz : ∀ q ∈ l, q.2.length ≤ 140737488355328 := fun q hq => by
    obtain ⟨k, hk, rfl⟩ := List.getElem_of_mem hq
    have := few_at hF k hk
    omega
  have HPUT := hid fun (p : Option Addr) (cap : Nat) (v : Value) (w : World) (hB : Bytes w (.slice p b.length cap) b) (hT : Tlvs w v l) => putT_any p b cap v l w hB HBL.out hT (by have := HL.out; omega) hsz
  have PT := hid (@putT_true l)
  have PB := hid (@getT_behind b l)
  clear hl hF hsz hB
  -- the identities that are handed on
  obtain ⟨pi, ci, rfl, hci, hmi, hai⟩ := hI
  unfold maxLen at hmi
  -- the number
  obtain ⟨K, hK⟩ : ∃ K : Nat, id' % 65536 = (K : Int) := ⟨(id' % 65536).toNat, by omega⟩
  have hK2 : K ≤ 65535 := by omega
  have HK := hid hK
  clear hK
  -- the management
  obtain ⟨ML, hML⟩ : ∃ ML, putN K 2 ++ (x ++ fillM x) = ML := ⟨_, rfl⟩
  obtain ⟨SF, hSF⟩ : ∃ SF, x ++ fillM x = SF := ⟨_, rfl⟩
  have m1 := manageT_made K x (by omega) (by omega) (by omega)
  have m2 := manageOfT_made K x (by omega) (by omega)
  have m3 := checkT_made K x (by omega)
  have m4 := knownT_made K x
  have hMl : (putN K 2 ++ (x ++ fillM x)).length ≤ 400 := by
    have := fillM_even x
    rw [List.length_append, putN_length]
    omega
  rw [Int.toNat_natCast] at m1 m2 m3 m4
  rw [hSF] at hML m1 m2 m3 m4 hMl
  rw [hML] at m1 m2 m3 m4 hMl
  have HMAN := hid fun (w : World) => (show Calls Try.prog 28 #[.int .i64 (K : Int), sv x] w fun r w' => r = .returned (.tuple #[tlvV (1, ML), .bool true]) ∧ Below w.heap.size w w' by
    have h := manageT_any K x w (by omega)
    rw [m1] at h
    exact h)
  have HMANOF := hid fun (w : World) => (show Calls Try.prog 34 #[tlvV (1, ML)] w fun e w' => e = .returned (.tuple #[.int .i64 (K : Int), sv SF, .bool true]) ∧ Below w.heap.size w w' by
    have h := manageOfT_any 1 ML w (by omega)
    rw [m2] at h
    exact h)
  have HCHK := hid fun (w : World) => (show Calls Try.prog 15 #[tlvV (1, ML)] w fun e w' => e = .returned (.bool true) ∧ Below w.heap.size w w' by
    have h := checkT_any 1 ML w (by omega)
    rw [m3] at h
    exact h)
  have HKNW := hid fun (w : World) => (show Calls Try.prog 17 #[tlvV (1, ML)] w fun e w' => e = .returned (.bool true) ∧ Below w.heap.size w w' by
    have h := knownT_any 1 ML w (by omega)
    rw [m4] at h
    exact h)
  have HSF := hid (show (x.length % 2 = 0 → x = SF) ∧ (¬ x.length % 2 = 0 → SF = x ++ [0]) by
    rw [← hSF]
    unfold fillM
    exact ⟨fun h => by rw [if_pos h, List.append_nil], fun h => by rw [if_neg h]⟩)
  -- the error
  obtain ⟨FL, hFl, f1, f2⟩ := faultOfT_made K (by omega) (by omega)
  have HFLT := hid fun (w : World) => (show Calls Try.prog 30 #[.int .i64 (K : Int), .int .i64 7] w fun r w' => r = .returned (.tuple #[tlvV (2, FL), .bool true]) ∧ Below w.heap.size w w' by
    have h := faultT_any K 7 w
    rw [f1] at h
    exact h)
  have HFLTOF := hid fun (w : World) => (show Calls Try.prog 36 #[tlvV (2, FL)] w fun e w' => e = .returned (.tuple #[.int .i64 (K : Int), .int .i64 7, .bool true]) ∧ Below w.heap.size w w' by
    have h := faultOfT_any 2 FL w (by omega)
    rw [f2, Int.toNat_natCast] at h
    exact h)
  have H300 := hid h300
  clear m1 m2 m3 m4 hMl hML hSF hFl f1 f2 hbl
  -- the path
  obtain ⟨zn, vn, hvn, hz16, hzz, hin⟩ : ∃ (zn : List Int) (vn : Value), ((zs.length ≤ 16 ∧ vn = .slice pi zs.length ci) ∨ (16 < zs.length ∧ ∃ bi oi, pi = some ⟨bi, oi, none⟩ ∧ vn = .slice (some ⟨bi, oi, none⟩) 16 ci)) ∧ zn.length ≤ 16 ∧ (∀ z ∈ zn, 0 ≤ z ∧ z < 18446744073709551616) ∧ Ids w vn zn := by
    by_cases h : zs.length ≤ 16
    · exact ⟨zs, _, .inl ⟨h, rfl⟩, h, hz, ⟨pi, ci, rfl, hci, by unfold maxLen; omega, hai⟩⟩
    · have hai2 := hai
      obtain ⟨bi, oi, rfl, -, -⟩ := hai2.pos (by omega)
      exact ⟨zs.take 16, _, .inr ⟨by omega, bi, oi, rfl, rfl⟩, by rw [List.length_take]; omega, fun z h => hz z (List.mem_of_mem_take h),
        ⟨some ⟨bi, oi, none⟩, ci, by rw [List.length_take, Nat.min_eq_left (by omega)], by rw [List.length_take]; omega, by unfold maxLen; omega, hai.take 16⟩⟩
  have hp1 := pathT_made zn hz16
  have hp2 := pathOfT_made zn hz16 hzz
  have hPl := flatI_length zn
  generalize flatI zn = PF at *
  have HN := hid hz16
  have HIN := hid fun (wx : World) (h : Below w.heap.size w wx) => hin.below h
  have HPATH := hid fun (v : Value) (w : World) (hB : Ids w v zn) => (show Calls Try.prog 25 #[v] w fun r w' => r = .returned (.tuple #[tlvV (8, PF), .bool true]) ∧ Below w.heap.size w w' by
    have h := pathT_any v zn w hB (by omega) hzz
    rw [hp1] at h
    exact h)
  have HPATHOF := hid fun (w : World) => (show Calls Try.prog 32 #[tlvV (8, PF)] w fun e w' => ∃ v', e = .returned (.tuple #[v', .bool true]) ∧ OwnI w' w.heap.size v' zn ∧ Below w.heap.size w w' by
    have h := pathOfT_any 8 PF w (by omega)
    rw [hp2] at h
    exact h)
  clear hp1 hp2 hPl hz16 hzz hin hz hai h300 hK2
  rcases hvn with ⟨h16, rfl⟩ | ⟨h16, bi, oi, rfl, rfl⟩
  · skip
    go_enter Try.func6, Try.ntmps6
    have h3 := H300.out
    go_wp2_with fail
    refine hfew.mono ?_
    rintro e w1 ⟨rfl, rfl⟩
    clear hfew
    go_wp2_with fail
    refine (bytes00_any _ b w (HB.out _ (Below.refl _ _)) (by have := HBL.out; omega)).mono ?_
    rintro e w2 ⟨v2, rfl, o2, b2⟩
    have o2 := o2.bytes
    obtain ⟨p2, c2, rfl, -, -, -⟩ := id o2
    clear h3
    go_wp2_with fail
    refine (HPUT.out p2 c2 _ w2 o2 (HT.out _ b2)).mono ?_
    rintro e w3 ⟨v3, rfl, o3, b3⟩
    have hb := bnext b2 b3
    replace o3 := o3.bytes
    clear b2 b3 o2
    have PTo := PT.out
    have HSH : Hid ((putT l).1.length ≤ 3232) := hid (putT_short l)
    generalize putT l = F at *
    obtain ⟨FS, FB⟩ := F
    have HSH : Hid (FS.length ≤ 3232) := HSH
    cases FB with
    | true =>
      obtain ⟨h8, hA, hf⟩ := PTo rfl
      have hf : FS = flatT l := hf
      have hg := PB.out h8 hA
      rw [← hf] at hg
      have hBl : (b ++ FS).length = b.length + FS.length := List.length_append
      obtain ⟨BF, hBF⟩ : ∃ BF, b ++ FS = BF := ⟨_, rfl⟩
      rw [hBF] at hg o3 hBl
      have HG := hid hg
      have HBF := hid hBl
      obtain ⟨p3, c3, rfl, -, -, -⟩ := id o3
      clear PTo hA hf hg hBF hBl
      go_wp2_with fail
      refine (getT_any _ BF b.length w3 o3 (by have := HBL.out; have := HSH.out; rw [HBF.out]; omega) (by have := HBL.out; omega)).mono ?_
      rintro e w4 ⟨v4, rfl, o4, b4⟩
      rw [HG.out] at o4 ⊢
      replace hb := bnext hb b4
      obtain ⟨p4, c4, rfl, -, -, -⟩ := id o4.tlvs
      clear o3
      go_wp2_with fail
      refine (sameTlvs_any _ _ l l w4 o4.tlvs (HT.out _ hb) (by have := HL.out; omega) (by have := HL.out; omega)).mono ?_
      rintro e w5 ⟨rfl, b5⟩
      rw [beq_self_eq_true]
      replace hb := bnext hb b5
      clear o4 b4 b5
      go_wp2_with fail
      refine (ids00_any _ zn _ (HIN.out _ hb) (by have := HN.out; omega)).mono ?_
      rintro e u1 ⟨r1, rfl, q1, d1⟩
      replace hb := bnext hb d1
      go_wp2_with fail
      refine (HPATH.out r1 u1 q1.ids).mono ?_
      rintro e u2 ⟨rfl, d2⟩
      replace hb := bnext hb d2
      clear q1 d1 d2
      have N := Box.new u2 [.int .i64 0, .string ⟨#[]⟩] 32
      have nb := bnew u2 (Obj.cells #[.int .i64 0, .string ⟨#[]⟩] 32)
      go_upto_region 12 with (guard_target =~ wpList _ _ _ (⟨none, _, _, _, _, _⟩ :: _) _ _; refine wpList_store_tlv (op := ⟨none, .store _ _ _, _, _, _, _⟩) (by rfl) _ _ (by rfl) u2.heap.size (8, PF) (tL (0, [])) _ (by rfl) (by rfl) N rfl ?_; have A := N.rowT (tL (8, PF)); replace nb := below_setRow nb (Nat.le_refl _) (tL (8, PF)).toArray; generalize World.setRow _ _ _ = u3 at *; generalize hgA : u2.heap.size = gA at *)
      have nc : Below u2.heap.size u2 u3 := by rw [hgA]; exact nb
      replace hb := bnext hb nc
      clear N nb nc
      have yA := A.cell 0 _ rfl
      have zA := A.cell 1 _ rfl
      go_wp2_with fail
      refine (HPATHOF.out u3).mono ?_
      rintro e u4 ⟨r4, rfl, q4, d4⟩
      replace hb := bnext hb d4
      obtain ⟨p4, c4, rfl, -, -, -⟩ := id q4.ids
      clear yA zA A hgA d4
      go_wp2_with fail
      refine (place_any id' 65536 u4 (by decide) (by decide)).mono ?_
      rintro e u5 ⟨rfl, rfl⟩
      rw [HK.out]
      go_wp2_with fail
      refine (HMAN.out u4).mono ?_
      rintro e u6 ⟨rfl, d6⟩
      replace hb := bnext hb d6
      replace q4 := q4.below d6
      clear d6
      have N := Box.new u6 [.int .i64 0, .string ⟨#[]⟩] 32
      have nb := bnew u6 (Obj.cells #[.int .i64 0, .string ⟨#[]⟩] 32)
      go_upto_region 15 with (guard_target =~ wpList _ _ _ (⟨none, _, _, _, _, _⟩ :: _) _ _; refine wpList_store_tlv (op := ⟨none, .store _ _ _, _, _, _, _⟩) (by rfl) _ _ (by rfl) u6.heap.size (1, ML) (tL (0, [])) _ (by rfl) (by rfl) N rfl ?_; have M := N.rowT (tL (1, ML)); replace nb := below_setRow nb (Nat.le_refl _) (tL (1, ML)).toArray; generalize World.setRow _ _ _ = u7 at *; generalize hgM : u6.heap.size = gM at *)
      have nc : Below u6.heap.size u6 u7 := by rw [hgM]; exact nb
      replace hb := bnext hb nc
      replace q4 := q4.below nc
      clear N nb nc
      have yM := M.cell 0 _ rfl
      have zM := M.cell 1 _ rfl
      go_wp2_with fail
      refine (HMANOF.out u7).mono ?_
      rintro e u8 ⟨rfl, d8⟩
      replace hb := bnext hb d8
      replace q4 := q4.below d8
      replace M := M.below d8
      clear yM zM d8
      go_wp2_with fail
      refine (HFLT.out u8).mono ?_
      rintro e u9 ⟨rfl, d9⟩
      replace hb := bnext hb d9
      replace q4 := q4.below d9
      replace M := M.below d9
      clear d9
      have N := Box.new u9 [.int .i64 0, .string ⟨#[]⟩] 32
      have nb := bnew u9 (Obj.cells #[.int .i64 0, .string ⟨#[]⟩] 32)
      go_upto_region 17 with (guard_target =~ wpList _ _ _ (⟨none, _, _, _, _, _⟩ :: _) _ _; refine wpList_store_tlv (op := ⟨none, .store _ _ _, _, _, _, _⟩) (by rfl) _ _ (by rfl) u9.heap.size (2, FL) (tL (0, [])) _ (by rfl) (by rfl) N rfl ?_; have E := N.rowT (tL (2, FL)); replace nb := below_setRow nb (Nat.le_refl _) (tL (2, FL)).toArray; generalize World.setRow _ _ _ = u10 at *; generalize hgE : u9.heap.size = gE at *)
      have nc : Below u9.heap.size u9 u10 := by rw [hgE]; exact nb
      replace hb := bnext hb nc
      replace q4 := q4.below nc
      replace M := M.below nc
      clear N nb nc
      have yE := E.cell 0 _ rfl
      have zE := E.cell 1 _ rfl
      go_wp2_with fail
      refine (HFLTOF.out u10).mono ?_
      rintro e u11 ⟨rfl, d11⟩
      replace hb := bnext hb d11
      replace q4 := q4.below d11
      replace M := M.below d11
      clear yE zE E d11 hgE
      have hKK : ((K : Int) == (K : Int)) = true := beq_self_eq_true _
      go_wp2_with fail
      refine (sameIds_any _ _ zn zn u11 q4.ids (HIN.out _ hb) (by have := HN.out; omega) (by have := HN.out; omega)).mono ?_
      rintro e u12 ⟨rfl, d12⟩
      rw [beq_self_eq_true]
      replace hb := bnext hb d12
      replace M := M.below d12
      have yM := M.cell 0 _ rfl
      have zM := M.cell 1 _ rfl
      clear q4 d12
      go_upto_region 20 with fail
      by_cases hev : x.length % 2 = 0
      · have hs := (HSF.out.1 hev)
        subst hs
        have hE1 : ((⟨x.toArray⟩ : ByteArray) == ⟨x.toArray⟩) = true := by rw [ByteArray_eq]; exact beq_self_eq_true _
        go_wp2_with fail
        refine (HCHK.out u12).mono ?_
        rintro e u13 ⟨rfl, d13⟩
        replace hb := bnext hb d13
        replace M := M.below d13
        clear yM zM
        have yM := M.cell 0 _ rfl
        have zM := M.cell 1 _ rfl
        go_wp2_with fail
        refine (HKNW.out u13).mono ?_
        rintro e u14 ⟨rfl, d14⟩
        replace hb := bnext hb d14
        go_wp2_with fail
        refine (awake08_any _).mono ?_
        rintro e u15 ⟨rfl, d15⟩
        go_wp2_with fail
        go_ret
        exact ⟨rfl, bnext hb d15⟩
      · have hs := (HSF.out.2 hev)
        have he := even_tmod x.length
        have hod : x.length % 2 = 1 := by omega
        rw [hod] at he
        have hE1 : ((⟨SF.toArray⟩ : ByteArray) == ⟨x.toArray⟩) = false := by
          rw [ByteArray_eq, hs]
          exact beq_false_of_ne fun e => by have := congrArg List.length e; simp at this
        have hne : ¬ SF = x := by
          rw [hs]
          intro e
          have := congrArg List.length e
          simp at this
        have hcat : (⟨x.toArray⟩ : ByteArray) ++ ⟨#[0]⟩ = ⟨SF.toArray⟩ := by rw [hs]; exact cat_bytes x [0]
        have hE2 : ((⟨SF.toArray⟩ : ByteArray) == ⟨SF.toArray⟩) = true := by rw [ByteArray_eq]; exact beq_self_eq_true _
        have hsz : ¬ 9223372036854775807 < x.length + 1 := by have := H300.out; omega
        clear hs hod hev
        go_wp2_with fail
        refine (HCHK.out u12).mono ?_
        rintro e u13 ⟨rfl, d13⟩
        replace hb := bnext hb d13
        replace M := M.below d13
        clear yM zM
        have yM := M.cell 0 _ rfl
        have zM := M.cell 1 _ rfl
        go_wp2_with fail
        refine (HKNW.out u13).mono ?_
        rintro e u14 ⟨rfl, d14⟩
        replace hb := bnext hb d14
        go_wp2_with fail
        refine (awake08_any _).mono ?_
        rintro e u15 ⟨rfl, d15⟩
        go_wp2_with fail
        go_ret
        exact ⟨rfl, bnext hb d15⟩
    | false =>
      clear PTo o3
      go_wp2_with fail
      refine (ids00_any _ zn _ (HIN.out _ hb) (by have := HN.out; omega)).mono ?_
      rintro e u1 ⟨r1, rfl, q1, d1⟩
      replace hb := bnext hb d1
      go_wp2_with fail
      refine (HPATH.out r1 u1 q1.ids).mono ?_
      rintro e u2 ⟨rfl, d2⟩
      replace hb := bnext hb d2
      clear q1 d1 d2
      have N := Box.new u2 [.int .i64 0, .string ⟨#[]⟩] 32
      have nb := bnew u2 (Obj.cells #[.int .i64 0, .string ⟨#[]⟩] 32)
      go_upto_region 12 with (guard_target =~ wpList _ _ _ (⟨none, _, _, _, _, _⟩ :: _) _ _; refine wpList_store_tlv (op := ⟨none, .store _ _ _, _, _, _, _⟩) (by rfl) _ _ (by rfl) u2.heap.size (8, PF) (tL (0, [])) _ (by rfl) (by rfl) N rfl ?_; have A := N.rowT (tL (8, PF)); replace nb := below_setRow nb (Nat.le_refl _) (tL (8, PF)).toArray; generalize World.setRow _ _ _ = u3 at *; generalize hgA : u2.heap.size = gA at *)
      have nc : Below u2.heap.size u2 u3 := by rw [hgA]; exact nb
      replace hb := bnext hb nc
      clear N nb nc
      have yA := A.cell 0 _ rfl
      have zA := A.cell 1 _ rfl
      go_wp2_with fail
      refine (HPATHOF.out u3).mono ?_
      rintro e u4 ⟨r4, rfl, q4, d4⟩
      replace hb := bnext hb d4
      obtain ⟨p4, c4, rfl, -, -, -⟩ := id q4.ids
      clear yA zA A hgA d4
      go_wp2_with fail
      refine (place_any id' 65536 u4 (by decide) (by decide)).mono ?_
      rintro e u5 ⟨rfl, rfl⟩
      rw [HK.out]
      go_wp2_with fail
      refine (HMAN.out u4).mono ?_
      rintro e u6 ⟨rfl, d6⟩
      replace hb := bnext hb d6
      replace q4 := q4.below d6
      clear d6
      have N := Box.new u6 [.int .i64 0, .string ⟨#[]⟩] 32
      have nb := bnew u6 (Obj.cells #[.int .i64 0, .string ⟨#[]⟩] 32)
      go_upto_region 15 with (guard_target =~ wpList _ _ _ (⟨none, _, _, _, _, _⟩ :: _) _ _; refine wpList_store_tlv (op := ⟨none, .store _ _ _, _, _, _, _⟩) (by rfl) _ _ (by rfl) u6.heap.size (1, ML) (tL (0, [])) _ (by rfl) (by rfl) N rfl ?_; have M := N.rowT (tL (1, ML)); replace nb := below_setRow nb (Nat.le_refl _) (tL (1, ML)).toArray; generalize World.setRow _ _ _ = u7 at *; generalize hgM : u6.heap.size = gM at *)
      have nc : Below u6.heap.size u6 u7 := by rw [hgM]; exact nb
      replace hb := bnext hb nc
      replace q4 := q4.below nc
      clear N nb nc
      have yM := M.cell 0 _ rfl
      have zM := M.cell 1 _ rfl
      go_wp2_with fail
      refine (HMANOF.out u7).mono ?_
      rintro e u8 ⟨rfl, d8⟩
      replace hb := bnext hb d8
      replace q4 := q4.below d8
      replace M := M.below d8
      clear yM zM d8
      go_wp2_with fail
      refine (HFLT.out u8).mono ?_
      rintro e u9 ⟨rfl, d9⟩
      replace hb := bnext hb d9
      replace q4 := q4.below d9
      replace M := M.below d9
      clear d9
      have N := Box.new u9 [.int .i64 0, .string ⟨#[]⟩] 32
      have nb := bnew u9 (Obj.cells #[.int .i64 0, .string ⟨#[]⟩] 32)
      go_upto_region 17 with (guard_target =~ wpList _ _ _ (⟨none, _, _, _, _, _⟩ :: _) _ _; refine wpList_store_tlv (op := ⟨none, .store _ _ _, _, _, _, _⟩) (by rfl) _ _ (by rfl) u9.heap.size (2, FL) (tL (0, [])) _ (by rfl) (by rfl) N rfl ?_; have E := N.rowT (tL (2, FL)); replace nb := below_setRow nb (Nat.le_refl _) (tL (2, FL)).toArray; generalize World.setRow _ _ _ = u10 at *; generalize hgE : u9.heap.size = gE at *)
      have nc : Below u9.heap.size u9 u10 := by rw [hgE]; exact nb
      replace hb := bnext hb nc
      replace q4 := q4.below nc
      replace M := M.below nc
      clear N nb nc
      have yE := E.cell 0 _ rfl
      have zE := E.cell 1 _ rfl
      go_wp2_with fail
      refine (HFLTOF.out u10).mono ?_
      rintro e u11 ⟨rfl, d11⟩
      replace hb := bnext hb d11
      replace q4 := q4.below d11
      replace M := M.below d11
      clear yE zE E d11 hgE
      have hKK : ((K : Int) == (K : Int)) = true := beq_self_eq_true _
      go_wp2_with fail
      refine (sameIds_any _ _ zn zn u11 q4.ids (HIN.out _ hb) (by have := HN.out; omega) (by have := HN.out; omega)).mono ?_
      rintro e u12 ⟨rfl, d12⟩
      rw [beq_self_eq_true]
      replace hb := bnext hb d12
      replace M := M.below d12
      have yM := M.cell 0 _ rfl
      have zM := M.cell 1 _ rfl
      clear q4 d12
      go_upto_region 20 with fail
      by_cases hev : x.length % 2 = 0
      · have hs := (HSF.out.1 hev)
        subst hs
        have hE1 : ((⟨x.toArray⟩ : ByteArray) == ⟨x.toArray⟩) = true := by rw [ByteArray_eq]; exact beq_self_eq_true _
        go_wp2_with fail
        refine (HCHK.out u12).mono ?_
        rintro e u13 ⟨rfl, d13⟩
        replace hb := bnext hb d13
        replace M := M.below d13
        clear yM zM
        have yM := M.cell 0 _ rfl
        have zM := M.cell 1 _ rfl
        go_wp2_with fail
        refine (HKNW.out u13).mono ?_
        rintro e u14 ⟨rfl, d14⟩
        replace hb := bnext hb d14
        go_wp2_with fail
        refine (awake08_any _).mono ?_
        rintro e u15 ⟨rfl, d15⟩
        go_wp2_with fail
        go_ret
        exact ⟨rfl, bnext hb d15⟩
      · have hs := (HSF.out.2 hev)
        have he := even_tmod x.length
        have hod : x.length % 2 = 1 := by omega
        rw [hod] at he
        have hE1 : ((⟨SF.toArray⟩ : ByteArray) == ⟨x.toArray⟩) = false := by
          rw [ByteArray_eq, hs]
          exact beq_false_of_ne fun e => by have := congrArg List.length e; simp at this
        have hne : ¬ SF = x := by
          rw [hs]
          intro e
          have := congrArg List.length e
          simp at this
        have hcat : (⟨x.toArray⟩ : ByteArray) ++ ⟨#[0]⟩ = ⟨SF.toArray⟩ := by rw [hs]; exact cat_bytes x [0]
        have hE2 : ((⟨SF.toArray⟩ : ByteArray) == ⟨SF.toArray⟩) = true := by rw [ByteArray_eq]; exact beq_self_eq_true _
        have hsz : ¬ 9223372036854775807 < x.length + 1 := by have := H300.out; omega
        clear hs hod hev
        go_wp2_with fail
        refine (HCHK.out u12).mono ?_
        rintro e u13 ⟨rfl, d13⟩
        replace hb := bnext hb d13
        replace M := M.below d13
        clear yM zM
        have yM := M.cell 0 _ rfl
        have zM := M.cell 1 _ rfl
        go_wp2_with fail
        refine (HKNW.out u13).mono ?_
        rintro e u14 ⟨rfl, d14⟩
        replace hb := bnext hb d14
        go_wp2_with fail
        refine (awake08_any _).mono ?_
        rintro e u15 ⟨rfl, d15⟩
        go_wp2_with fail
        go_ret
        exact ⟨rfl, bnext hb d15⟩
  · skip
    have h16c : 16 ≤ ci := by omega
    have h16I : (16 : Int) < (zs.length : Int) := by omega
    go_enter Try.func6, Try.ntmps6
    have h3 := H300.out
    go_wp2_with fail
    refine hfew.mono ?_
    rintro e w1 ⟨rfl, rfl⟩
    clear hfew
    go_wp2_with fail
    refine (bytes00_any _ b w (HB.out _ (Below.refl _ _)) (by have := HBL.out; omega)).mono ?_
    rintro e w2 ⟨v2, rfl, o2, b2⟩
    have o2 := o2.bytes
    obtain ⟨p2, c2, rfl, -, -, -⟩ := id o2
    clear h3
    go_wp2_with fail
    refine (HPUT.out p2 c2 _ w2 o2 (HT.out _ b2)).mono ?_
    rintro e w3 ⟨v3, rfl, o3, b3⟩
    have hb := bnext b2 b3
    replace o3 := o3.bytes
    clear b2 b3 o2
    have PTo := PT.out
    have HSH : Hid ((putT l).1.length ≤ 3232) := hid (putT_short l)
    generalize putT l = F at *
    obtain ⟨FS, FB⟩ := F
    have HSH : Hid (FS.length ≤ 3232) := HSH
    cases FB with
    | true =>
      obtain ⟨h8, hA, hf⟩ := PTo rfl
      have hf : FS = flatT l := hf
      have hg := PB.out h8 hA
      rw [← hf] at hg
      have hBl : (b ++ FS).length = b.length + FS.length := List.length_append
      obtain ⟨BF, hBF⟩ : ∃ BF, b ++ FS = BF := ⟨_, rfl⟩
      rw [hBF] at hg o3 hBl
      have HG := hid hg
      have HBF := hid hBl
      obtain ⟨p3, c3, rfl, -, -, -⟩ := id o3
      clear PTo hA hf hg hBF hBl
      go_wp2_with fail
      refine (getT_any _ BF b.length w3 o3 (by have := HBL.out; have := HSH.out; rw [HBF.out]; omega) (by have := HBL.out; omega)).mono ?_
      rintro e w4 ⟨v4, rfl, o4, b4⟩
      rw [HG.out] at o4 ⊢
      replace hb := bnext hb b4
      obtain ⟨p4, c4, rfl, -, -, -⟩ := id o4.tlvs
      clear o3
      go_wp2_with fail
      refine (sameTlvs_any _ _ l l w4 o4.tlvs (HT.out _ hb) (by have := HL.out; omega) (by have := HL.out; omega)).mono ?_
      rintro e w5 ⟨rfl, b5⟩
      rw [beq_self_eq_true]
      replace hb := bnext hb b5
      clear o4 b4 b5
      go_wp2_with fail
      refine (ids00_any _ zn _ (HIN.out _ hb) (by have := HN.out; omega)).mono ?_
      rintro e u1 ⟨r1, rfl, q1, d1⟩
      replace hb := bnext hb d1
      go_wp2_with fail
      refine (HPATH.out r1 u1 q1.ids).mono ?_
      rintro e u2 ⟨rfl, d2⟩
      replace hb := bnext hb d2
      clear q1 d1 d2
      have N := Box.new u2 [.int .i64 0, .string ⟨#[]⟩] 32
      have nb := bnew u2 (Obj.cells #[.int .i64 0, .string ⟨#[]⟩] 32)
      go_upto_region 12 with (guard_target =~ wpList _ _ _ (⟨none, _, _, _, _, _⟩ :: _) _ _; refine wpList_store_tlv (op := ⟨none, .store _ _ _, _, _, _, _⟩) (by rfl) _ _ (by rfl) u2.heap.size (8, PF) (tL (0, [])) _ (by rfl) (by rfl) N rfl ?_; have A := N.rowT (tL (8, PF)); replace nb := below_setRow nb (Nat.le_refl _) (tL (8, PF)).toArray; generalize World.setRow _ _ _ = u3 at *; generalize hgA : u2.heap.size = gA at *)
      have nc : Below u2.heap.size u2 u3 := by rw [hgA]; exact nb
      replace hb := bnext hb nc
      clear N nb nc
      have yA := A.cell 0 _ rfl
      have zA := A.cell 1 _ rfl
      go_wp2_with fail
      refine (HPATHOF.out u3).mono ?_
      rintro e u4 ⟨r4, rfl, q4, d4⟩
      replace hb := bnext hb d4
      obtain ⟨p4, c4, rfl, -, -, -⟩ := id q4.ids
      clear yA zA A hgA d4
      go_wp2_with fail
      refine (place_any id' 65536 u4 (by decide) (by decide)).mono ?_
      rintro e u5 ⟨rfl, rfl⟩
      rw [HK.out]
      go_wp2_with fail
      refine (HMAN.out u4).mono ?_
      rintro e u6 ⟨rfl, d6⟩
      replace hb := bnext hb d6
      replace q4 := q4.below d6
      clear d6
      have N := Box.new u6 [.int .i64 0, .string ⟨#[]⟩] 32
      have nb := bnew u6 (Obj.cells #[.int .i64 0, .string ⟨#[]⟩] 32)
      go_upto_region 15 with (guard_target =~ wpList _ _ _ (⟨none, _, _, _, _, _⟩ :: _) _ _; refine wpList_store_tlv (op := ⟨none, .store _ _ _, _, _, _, _⟩) (by rfl) _ _ (by rfl) u6.heap.size (1, ML) (tL (0, [])) _ (by rfl) (by rfl) N rfl ?_; have M := N.rowT (tL (1, ML)); replace nb := below_setRow nb (Nat.le_refl _) (tL (1, ML)).toArray; generalize World.setRow _ _ _ = u7 at *; generalize hgM : u6.heap.size = gM at *)
      have nc : Below u6.heap.size u6 u7 := by rw [hgM]; exact nb
      replace hb := bnext hb nc
      replace q4 := q4.below nc
      clear N nb nc
      have yM := M.cell 0 _ rfl
      have zM := M.cell 1 _ rfl
      go_wp2_with fail
      refine (HMANOF.out u7).mono ?_
      rintro e u8 ⟨rfl, d8⟩
      replace hb := bnext hb d8
      replace q4 := q4.below d8
      replace M := M.below d8
      clear yM zM d8
      go_wp2_with fail
      refine (HFLT.out u8).mono ?_
      rintro e u9 ⟨rfl, d9⟩
      replace hb := bnext hb d9
      replace q4 := q4.below d9
      replace M := M.below d9
      clear d9
      have N := Box.new u9 [.int .i64 0, .string ⟨#[]⟩] 32
      have nb := bnew u9 (Obj.cells #[.int .i64 0, .string ⟨#[]⟩] 32)
      go_upto_region 17 with (guard_target =~ wpList _ _ _ (⟨none, _, _, _, _, _⟩ :: _) _ _; refine wpList_store_tlv (op := ⟨none, .store _ _ _, _, _, _, _⟩) (by rfl) _ _ (by rfl) u9.heap.size (2, FL) (tL (0, [])) _ (by rfl) (by rfl) N rfl ?_; have E := N.rowT (tL (2, FL)); replace nb := below_setRow nb (Nat.le_refl _) (tL (2, FL)).toArray; generalize World.setRow _ _ _ = u10 at *; generalize hgE : u9.heap.size = gE at *)
      have nc : Below u9.heap.size u9 u10 := by rw [hgE]; exact nb
      replace hb := bnext hb nc
      replace q4 := q4.below nc
      replace M := M.below nc
      clear N nb nc
      have yE := E.cell 0 _ rfl
      have zE := E.cell 1 _ rfl
      go_wp2_with fail
      refine (HFLTOF.out u10).mono ?_
      rintro e u11 ⟨rfl, d11⟩
      replace hb := bnext hb d11
      replace q4 := q4.below d11
      replace M := M.below d11
      clear yE zE E d11 hgE
      have hKK : ((K : Int) == (K : Int)) = true := beq_self_eq_true _
      go_wp2_with fail
      refine (sameIds_any _ _ zn zn u11 q4.ids (HIN.out _ hb) (by have := HN.out; omega) (by have := HN.out; omega)).mono ?_
      rintro e u12 ⟨rfl, d12⟩
      rw [beq_self_eq_true]
      replace hb := bnext hb d12
      replace M := M.below d12
      have yM := M.cell 0 _ rfl
      have zM := M.cell 1 _ rfl
      clear q4 d12
      go_upto_region 20 with fail
      by_cases hev : x.length % 2 = 0
      · have hs := (HSF.out.1 hev)
        subst hs
        have hE1 : ((⟨x.toArray⟩ : ByteArray) == ⟨x.toArray⟩) = true := by rw [ByteArray_eq]; exact beq_self_eq_true _
        go_wp2_with fail
        refine (HCHK.out u12).mono ?_
        rintro e u13 ⟨rfl, d13⟩
        replace hb := bnext hb d13
        replace M := M.below d13
        clear yM zM
        have yM := M.cell 0 _ rfl
        have zM := M.cell 1 _ rfl
        go_wp2_with fail
        refine (HKNW.out u13).mono ?_
        rintro e u14 ⟨rfl, d14⟩
        replace hb := bnext hb d14
        go_wp2_with fail
        refine (awake08_any _).mono ?_
        rintro e u15 ⟨rfl, d15⟩
        go_wp2_with fail
        go_ret
        exact ⟨rfl, bnext hb d15⟩
      · have hs := (HSF.out.2 hev)
        have he := even_tmod x.length
        have hod : x.length % 2 = 1 := by omega
        rw [hod] at he
        have hE1 : ((⟨SF.toArray⟩ : ByteArray) == ⟨x.toArray⟩) = false := by
          rw [ByteArray_eq, hs]
          exact beq_false_of_ne fun e => by have := congrArg List.length e; simp at this
        have hne : ¬ SF = x := by
          rw [hs]
          intro e
          have := congrArg List.length e
          simp at this
        have hcat : (⟨x.toArray⟩ : ByteArray) ++ ⟨#[0]⟩ = ⟨SF.toArray⟩ := by rw [hs]; exact cat_bytes x [0]
        have hE2 : ((⟨SF.toArray⟩ : ByteArray) == ⟨SF.toArray⟩) = true := by rw [ByteArray_eq]; exact beq_self_eq_true _
        have hsz : ¬ 9223372036854775807 < x.length + 1 := by have := H300.out; omega
        clear hs hod hev
        go_wp2_with fail
        refine (HCHK.out u12).mono ?_
        rintro e u13 ⟨rfl, d13⟩
        replace hb := bnext hb d13
        replace M := M.below d13
        clear yM zM
        have yM := M.cell 0 _ rfl
        have zM := M.cell 1 _ rfl
        go_wp2_with fail
        refine (HKNW.out u13).mono ?_
        rintro e u14 ⟨rfl, d14⟩
        replace hb := bnext hb d14
        go_wp2_with fail
        refine (awake08_any _).mono ?_
        rintro e u15 ⟨rfl, d15⟩
        go_wp2_with fail
        go_ret
        exact ⟨rfl, bnext hb d15⟩
    | false =>
      clear PTo o3
      go_wp2_with fail
      refine (ids00_any _ zn _ (HIN.out _ hb) (by have := HN.out; omega)).mono ?_
      rintro e u1 ⟨r1, rfl, q1, d1⟩
      replace hb := bnext hb d1
      go_wp2_with fail
      refine (HPATH.out r1 u1 q1.ids).mono ?_
      rintro e u2 ⟨rfl, d2⟩
      replace hb := bnext hb d2
      clear q1 d1 d2
      have N := Box.new u2 [.int .i64 0, .string ⟨#[]⟩] 32
      have nb := bnew u2 (Obj.cells #[.int .i64 0, .string ⟨#[]⟩] 32)
      go_upto_region 12 with (guard_target =~ wpList _ _ _ (⟨none, _, _, _, _, _⟩ :: _) _ _; refine wpList_store_tlv (op := ⟨none, .store _ _ _, _, _, _, _⟩) (by rfl) _ _ (by rfl) u2.heap.size (8, PF) (tL (0, [])) _ (by rfl) (by rfl) N rfl ?_; have A := N.rowT (tL (8, PF)); replace nb := below_setRow nb (Nat.le_refl _) (tL (8, PF)).toArray; generalize World.setRow _ _ _ = u3 at *; generalize hgA : u2.heap.size = gA at *)
      have nc : Below u2.heap.size u2 u3 := by rw [hgA]; exact nb
      replace hb := bnext hb nc
      clear N nb nc
      have yA := A.cell 0 _ rfl
      have zA := A.cell 1 _ rfl
      go_wp2_with fail
      refine (HPATHOF.out u3).mono ?_
      rintro e u4 ⟨r4, rfl, q4, d4⟩
      replace hb := bnext hb d4
      obtain ⟨p4, c4, rfl, -, -, -⟩ := id q4.ids
      clear yA zA A hgA d4
      go_wp2_with fail
      refine (place_any id' 65536 u4 (by decide) (by decide)).mono ?_
      rintro e u5 ⟨rfl, rfl⟩
      rw [HK.out]
      go_wp2_with fail
      refine (HMAN.out u4).mono ?_
      rintro e u6 ⟨rfl, d6⟩
      replace hb := bnext hb d6
      replace q4 := q4.below d6
      clear d6
      have N := Box.new u6 [.int .i64 0, .string ⟨#[]⟩] 32
      have nb := bnew u6 (Obj.cells #[.int .i64 0, .string ⟨#[]⟩] 32)
      go_upto_region 15 with (guard_target =~ wpList _ _ _ (⟨none, _, _, _, _, _⟩ :: _) _ _; refine wpList_store_tlv (op := ⟨none, .store _ _ _, _, _, _, _⟩) (by rfl) _ _ (by rfl) u6.heap.size (1, ML) (tL (0, [])) _ (by rfl) (by rfl) N rfl ?_; have M := N.rowT (tL (1, ML)); replace nb := below_setRow nb (Nat.le_refl _) (tL (1, ML)).toArray; generalize World.setRow _ _ _ = u7 at *; generalize hgM : u6.heap.size = gM at *)
      have nc : Below u6.heap.size u6 u7 := by rw [hgM]; exact nb
      replace hb := bnext hb nc
      replace q4 := q4.below nc
      clear N nb nc
      have yM := M.cell 0 _ rfl
      have zM := M.cell 1 _ rfl
      go_wp2_with fail
      refine (HMANOF.out u7).mono ?_
      rintro e u8 ⟨rfl, d8⟩
      replace hb := bnext hb d8
      replace q4 := q4.below d8
      replace M := M.below d8
      clear yM zM d8
      go_wp2_with fail
      refine (HFLT.out u8).mono ?_
      rintro e u9 ⟨rfl, d9⟩
      replace hb := bnext hb d9
      replace q4 := q4.below d9
      replace M := M.below d9
      clear d9
      have N := Box.new u9 [.int .i64 0, .string ⟨#[]⟩] 32
      have nb := bnew u9 (Obj.cells #[.int .i64 0, .string ⟨#[]⟩] 32)
      go_upto_region 17 with (guard_target =~ wpList _ _ _ (⟨none, _, _, _, _, _⟩ :: _) _ _; refine wpList_store_tlv (op := ⟨none, .store _ _ _, _, _, _, _⟩) (by rfl) _ _ (by rfl) u9.heap.size (2, FL) (tL (0, [])) _ (by rfl) (by rfl) N rfl ?_; have E := N.rowT (tL (2, FL)); replace nb := below_setRow nb (Nat.le_refl _) (tL (2, FL)).toArray; generalize World.setRow _ _ _ = u10 at *; generalize hgE : u9.heap.size = gE at *)
      have nc : Below u9.heap.size u9 u10 := by rw [hgE]; exact nb
      replace hb := bnext hb nc
      replace q4 := q4.below nc
      replace M := M.below nc
      clear N nb nc
      have yE := E.cell 0 _ rfl
      have zE := E.cell 1 _ rfl
      go_wp2_with fail
      refine (HFLTOF.out u10).mono ?_
      rintro e u11 ⟨rfl, d11⟩
      replace hb := bnext hb d11
      replace q4 := q4.below d11
      replace M := M.below d11
      clear yE zE E d11 hgE
      have hKK : ((K : Int) == (K : Int)) = true := beq_self_eq_true _
      go_wp2_with fail
      refine (sameIds_any _ _ zn zn u11 q4.ids (HIN.out _ hb) (by have := HN.out; omega) (by have := HN.out; omega)).mono ?_
      rintro e u12 ⟨rfl, d12⟩
      rw [beq_self_eq_true]
      replace hb := bnext hb d12
      replace M := M.below d12
      have yM := M.cell 0 _ rfl
      have zM := M.cell 1 _ rfl
      clear q4 d12
      go_upto_region 20 with fail
      by_cases hev : x.length % 2 = 0
      · have hs := (HSF.out.1 hev)
        subst hs
        have hE1 : ((⟨x.toArray⟩ : ByteArray) == ⟨x.toArray⟩) = true := by rw [ByteArray_eq]; exact beq_self_eq_true _
        go_wp2_with fail
        refine (HCHK.out u12).mono ?_
        rintro e u13 ⟨rfl, d13⟩
        replace hb := bnext hb d13
        replace M := M.below d13
        clear yM zM
        have yM := M.cell 0 _ rfl
        have zM := M.cell 1 _ rfl
        go_wp2_with fail
        refine (HKNW.out u13).mono ?_
        rintro e u14 ⟨rfl, d14⟩
        replace hb := bnext hb d14
        go_wp2_with fail
        refine (awake08_any _).mono ?_
        rintro e u15 ⟨rfl, d15⟩
        go_wp2_with fail
        go_ret
        exact ⟨rfl, bnext hb d15⟩
      · have hs := (HSF.out.2 hev)
        have he := even_tmod x.length
        have hod : x.length % 2 = 1 := by omega
        rw [hod] at he
        have hE1 : ((⟨SF.toArray⟩ : ByteArray) == ⟨x.toArray⟩) = false := by
          rw [ByteArray_eq, hs]
          exact beq_false_of_ne fun e => by have := congrArg List.length e; simp at this
        have hne : ¬ SF = x := by
          rw [hs]
          intro e
          have := congrArg List.length e
          simp at this
        have hcat : (⟨x.toArray⟩ : ByteArray) ++ ⟨#[0]⟩ = ⟨SF.toArray⟩ := by rw [hs]; exact cat_bytes x [0]
        have hE2 : ((⟨SF.toArray⟩ : ByteArray) == ⟨SF.toArray⟩) = true := by rw [ByteArray_eq]; exact beq_self_eq_true _
        have hsz : ¬ 9223372036854775807 < x.length + 1 := by have := H300.out; omega
        clear hs hod hev
        go_wp2_with fail
        refine (HCHK.out u12).mono ?_
        rintro e u13 ⟨rfl, d13⟩
        replace hb := bnext hb d13
        replace M := M.below d13
        clear yM zM
        have yM := M.cell 0 _ rfl
        have zM := M.cell 1 _ rfl
        go_wp2_with fail
        refine (HKNW.out u13).mono ?_
        rintro e u14 ⟨rfl, d14⟩
        replace hb := bnext hb d14
        go_wp2_with fail
        refine (awake08_any _).mono ?_
        rintro e u15 ⟨rfl, d15⟩
        go_wp2_with fail
        go_ret
        exact ⟨rfl, bnext hb d15⟩

theorem tlvBack_walk (v0 : Value) (b : List UInt8) {w : World} (hB : Bytes w v0 b) (hbl : b.length ≤ 140737488351232) (v : Value) (l : List T2) (hT : Tlvs w v l) (hl : l.length * 24 ≤ 140737488351232) (vi : Value) (zs : List Int) (hI : Ids w vi zs)
    (hz : zs.length * 8 ≤ 140737488351232 ∧ ∀ z ∈ zs, 0 ≤ z ∧ z < 18446744073709551616) (id' : Int) (wi : (Lit.int .i64 id').wf = true) (m : ByteArray) (wm : m.size ≤ maxLen) (rm : m.data.toList.length ≤ reachBytes) :
    Calls Try.prog 6 #[v0, v, vi, .int .i64 id', .string m] w fun e w' => e = .returned (.bool true) ∧ Below w.heap.size w w' := by
  obtain ⟨x, hx⟩ : ∃ x, m.data.toList = x := ⟨_, rfl⟩
  have hm : m = ⟨x.toArray⟩ := by rw [← hx]
  rw [hx] at rm
  subst hm
  have hr : reachBytes = 140737488351232 := rfl
  by_cases h : fewB l = true ∧ x.length ≤ 300
  · exact tlvBack_yes v0 b hB hbl v l hT hl vi zs hI hz.1 hz.2 id' x h.1 h.2
  · exact tlvBack_no v0 b v l hT hl vi id' x (by omega) h
end Go.Proofs.Ytdhdlpoopehmlaa
