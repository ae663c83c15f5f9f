/- ConfLines, from contracts of the program's own (gen_conflaws.py). -/
import Derived.Test.YtmcnohndgnaagaaConfLaws0
import Derived.Test.YtmcnohndgnaagaaPlace
import Derived.Test.YtmcnohndgnaagaaChain2
namespace Go.Proofs.Ytmcnohndgnaagaa
open Go.RowKit Go.Proofs
set_option maxRecDepth 50000
set_option linter.unusedVariables false
set_option linter.unusedSimpArgs false

theorem upto_str10 (s : List UInt8) (n : Nat) (h : n ≤ s.length) : (⟨s.toArray⟩ : ByteArray).extract 0 n = ⟨(s.take n).toArray⟩ := by
  apply ByteArray.ext
  simp [ByteArray.data_extract]
theorem from_str10 (s : List UInt8) (n : Nat) (h : n ≤ s.length) : (⟨s.toArray⟩ : ByteArray).extract n s.length = ⟨(s.drop n).toArray⟩ := by
  apply ByteArray.ext
  simp [ByteArray.data_extract]
  exact List.take_of_length_le (by rw [List.length_drop]; exact Nat.le_refl _)

/-- Where a line begins. -/
def BegL (t : List UInt8) (k : Nat) : Prop := k = 0 ∨ t[k - 1]? = some 10
theorem beg_take {t : List UInt8} {k : Nat} (hk : k ≤ t.length) (h : BegL t k) : t.take k = [] ∨ (t.take k).getLast? = some 10 := by
  rcases h with rfl | h
  · left; rfl
  · by_cases h0 : k = 0
    · left; subst h0; rfl
    · right
      rw [List.getLast?_eq_getElem?, List.length_take, Nat.min_eq_left hk, List.getElem?_take_of_lt (by omega)]
      exact h

theorem lines_at (cl : Int) {t : List UInt8} {k : Nat} (hl : t.length ≤ 1000) (hk : k ≤ t.length) (hb : BegL t k) : ∃ A B AH X AN Y : List UInt8,
    ((⟨t.toArray⟩ : ByteArray).extract 0 k = ⟨A.toArray⟩ ∧ (⟨t.toArray⟩ : ByteArray).extract k t.length = ⟨B.toArray⟩) ∧
    ((⟨A.toArray⟩ : ByteArray) ++ ⟨#[10, 35, 32, 104, 111, 112, 10]⟩ = ⟨AH.toArray⟩ ∧ (⟨AH.toArray⟩ : ByteArray) ++ ⟨B.toArray⟩ = ⟨X.toArray⟩) ∧
    ((⟨A.toArray⟩ : ByteArray) ++ ⟨#[104, 111, 112, 32, 49, 10]⟩ = ⟨AN.toArray⟩ ∧ (⟨AN.toArray⟩ : ByteArray) ++ ⟨B.toArray⟩ = ⟨Y.toArray⟩) ∧
    (A.length ≤ 1000 ∧ B.length ≤ 1000 ∧ AH.length ≤ 1007 ∧ AN.length ≤ 1006 ∧ X.length ≤ 5000 ∧ Y.length ≤ 5000) ∧
    (parseE cl X = parseE cl t ∧ parseC cl X = parseC cl t) ∧ (parseE cl t = 0 → parseE cl Y = 4 ∧ parseN cl Y = 1 + (t.take k).count 10) := by
  have hAl : (t.take k).length = k := by rw [List.length_take]; omega
  have hBl : (t.drop k).length = t.length - k := List.length_drop
  refine ⟨t.take k, t.drop k, t.take k ++ [10, 35, 32, 104, 111, 112, 10], t.take k ++ ([10, 35, 32, 104, 111, 112, 10] ++ t.drop k), t.take k ++ [104, 111, 112, 32, 49, 10], t.take k ++ ([104, 111, 112, 32, 49, 10] ++ t.drop k),
    ⟨upto_str10 t k hk, from_str10 t k hk⟩, ⟨cat_bytes _ _, by rw [← List.append_assoc]; exact cat_bytes _ _⟩, ⟨cat_bytes _ _, by rw [← List.append_assoc]; exact cat_bytes _ _⟩, ⟨by omega, by omega, ?_, ?_, ?_, ?_⟩, ?_, fun h0 => ?_⟩
  · rw [List.length_append, hAl]; simp; omega
  · rw [List.length_append, hAl]; simp; omega
  · rw [List.length_append, List.length_append, hAl, hBl]; simp; omega
  · rw [List.length_append, List.length_append, hAl, hBl]; simp; omega
  · have h := hop_says (B := t.drop k) cl (beg_take hk hb)
    rw [List.take_append_drop] at h
    exact h
  · exact none_says (B := t.drop k) (s := [104, 111, 112, 32, 49]) cl (beg_take hk hb) (by decide) hop_none (by rw [List.take_append_drop]; exact h0)

theorem lines_two (cl : Int) {t : List UInt8} (hl : t.length ≤ 1000) (h0 : parseE cl t = 0) (p : Nat) (hp : p < 256) : ∃ T1 T2 T3 T4 : List UInt8,
    ((⟨t.toArray⟩ : ByteArray) ++ ⟨#[10, 112, 114, 105, 111, 114, 105, 116, 121, 49, 32]⟩ = ⟨T1.toArray⟩ ∧ (⟨T1.toArray⟩ : ByteArray) ++ ⟨(decS p).toArray⟩ = ⟨T2.toArray⟩) ∧
    ((⟨T2.toArray⟩ : ByteArray) ++ ⟨#[10, 112, 114, 105, 111, 114, 105, 116, 121, 49, 32]⟩ = ⟨T3.toArray⟩ ∧ (⟨T3.toArray⟩ : ByteArray) ++ ⟨(decS (255 - p)).toArray⟩ = ⟨T4.toArray⟩) ∧
    ((decS p).length ≤ 10 ∧ (decS (255 - p)).length ≤ 10 ∧ T1.length ≤ 1011 ∧ T2.length ≤ 1021 ∧ T3.length ≤ 1032 ∧ T4.length ≤ 5000) ∧
    parseE cl T4 = 0 ∧ parseC cl T4 = { parseC cl t with p1 := ((255 - p : Nat) : Int) } := by
  have hd1 := decS_lt (v := p) (by omega)
  have hd2 := decS_lt (v := 255 - p) (by omega)
  refine ⟨t ++ [10, 112, 114, 105, 111, 114, 105, 116, 121, 49, 32], (t ++ [10, 112, 114, 105, 111, 114, 105, 116, 121, 49, 32]) ++ decS p, ((t ++ [10, 112, 114, 105, 111, 114, 105, 116, 121, 49, 32]) ++ decS p) ++ [10, 112, 114, 105, 111, 114, 105, 116, 121, 49, 32], (((t ++ [10, 112, 114, 105, 111, 114, 105, 116, 121, 49, 32]) ++ decS p) ++ [10, 112, 114, 105, 111, 114, 105, 116, 121, 49, 32]) ++ decS (255 - p),
    ⟨cat_bytes _ _, cat_bytes _ _⟩, ⟨cat_bytes _ _, cat_bytes _ _⟩, ⟨hd1, hd2, ?_, ?_, ?_, ?_⟩, ?_⟩
  · simp; omega
  · simp; omega
  · simp; omega
  · simp; omega
  · have e : (((t ++ [10, 112, 114, 105, 111, 114, 105, 116, 121, 49, 32]) ++ decS p) ++ [10, 112, 114, 105, 111, 114, 105, 116, 121, 49, 32]) ++ decS (255 - p) = t ++ 10 :: (([112, 114, 105, 111, 114, 105, 116, 121, 49, 32] ++ decS p) ++ 10 :: ([112, 114, 105, 111, 114, 105, 116, 121, 49, 32] ++ decS (255 - p))) := by simp
    rw [e]
    refine two_says h0 rfl (no_ten (by decide) _) (no_ten (by decide) _) (line_p1 _ (by omega)) (line_p1 _ (by omega)) ?_
    obtain ⟨-, h2, h3⟩ := parse_ok h0
    rw [h3]
    unfold CfOk at h2 ⊢
    simp only
    obtain ⟨x1, x2, x3, x4, x5, x6⟩ := h2
    exact ⟨x1, x2, x3, x4, ⟨by omega, by omega⟩, x6⟩

theorem count_take {t : List UInt8} {j : Nat} (h : j < t.length) : (t.take (j + 1)).count 10 = (t.take j).count 10 + if t[j] = 10 then 1 else 0 := by
  rw [List.take_succ_eq_append_getElem h, List.count_append]
  congr 1
  rw [List.count_singleton]
  by_cases e : t[j] = 10 <;> simp [e]

set_option maxRecDepth 100000 in
set_option maxHeartbeats 8000000 in
theorem confLines_le (HD : CDef) (HC : CChk) (HP : CPar) (cl : Int) (hcl : 0 ≤ cl ∧ cl < 18446744073709551616) (t : List UInt8) (hl : t.length ≤ 1000) (at' v : Int) (w : World) :
    Calls Try.prog 3 #[.int .u64 cl, sv t, .int .i64 at', .int .i64 v] w fun e w' => e = .returned (.bool true) ∧ Below w.heap.size w w' := by
  have hp := HP cl t w hcl (by omega)
  have hF := fun (k : Nat) (hk : k ≤ t.length) (hb : BegL t k) => lines_at cl hl hk hb
  have hT := fun (h0 : parseE cl t = 0) (p : Nat) (hp : p < 256) => lines_two cl hl h0 p hp
  have HPP := hid fun (t' : List UInt8) (wx : World) (h : t'.length ≤ 5000) => HP cl t' wx hcl h
  have HF := hid hF
  have HT := hid hT
  clear hF hT
  generalize parseC cl t = C at *
  generalize parseE cl t = E at *
  generalize parseN cl t = N0 at *
  have hS := same_conf C
  go_enter Try.func3, Try.ntmps3
  go_wp2_with fail
  refine hp.mono ?_
  rintro e w1 ⟨rfl, hb⟩
  clear hp
  have hgle := hb.size
  have N := Box.new w1 (cfL zeroC) 29
  have nb := bnew w1 (Obj.cells (cfL zeroC).toArray 29)
  go_upto_region 4 with (guard_target =~ wpList _ _ _ (⟨none, _, _, _, _, _⟩ :: _) _ _; refine wpList_store_conf (op := ⟨none, .store _ _ _, _, _, _, _⟩) (by rfl) _ _ (by rfl) w1.heap.size (C) (zeroC) _ (by rfl) (by rfl) N ?_)
  have B1 := N.rowC (cfL (C))
  replace nb := below_setRow nb (Nat.le_refl _) (cfL (C)).toArray
  change Code.wp _ _ _ _ ((w1.alloc (Obj.cells (cfL zeroC).toArray 29)).setRow w1.heap.size (cfL (C)).toArray)
  generalize ((w1.alloc (Obj.cells (cfL zeroC).toArray 29)).setRow w1.heap.size (cfL (C)).toArray) = W1 at *
  generalize hgB1 : w1.heap.size = gB1 at *
  have nc : Below w1.heap.size w1 W1 := by rw [hgB1]; exact nb
  replace hb := bnext hb nc
  clear N nb nc
  have hlI : (t.length : Int) + 1 ≤ 9223372036854775807 := by omega
  have HB1 := hid B1
  have HG1 := hid hgle
  clear B1 hgle
  go_wp2_with fail
  refine (place_any at' ((t.length : Int) + 1) W1 (by omega) (by omega)).mono ?_
  rintro e w3 ⟨rfl, rfl⟩
  obtain ⟨K, hK⟩ : ∃ K : Nat, at' % ((t.length : Int) + 1) = (K : Int) := ⟨(at' % ((t.length : Int) + 1)).toNat, by have := Int.emod_nonneg at' (show (t.length : Int) + 1 ≠ 0 by omega); omega⟩
  have hKL : K ≤ t.length := by
    have := Int.emod_lt_of_pos at' (show (0 : Int) < (t.length : Int) + 1 by omega)
    omega
  rw [hK]
  clear hK hlI
  go_wp2_with fail
  go_loop [12] (fun i => ∃ k : Nat, k ≤ t.length ∧ i = .int .i64 k) (fun i => (intOf i).toNat)
  case atStart => exact ⟨K, hKL, rfl⟩
  case round =>
    obtain ⟨k, hk, rfl⟩ := hrel
    by_cases h0 : k = 0
    · have hbeg : BegL t k := .inl h0
      have hk1 : ¬ (0 : Int) < (k : Int) := by omega
      clear h0
      obtain ⟨A, B, AH, X, AN, Y, ⟨hs1, hs2⟩, ⟨hc1, hc2⟩, ⟨hc3, hc4⟩, ⟨hA1, hB1, hA2, hA3, hX, hY⟩, ⟨hEX, hCX⟩, hEY⟩ := HF.out k hk hbeg
      have hcall := fun (wx : World) (h : X.length ≤ 5000) => HPP.out X wx h
      rw [hEX, hCX] at hcall
      clear hEX hCX hbeg
      have HEY := hid hEY
      have HNY := hid (show E = 0 → ∀ (wx : World), Y.length ≤ 5000 → _ from fun h0 wx h => by
        have hz := HPP.out Y wx h
        rw [(hEY h0).1, (hEY h0).2] at hz
        exact hz)
      clear hEY
      have hz1 : ¬ 9223372036854775807 < A.length + 7 := by omega
      have hz2 : ¬ 9223372036854775807 < AH.length + B.length := by omega
      have hz3 : ¬ 9223372036854775807 < A.length + 6 := by omega
      have hz4 : ¬ 9223372036854775807 < AN.length + B.length := by omega
      generalize parseC cl Y = CY at *
      generalize parseN cl X = NX at *
      go_upto_region 7 with fail
      apply share2 (P := fun (g : Nat) (w' : World) => Below W1.heap.size W1 w' ∧ Box w' g (cfL (C)) 29)
      case h1 =>
        intro tail
        refine wp_region_held_drew (S := fun w' => Below W1.heap.size W1 w') (by kernel_rfl) (Below.drew (Below.refl _ _)) ?_
        intro hHeld
        generalize W1.drew = wd at *
        refine rtake 0 rfl (by rfl) (by kernel_rfl) (by kernel_rfl) (by kernel_rfl) (fun _ _ _ h => h) hHeld (fun wx hwx => by go_simp; try with_reducible rfl) ?_
        try simp only [Act.put, List.setIfInBounds_toArray, List.set_cons_zero, List.set_cons_succ]
        refine rtake 1 rfl (by rfl) (by kernel_rfl) (by kernel_rfl) (by kernel_rfl) (fun _ _ _ h => h) hHeld (fun wx hwx => by go_simp; try with_reducible rfl) ?_
        try simp only [Act.put, List.setIfInBounds_toArray, List.set_cons_zero, List.set_cons_succ]
        refine rtake 2 rfl (by rfl) (by kernel_rfl) (by kernel_rfl) (by kernel_rfl) (fun _ _ _ h => h) hHeld (fun wx hwx => by go_simp; try with_reducible rfl) ?_
        try simp only [Act.put, List.setIfInBounds_toArray, List.set_cons_zero, List.set_cons_succ]
        refine rtake 3 rfl (by rfl) (by kernel_rfl) (by kernel_rfl) (by kernel_rfl) (fun _ _ _ h => h) hHeld (fun wx hwx => by go_simp; try with_reducible rfl) ?_
        try simp only [Act.put, List.setIfInBounds_toArray, List.set_cons_zero, List.set_cons_succ]
        refine rtake 4 rfl (by rfl) (by kernel_rfl) (by kernel_rfl) (by kernel_rfl) (fun _ _ _ h => h) hHeld (fun wx hwx => by go_simp; try with_reducible rfl) ?_
        try simp only [Act.put, List.setIfInBounds_toArray, List.set_cons_zero, List.set_cons_succ]
        refine rtake 5 rfl (by rfl) (by kernel_rfl) (by kernel_rfl) (by kernel_rfl) (fun _ _ _ h => h) hHeld (fun wx hwx => by go_simp; try with_reducible rfl) ?_
        try simp only [Act.put, List.setIfInBounds_toArray, List.set_cons_zero, List.set_cons_succ]
        refine rtake 6 rfl (by rfl) (by kernel_rfl) (by kernel_rfl) (by kernel_rfl) (fun _ _ _ h => h) hHeld (fun wx hwx => by go_simp; try with_reducible rfl) ?_
        try simp only [Act.put, List.setIfInBounds_toArray, List.set_cons_zero, List.set_cons_succ]
        refine rtake 7 rfl (by rfl) (by kernel_rfl) (by kernel_rfl) (by kernel_rfl) (fun _ _ _ h => h) hHeld (fun wx hwx => by go_simp; try with_reducible rfl) ?_
        try simp only [Act.put, List.setIfInBounds_toArray, List.set_cons_zero, List.set_cons_succ]
        refine rtake 8 rfl (by rfl) (by kernel_rfl) (by kernel_rfl) (by kernel_rfl) (fun _ _ _ h => h) hHeld (fun wx hwx => by go_simp; try with_reducible rfl) ?_
        try simp only [Act.put, List.setIfInBounds_toArray, List.set_cons_zero, List.set_cons_succ]
        refine rtwo 9 14 rfl rfl (by kernel_rfl) (by rfl) (by rfl) (fun K hK => ?_) (fun K hK => ?_)
        · skip
          go_simp
          refine (hcall wd (by omega)).mono ?_
          rintro e wb ⟨rfl, bb⟩
          have hH := bnext hHeld bb
          refine hK.out _ _ hH ?_
          clear hK K hHeld
          have hHeld := hH
          clear hH
          try simp only [Act.put, List.setIfInBounds_toArray, List.set_cons_zero, List.set_cons_succ]
          refine rtake 10 rfl (by rfl) (by kernel_rfl) (by kernel_rfl) (by kernel_rfl) (fun _ _ _ h => h) hHeld (fun wx hwx => by go_simp; try with_reducible rfl) ?_
          try simp only [Act.put, List.setIfInBounds_toArray, List.set_cons_zero, List.set_cons_succ]
          refine rtake 11 rfl (by rfl) (by kernel_rfl) (by kernel_rfl) (by kernel_rfl) (fun _ _ _ h => h) hHeld (fun wx hwx => by go_simp; try with_reducible rfl) ?_
          try simp only [Act.put, List.setIfInBounds_toArray, List.set_cons_zero, List.set_cons_succ]
          refine rtake 12 rfl (by rfl) (by kernel_rfl) (by kernel_rfl) (by kernel_rfl) (fun _ _ _ h => h) hHeld (fun wx hwx => by go_simp; try with_reducible rfl) ?_
          try simp only [Act.put, List.setIfInBounds_toArray, List.set_cons_zero, List.set_cons_succ]
          refine rtake 13 rfl (by rfl) (by kernel_rfl) (by kernel_rfl) (by kernel_rfl) (fun _ _ _ h => h) hHeld (fun wx hwx => by go_simp; try with_reducible rfl) ?_
          try simp only [Act.put, List.setIfInBounds_toArray, List.set_cons_zero, List.set_cons_succ]
          refine rcall 14 rfl (by kernel_rfl) (by rfl) (fun K hK => ?_)
          have hna := bnew wb (Obj.cells (cfL zeroC).toArray 29)
          have hA := Box.new wb (cfL zeroC) 29
          have hgX := hHeld.size
          go_simp
          change K _ (wb.alloc (Obj.cells (cfL zeroC).toArray 29))
          have hH := bnext hHeld hna
          refine hK.out _ _ hH ?_
          clear hK K hHeld hna
          have hHeld := hH
          clear hH
          generalize wb.alloc (Obj.cells (cfL zeroC).toArray 29) = WA at *
          generalize wb.heap.size = g at *
          try simp only [Act.put, List.setIfInBounds_toArray, List.set_cons_zero, List.set_cons_succ]
          refine rcall 15 rfl (by kernel_rfl) (by rfl) (fun K hK => ?_)
          refine op_store_conf (op := ⟨none, .store _ _ _, _, _, _, _⟩) _ _ rfl g (C) zeroC _ rfl rfl hA ?_
          have hH := below_setRow hHeld hgX (cfL (C)).toArray
          have hB := hA.rowC (cfL (C))
          refine hK.out _ _ hH ?_
          clear hK K hHeld
          have hHeld := hH
          clear hH
          generalize World.setRow _ _ _ = WS at *
          try simp only [Act.put, List.setIfInBounds_toArray, List.set_cons_zero, List.set_cons_succ]
          refine rtake 16 rfl (by rfl) (by kernel_rfl) (by kernel_rfl) (by kernel_rfl) (fun _ _ _ h => h) hHeld (fun wx hwx => by go_simp; try with_reducible rfl) ?_
          try simp only [Act.put, List.setIfInBounds_toArray, List.set_cons_zero, List.set_cons_succ]
          refine rtake 17 rfl (by rfl) (by kernel_rfl) (by kernel_rfl) (by kernel_rfl) (fun _ _ _ h => h) hHeld (fun wx hwx => by go_simp; try with_reducible rfl) ?_
          try simp only [Act.put, List.setIfInBounds_toArray, List.set_cons_zero, List.set_cons_succ]
          refine wpAnyH_done (by kernel_rfl) ?_ _
          exact tail g WS ⟨hHeld, hB⟩
        · skip
          have hna := bnew wd (Obj.cells (cfL zeroC).toArray 29)
          have hA := Box.new wd (cfL zeroC) 29
          have hgX := hHeld.size
          go_simp
          change K _ (wd.alloc (Obj.cells (cfL zeroC).toArray 29))
          have hH := bnext hHeld hna
          refine hK.out _ _ hH ?_
          clear hK K hHeld hna
          have hHeld := hH
          clear hH
          generalize wd.alloc (Obj.cells (cfL zeroC).toArray 29) = WA at *
          generalize wd.heap.size = g at *
          try simp only [Act.put, List.setIfInBounds_toArray, List.set_cons_zero, List.set_cons_succ]
          refine rcall 9 rfl (by kernel_rfl) (by rfl) (fun K hK => ?_)
          go_simp
          refine (hcall WA (by omega)).mono ?_
          rintro e wb ⟨rfl, bb⟩
          have hH := bnext hHeld bb
          replace hA := hA.below bb
          refine hK.out _ _ hH ?_
          clear hK K hHeld
          have hHeld := hH
          clear hH
          try simp only [Act.put, List.setIfInBounds_toArray, List.set_cons_zero, List.set_cons_succ]
          refine rtake 10 rfl (by rfl) (by kernel_rfl) (by kernel_rfl) (by kernel_rfl) (fun _ _ _ h => h) hHeld (fun wx hwx => by go_simp; try with_reducible rfl) ?_
          try simp only [Act.put, List.setIfInBounds_toArray, List.set_cons_zero, List.set_cons_succ]
          refine rtake 11 rfl (by rfl) (by kernel_rfl) (by kernel_rfl) (by kernel_rfl) (fun _ _ _ h => h) hHeld (fun wx hwx => by go_simp; try with_reducible rfl) ?_
          try simp only [Act.put, List.setIfInBounds_toArray, List.set_cons_zero, List.set_cons_succ]
          refine rtake 12 rfl (by rfl) (by kernel_rfl) (by kernel_rfl) (by kernel_rfl) (fun _ _ _ h => h) hHeld (fun wx hwx => by go_simp; try with_reducible rfl) ?_
          try simp only [Act.put, List.setIfInBounds_toArray, List.set_cons_zero, List.set_cons_succ]
          refine rtake 13 rfl (by rfl) (by kernel_rfl) (by kernel_rfl) (by kernel_rfl) (fun _ _ _ h => h) hHeld (fun wx hwx => by go_simp; try with_reducible rfl) ?_
          try simp only [Act.put, List.setIfInBounds_toArray, List.set_cons_zero, List.set_cons_succ]
          refine rcall 15 rfl (by kernel_rfl) (by rfl) (fun K hK => ?_)
          refine op_store_conf (op := ⟨none, .store _ _ _, _, _, _, _⟩) _ _ rfl g (C) zeroC _ rfl rfl hA ?_
          have hH := below_setRow hHeld hgX (cfL (C)).toArray
          have hB := hA.rowC (cfL (C))
          refine hK.out _ _ hH ?_
          clear hK K hHeld
          have hHeld := hH
          clear hH
          generalize World.setRow _ _ _ = WS at *
          try simp only [Act.put, List.setIfInBounds_toArray, List.set_cons_zero, List.set_cons_succ]
          refine rtake 16 rfl (by rfl) (by kernel_rfl) (by kernel_rfl) (by kernel_rfl) (fun _ _ _ h => h) hHeld (fun wx hwx => by go_simp; try with_reducible rfl) ?_
          try simp only [Act.put, List.setIfInBounds_toArray, List.set_cons_zero, List.set_cons_succ]
          refine rtake 17 rfl (by rfl) (by kernel_rfl) (by kernel_rfl) (by kernel_rfl) (fun _ _ _ h => h) hHeld (fun wx hwx => by go_simp; try with_reducible rfl) ?_
          try simp only [Act.put, List.setIfInBounds_toArray, List.set_cons_zero, List.set_cons_succ]
          refine wpAnyH_done (by kernel_rfl) ?_ _
          exact tail g WS ⟨hHeld, hB⟩
      case h2 =>
        rintro g2 W2 ⟨b2, B2⟩
        have B1 := (HB1.out).below b2
        replace hb := bnext hb b2
        have hEE : (E == E) = true := beq_self_eq_true _
        go_wp2_with (first | (guard_target =~ wpList _ _ _ (⟨some 70, _, _, _, _, _⟩ :: _) _ _; refine wpList_load_conf_g (op := ⟨some 70, .load _ _, _, _, _, _⟩) (by rfl) _ (by rfl) gB1 (by rfl) (C) _ B1 ?_) | (guard_target =~ wpList _ _ _ (⟨some 71, _, _, _, _, _⟩ :: _) _ _; refine wpList_load_conf_g (op := ⟨some 71, .load _ _, _, _, _, _⟩) (by rfl) _ (by rfl) g2 (by rfl) (C) _ B2 ?_))
        clear hEE B2
        have HB1 := hid B1
        clear B1
        go_loop [17, 16] (fun i n => ∃ j : Nat, j ≤ k ∧ i = .int .i64 j ∧ n = .int .i64 ((1 + (t.take j).count 10 : Nat) : Int)) (fun i _ => k - (intOf i).toNat)
        case atStart => exact ⟨0, Nat.zero_le _, rfl, rfl⟩
        case round =>
          obtain ⟨j, hj, rfl, rfl⟩ := hrel
          by_cases hlt : j < k
          · exact absurd hlt (by omega)
          · obtain rfl : j = k := by omega
            have hjI : ¬ (j : Int) < (j : Int) := by omega
            generalize hcnt : 1 + (t.take j).count 10 = cnt at *
            clear hcnt
            by_cases hE0 : E = 0
            · subst hE0
              have hcY := HNY.out rfl
              have hT := HT.out rfl
              obtain ⟨p, hp⟩ : ∃ p : Nat, v % 256 = (p : Int) := ⟨(v % 256).toNat, by have := Int.emod_nonneg v (show (256 : Int) ≠ 0 by decide); omega⟩
              have hp2 : p < 256 := by have := Int.emod_lt_of_pos v (show (0 : Int) < 256 by decide); omega
              obtain ⟨T1, T2, T3, T4, ⟨ht1, ht2⟩, ⟨ht3, ht4⟩, ⟨hl1, hl2, hl3, hl4, hl5, hl6⟩, hTE, hTC⟩ := hT p hp2
              have hcT := fun wx => HPP.out T4 wx hl6
              rw [hTE, hTC] at hcT
              have hdec1 := fun wx => dec_any p wx (by omega)
              have hdec2 := fun wx => dec_any (255 - p) wx (by omega)
              have hqI : (255 : Int) - (p : Int) = ((255 - p : Nat) : Int) := by omega
              generalize 255 - p = q at *
              generalize decS p = D1 at *
              generalize decS q = D2 at *
              have hy1 : ¬ 9223372036854775807 < t.length + 11 := by omega
              have hy2 : ¬ 9223372036854775807 < T1.length + D1.length := by omega
              have hy3 : ¬ 9223372036854775807 < T2.length + 11 := by omega
              have hy4 : ¬ 9223372036854775807 < T3.length + D2.length := by omega
              have hplace := place_any v 256
              rw [hp] at hplace
              obtain ⟨C3, hC3⟩ : ∃ C3 : Cf, { C with p1 := (q : Int) } = C3 := ⟨_, rfl⟩
              rw [hC3] at hcT
              have HC3 := hid hC3
              have HT4 := hid (⟨ht3, ht4, hy3, hy4⟩ : _ ∧ _ ∧ _ ∧ _)
              have HHY := hid (⟨hs1, hs2, hc3, hc4, hz3, hz4⟩ : _ ∧ _ ∧ _ ∧ _ ∧ _ ∧ _)
              clear hT hTE hTC hp hC3 ht3 ht4 hy3 hy4 hs1 hs2 hc1 hc2 hc3 hc4 hz1 hz2 hz3 hz4
              go_wp2_with fail
              refine (hplace W2 (by decide) (by decide)).mono ?_
              rintro e w3 ⟨rfl, rfl⟩
              clear hplace
              go_wp2_with fail
              refine (hdec1 _).mono ?_
              rintro e w4 ⟨rfl, b4⟩
              replace hb := bnext hb b4
              have B1 := (HB1.out).below b4
              clear hdec1
              obtain ⟨ht3, ht4, hy3, hy4⟩ := HT4.out
              go_wp2_with fail
              refine (hdec2 _).mono ?_
              rintro e w5 ⟨rfl, b5⟩
              replace hb := bnext hb b5
              replace B1 := B1.below b5
              clear hdec2
              go_wp2_with fail
              refine (hcT _).mono ?_
              rintro e w6 ⟨rfl, b6⟩
              replace hb := bnext hb b6
              replace B1 := B1.below b6
              clear hcT ht1 ht2 ht3 ht4 hy1 hy2 hy3 hy4 HT4
              have h13 := B1.lt
              have N := Box.new w6 (cfL zeroC) 29
              have nb := bnew w6 (Obj.cells (cfL zeroC).toArray 29)
              go_upto_region 20 with (guard_target =~ wpList _ _ _ (⟨none, _, _, _, _, _⟩ :: _) _ _; refine wpList_store_conf (op := ⟨none, .store _ _ _, _, _, _, _⟩) (by rfl) _ _ (by rfl) w6.heap.size (C3) (zeroC) _ (by rfl) (by rfl) N ?_)
              have B3 := N.rowC (cfL (C3))
              replace nb := below_setRow nb (Nat.le_refl _) (cfL (C3)).toArray
              change Code.wp _ _ _ _ ((w6.alloc (Obj.cells (cfL zeroC).toArray 29)).setRow w6.heap.size (cfL (C3)).toArray)
              generalize ((w6.alloc (Obj.cells (cfL zeroC).toArray 29)).setRow w6.heap.size (cfL (C3)).toArray) = W6 at *
              generalize hgB3 : w6.heap.size = gB3 at *
              have nc : Below w6.heap.size w6 W6 := by rw [hgB3]; exact nb
              replace hb := bnext hb nc
              replace B1 := B1.below nc
              clear N nb nc
              obtain ⟨hs1, hs2, hc3, hc4, hz3, hz4⟩ := HHY.out
              go_upto_region 20 with fail
              apply share2 (P := fun (g : Nat) (w' : World) => Below W6.heap.size W6 w' ∧ Box w' g (cfL (CY)) 29)
              case h1 =>
                intro tail
                refine wp_region_held_drew (S := fun w' => Below W6.heap.size W6 w') (by kernel_rfl) (Below.drew (Below.refl _ _)) ?_
                intro hHeld
                generalize W6.drew = wd at *
                refine rtake 0 rfl (by rfl) (by kernel_rfl) (by kernel_rfl) (by kernel_rfl) (fun _ _ _ h => h) hHeld (fun wx hwx => by go_simp; try with_reducible rfl) ?_
                try simp only [Act.put, List.setIfInBounds_toArray, List.set_cons_zero, List.set_cons_succ]
                refine rtake 1 rfl (by rfl) (by kernel_rfl) (by kernel_rfl) (by kernel_rfl) (fun _ _ _ h => h) hHeld (fun wx hwx => by go_simp; try with_reducible rfl) ?_
                try simp only [Act.put, List.setIfInBounds_toArray, List.set_cons_zero, List.set_cons_succ]
                refine rtake 2 rfl (by rfl) (by kernel_rfl) (by kernel_rfl) (by kernel_rfl) (fun _ _ _ h => h) hHeld (fun wx hwx => by go_simp; try with_reducible rfl) ?_
                try simp only [Act.put, List.setIfInBounds_toArray, List.set_cons_zero, List.set_cons_succ]
                refine rtake 3 rfl (by rfl) (by kernel_rfl) (by kernel_rfl) (by kernel_rfl) (fun _ _ _ h => h) hHeld (fun wx hwx => by go_simp; try with_reducible rfl) ?_
                try simp only [Act.put, List.setIfInBounds_toArray, List.set_cons_zero, List.set_cons_succ]
                refine rtake 4 rfl (by rfl) (by kernel_rfl) (by kernel_rfl) (by kernel_rfl) (fun _ _ _ h => h) hHeld (fun wx hwx => by go_simp; try with_reducible rfl) ?_
                try simp only [Act.put, List.setIfInBounds_toArray, List.set_cons_zero, List.set_cons_succ]
                refine rtake 5 rfl (by rfl) (by kernel_rfl) (by kernel_rfl) (by kernel_rfl) (fun _ _ _ h => h) hHeld (fun wx hwx => by go_simp; try with_reducible rfl) ?_
                try simp only [Act.put, List.setIfInBounds_toArray, List.set_cons_zero, List.set_cons_succ]
                refine rtake 6 rfl (by rfl) (by kernel_rfl) (by kernel_rfl) (by kernel_rfl) (fun _ _ _ h => h) hHeld (fun wx hwx => by go_simp; try with_reducible rfl) ?_
                try simp only [Act.put, List.setIfInBounds_toArray, List.set_cons_zero, List.set_cons_succ]
                refine rtake 7 rfl (by rfl) (by kernel_rfl) (by kernel_rfl) (by kernel_rfl) (fun _ _ _ h => h) hHeld (fun wx hwx => by go_simp; try with_reducible rfl) ?_
                try simp only [Act.put, List.setIfInBounds_toArray, List.set_cons_zero, List.set_cons_succ]
                refine rtake 8 rfl (by rfl) (by kernel_rfl) (by kernel_rfl) (by kernel_rfl) (fun _ _ _ h => h) hHeld (fun wx hwx => by go_simp; try with_reducible rfl) ?_
                try simp only [Act.put, List.setIfInBounds_toArray, List.set_cons_zero, List.set_cons_succ]
                refine rtwo 9 14 rfl rfl (by kernel_rfl) (by rfl) (by rfl) (fun K hK => ?_) (fun K hK => ?_)
                · skip
                  go_simp
                  refine (hcY wd (by omega)).mono ?_
                  rintro e wb ⟨rfl, bb⟩
                  have hH := bnext hHeld bb
                  refine hK.out _ _ hH ?_
                  clear hK K hHeld
                  have hHeld := hH
                  clear hH
                  try simp only [Act.put, List.setIfInBounds_toArray, List.set_cons_zero, List.set_cons_succ]
                  refine rtake 10 rfl (by rfl) (by kernel_rfl) (by kernel_rfl) (by kernel_rfl) (fun _ _ _ h => h) hHeld (fun wx hwx => by go_simp; try with_reducible rfl) ?_
                  try simp only [Act.put, List.setIfInBounds_toArray, List.set_cons_zero, List.set_cons_succ]
                  refine rtake 11 rfl (by rfl) (by kernel_rfl) (by kernel_rfl) (by kernel_rfl) (fun _ _ _ h => h) hHeld (fun wx hwx => by go_simp; try with_reducible rfl) ?_
                  try simp only [Act.put, List.setIfInBounds_toArray, List.set_cons_zero, List.set_cons_succ]
                  refine rtake 12 rfl (by rfl) (by kernel_rfl) (by kernel_rfl) (by kernel_rfl) (fun _ _ _ h => h) hHeld (fun wx hwx => by go_simp; try with_reducible rfl) ?_
                  try simp only [Act.put, List.setIfInBounds_toArray, List.set_cons_zero, List.set_cons_succ]
                  refine rtake 13 rfl (by rfl) (by kernel_rfl) (by kernel_rfl) (by kernel_rfl) (fun _ _ _ h => h) hHeld (fun wx hwx => by go_simp; try with_reducible rfl) ?_
                  try simp only [Act.put, List.setIfInBounds_toArray, List.set_cons_zero, List.set_cons_succ]
                  refine rcall 14 rfl (by kernel_rfl) (by rfl) (fun K hK => ?_)
                  have hna := bnew wb (Obj.cells (cfL zeroC).toArray 29)
                  have hA := Box.new wb (cfL zeroC) 29
                  have hgX := hHeld.size
                  go_simp
                  change K _ (wb.alloc (Obj.cells (cfL zeroC).toArray 29))
                  have hH := bnext hHeld hna
                  refine hK.out _ _ hH ?_
                  clear hK K hHeld hna
                  have hHeld := hH
                  clear hH
                  generalize wb.alloc (Obj.cells (cfL zeroC).toArray 29) = WA at *
                  generalize wb.heap.size = g at *
                  try simp only [Act.put, List.setIfInBounds_toArray, List.set_cons_zero, List.set_cons_succ]
                  refine rcall 15 rfl (by kernel_rfl) (by rfl) (fun K hK => ?_)
                  refine op_store_conf (op := ⟨none, .store _ _ _, _, _, _, _⟩) _ _ rfl g (CY) zeroC _ rfl rfl hA ?_
                  have hH := below_setRow hHeld hgX (cfL (CY)).toArray
                  have hB := hA.rowC (cfL (CY))
                  refine hK.out _ _ hH ?_
                  clear hK K hHeld
                  have hHeld := hH
                  clear hH
                  generalize World.setRow _ _ _ = WS at *
                  try simp only [Act.put, List.setIfInBounds_toArray, List.set_cons_zero, List.set_cons_succ]
                  refine rtake 16 rfl (by rfl) (by kernel_rfl) (by kernel_rfl) (by kernel_rfl) (fun _ _ _ h => h) hHeld (fun wx hwx => by go_simp; try with_reducible rfl) ?_
                  try simp only [Act.put, List.setIfInBounds_toArray, List.set_cons_zero, List.set_cons_succ]
                  refine rtake 17 rfl (by rfl) (by kernel_rfl) (by kernel_rfl) (by kernel_rfl) (fun _ _ _ h => h) hHeld (fun wx hwx => by go_simp; try with_reducible rfl) ?_
                  try simp only [Act.put, List.setIfInBounds_toArray, List.set_cons_zero, List.set_cons_succ]
                  refine wpAnyH_done (by kernel_rfl) ?_ _
                  exact tail g WS ⟨hHeld, hB⟩
                · skip
                  have hna := bnew wd (Obj.cells (cfL zeroC).toArray 29)
                  have hA := Box.new wd (cfL zeroC) 29
                  have hgX := hHeld.size
                  go_simp
                  change K _ (wd.alloc (Obj.cells (cfL zeroC).toArray 29))
                  have hH := bnext hHeld hna
                  refine hK.out _ _ hH ?_
                  clear hK K hHeld hna
                  have hHeld := hH
                  clear hH
                  generalize wd.alloc (Obj.cells (cfL zeroC).toArray 29) = WA at *
                  generalize wd.heap.size = g at *
                  try simp only [Act.put, List.setIfInBounds_toArray, List.set_cons_zero, List.set_cons_succ]
                  refine rcall 9 rfl (by kernel_rfl) (by rfl) (fun K hK => ?_)
                  go_simp
                  refine (hcY WA (by omega)).mono ?_
                  rintro e wb ⟨rfl, bb⟩
                  have hH := bnext hHeld bb
                  replace hA := hA.below bb
                  refine hK.out _ _ hH ?_
                  clear hK K hHeld
                  have hHeld := hH
                  clear hH
                  try simp only [Act.put, List.setIfInBounds_toArray, List.set_cons_zero, List.set_cons_succ]
                  refine rtake 10 rfl (by rfl) (by kernel_rfl) (by kernel_rfl) (by kernel_rfl) (fun _ _ _ h => h) hHeld (fun wx hwx => by go_simp; try with_reducible rfl) ?_
                  try simp only [Act.put, List.setIfInBounds_toArray, List.set_cons_zero, List.set_cons_succ]
                  refine rtake 11 rfl (by rfl) (by kernel_rfl) (by kernel_rfl) (by kernel_rfl) (fun _ _ _ h => h) hHeld (fun wx hwx => by go_simp; try with_reducible rfl) ?_
                  try simp only [Act.put, List.setIfInBounds_toArray, List.set_cons_zero, List.set_cons_succ]
                  refine rtake 12 rfl (by rfl) (by kernel_rfl) (by kernel_rfl) (by kernel_rfl) (fun _ _ _ h => h) hHeld (fun wx hwx => by go_simp; try with_reducible rfl) ?_
                  try simp only [Act.put, List.setIfInBounds_toArray, List.set_cons_zero, List.set_cons_succ]
                  refine rtake 13 rfl (by rfl) (by kernel_rfl) (by kernel_rfl) (by kernel_rfl) (fun _ _ _ h => h) hHeld (fun wx hwx => by go_simp; try with_reducible rfl) ?_
                  try simp only [Act.put, List.setIfInBounds_toArray, List.set_cons_zero, List.set_cons_succ]
                  refine rcall 15 rfl (by kernel_rfl) (by rfl) (fun K hK => ?_)
                  refine op_store_conf (op := ⟨none, .store _ _ _, _, _, _, _⟩) _ _ rfl g (CY) zeroC _ rfl rfl hA ?_
                  have hH := below_setRow hHeld hgX (cfL (CY)).toArray
                  have hB := hA.rowC (cfL (CY))
                  refine hK.out _ _ hH ?_
                  clear hK K hHeld
                  have hHeld := hH
                  clear hH
                  generalize World.setRow _ _ _ = WS at *
                  try simp only [Act.put, List.setIfInBounds_toArray, List.set_cons_zero, List.set_cons_succ]
                  refine rtake 16 rfl (by rfl) (by kernel_rfl) (by kernel_rfl) (by kernel_rfl) (fun _ _ _ h => h) hHeld (fun wx hwx => by go_simp; try with_reducible rfl) ?_
                  try simp only [Act.put, List.setIfInBounds_toArray, List.set_cons_zero, List.set_cons_succ]
                  refine rtake 17 rfl (by rfl) (by kernel_rfl) (by kernel_rfl) (by kernel_rfl) (fun _ _ _ h => h) hHeld (fun wx hwx => by go_simp; try with_reducible rfl) ?_
                  try simp only [Act.put, List.setIfInBounds_toArray, List.set_cons_zero, List.set_cons_succ]
                  refine wpAnyH_done (by kernel_rfl) ?_ _
                  exact tail g WS ⟨hHeld, hB⟩
              case h2 =>
                rintro g4 W7 ⟨b7, B4⟩
                replace B1 := B1.below b7
                replace B3 := B3.below b7
                replace hb := bnext hb b7
                have hge : w.heap.size ≤ gB1 := HG1.out
                have hne : gB3 ≠ gB1 := by omega
                have hf3 := B1.free 3
                have hc3' := B1.cell 3 _ rfl
                clear hs1 hs2 hc3 hc4 hz3 hz4 B4
                go_upto_region 22 with fail
                replace B3 := B3.other hne 3 (.int .i64 (q : Int))
                replace B1 := B1.set 3 (.int .i64 (q : Int))
                have hset : (cfL C).set 3 (.int .i64 (q : Int)) = cfL C3 := by rw [← HC3.out]; rfl
                rw [hset] at B1
                replace hb := hb.setCell (p := ⟨gB1, 3, none⟩) hge (.int .i64 (q : Int))
                generalize World.setCell _ _ _ = W8 at *
                have hS3 := same_conf C3
                clear hset hf3 hc3'
                go_wp2_with (first | (guard_target =~ wpList _ _ _ (⟨some 126, _, _, _, _, _⟩ :: _) _ _; refine wpList_load_conf_g (op := ⟨some 126, .load _ _, _, _, _, _⟩) (by rfl) _ (by rfl) gB3 (by rfl) (C3) _ B3 ?_) | (guard_target =~ wpList _ _ _ (⟨some 127, _, _, _, _, _⟩ :: _) _ _; refine wpList_load_conf_g (op := ⟨some 127, .load _ _, _, _, _, _⟩) (by rfl) _ (by rfl) gB1 (by rfl) (C3) _ B1 ?_))
                refine (awake10_from HD HC HP _).mono ?_
                rintro e wz ⟨rfl, bz⟩
                go_wp2_with fail
                go_ret
                exact ⟨rfl, bnext hb bz⟩
            · have hEI : (E == 0) = false := beq_false_of_ne hE0
              clear hc1 hc2 hc3 hc4 hs1 hs2 hz1 hz2 hz3 hz4
              go_wp2_with fail
              refine (awake10_from HD HC HP _).mono ?_
              rintro e wz ⟨rfl, bz⟩
              go_wp2_with fail
              go_ret
              exact ⟨rfl, bnext hb bz⟩
    · have hk1 : (0 : Int) < (k : Int) := by omega
      have hkl : k - 1 < t.length := by omega
      obtain ⟨c, hc⟩ : ∃ c, t[k - 1]? = some c := ⟨_, List.getElem?_eq_getElem hkl⟩
      have hg : ∀ (h : k - 1 < (⟨t.toArray⟩ : ByteArray).size), (⟨t.toArray⟩ : ByteArray)[k - 1]'h = c := fun h => by
        have h2 := List.getElem?_eq_some_iff.1 hc
        exact h2.2
      by_cases h10 : c = 10
      · subst h10
        have hbeg : BegL t k := .inr hc
        clear hc
        obtain ⟨A, B, AH, X, AN, Y, ⟨hs1, hs2⟩, ⟨hc1, hc2⟩, ⟨hc3, hc4⟩, ⟨hA1, hB1, hA2, hA3, hX, hY⟩, ⟨hEX, hCX⟩, hEY⟩ := HF.out k hk hbeg
        have hcall := fun (wx : World) (h : X.length ≤ 5000) => HPP.out X wx h
        rw [hEX, hCX] at hcall
        clear hEX hCX hbeg
        have HEY := hid hEY
        have HNY := hid (show E = 0 → ∀ (wx : World), Y.length ≤ 5000 → _ from fun h0 wx h => by
          have hz := HPP.out Y wx h
          rw [(hEY h0).1, (hEY h0).2] at hz
          exact hz)
        clear hEY
        have hz1 : ¬ 9223372036854775807 < A.length + 7 := by omega
        have hz2 : ¬ 9223372036854775807 < AH.length + B.length := by omega
        have hz3 : ¬ 9223372036854775807 < A.length + 6 := by omega
        have hz4 : ¬ 9223372036854775807 < AN.length + B.length := by omega
        generalize parseC cl Y = CY at *
        generalize parseN cl X = NX at *
        go_upto_region 7 with fail
        apply share2 (P := fun (g : Nat) (w' : World) => Below W1.heap.size W1 w' ∧ Box w' g (cfL (C)) 29)
        case h1 =>
          intro tail
          refine wp_region_held_drew (S := fun w' => Below W1.heap.size W1 w') (by kernel_rfl) (Below.drew (Below.refl _ _)) ?_
          intro hHeld
          generalize W1.drew = wd at *
          refine rtake 0 rfl (by rfl) (by kernel_rfl) (by kernel_rfl) (by kernel_rfl) (fun _ _ _ h => h) hHeld (fun wx hwx => by go_simp; try with_reducible rfl) ?_
          try simp only [Act.put, List.setIfInBounds_toArray, List.set_cons_zero, List.set_cons_succ]
          refine rtake 1 rfl (by rfl) (by kernel_rfl) (by kernel_rfl) (by kernel_rfl) (fun _ _ _ h => h) hHeld (fun wx hwx => by go_simp; try with_reducible rfl) ?_
          try simp only [Act.put, List.setIfInBounds_toArray, List.set_cons_zero, List.set_cons_succ]
          refine rtake 2 rfl (by rfl) (by kernel_rfl) (by kernel_rfl) (by kernel_rfl) (fun _ _ _ h => h) hHeld (fun wx hwx => by go_simp; try with_reducible rfl) ?_
          try simp only [Act.put, List.setIfInBounds_toArray, List.set_cons_zero, List.set_cons_succ]
          refine rtake 3 rfl (by rfl) (by kernel_rfl) (by kernel_rfl) (by kernel_rfl) (fun _ _ _ h => h) hHeld (fun wx hwx => by go_simp; try with_reducible rfl) ?_
          try simp only [Act.put, List.setIfInBounds_toArray, List.set_cons_zero, List.set_cons_succ]
          refine rtake 4 rfl (by rfl) (by kernel_rfl) (by kernel_rfl) (by kernel_rfl) (fun _ _ _ h => h) hHeld (fun wx hwx => by go_simp; try with_reducible rfl) ?_
          try simp only [Act.put, List.setIfInBounds_toArray, List.set_cons_zero, List.set_cons_succ]
          refine rtake 5 rfl (by rfl) (by kernel_rfl) (by kernel_rfl) (by kernel_rfl) (fun _ _ _ h => h) hHeld (fun wx hwx => by go_simp; try with_reducible rfl) ?_
          try simp only [Act.put, List.setIfInBounds_toArray, List.set_cons_zero, List.set_cons_succ]
          refine rtake 6 rfl (by rfl) (by kernel_rfl) (by kernel_rfl) (by kernel_rfl) (fun _ _ _ h => h) hHeld (fun wx hwx => by go_simp; try with_reducible rfl) ?_
          try simp only [Act.put, List.setIfInBounds_toArray, List.set_cons_zero, List.set_cons_succ]
          refine rtake 7 rfl (by rfl) (by kernel_rfl) (by kernel_rfl) (by kernel_rfl) (fun _ _ _ h => h) hHeld (fun wx hwx => by go_simp; try with_reducible rfl) ?_
          try simp only [Act.put, List.setIfInBounds_toArray, List.set_cons_zero, List.set_cons_succ]
          refine rtake 8 rfl (by rfl) (by kernel_rfl) (by kernel_rfl) (by kernel_rfl) (fun _ _ _ h => h) hHeld (fun wx hwx => by go_simp; try with_reducible rfl) ?_
          try simp only [Act.put, List.setIfInBounds_toArray, List.set_cons_zero, List.set_cons_succ]
          refine rtwo 9 14 rfl rfl (by kernel_rfl) (by rfl) (by rfl) (fun K hK => ?_) (fun K hK => ?_)
          · skip
            go_simp
            refine (hcall wd (by omega)).mono ?_
            rintro e wb ⟨rfl, bb⟩
            have hH := bnext hHeld bb
            refine hK.out _ _ hH ?_
            clear hK K hHeld
            have hHeld := hH
            clear hH
            try simp only [Act.put, List.setIfInBounds_toArray, List.set_cons_zero, List.set_cons_succ]
            refine rtake 10 rfl (by rfl) (by kernel_rfl) (by kernel_rfl) (by kernel_rfl) (fun _ _ _ h => h) hHeld (fun wx hwx => by go_simp; try with_reducible rfl) ?_
            try simp only [Act.put, List.setIfInBounds_toArray, List.set_cons_zero, List.set_cons_succ]
            refine rtake 11 rfl (by rfl) (by kernel_rfl) (by kernel_rfl) (by kernel_rfl) (fun _ _ _ h => h) hHeld (fun wx hwx => by go_simp; try with_reducible rfl) ?_
            try simp only [Act.put, List.setIfInBounds_toArray, List.set_cons_zero, List.set_cons_succ]
            refine rtake 12 rfl (by rfl) (by kernel_rfl) (by kernel_rfl) (by kernel_rfl) (fun _ _ _ h => h) hHeld (fun wx hwx => by go_simp; try with_reducible rfl) ?_
            try simp only [Act.put, List.setIfInBounds_toArray, List.set_cons_zero, List.set_cons_succ]
            refine rtake 13 rfl (by rfl) (by kernel_rfl) (by kernel_rfl) (by kernel_rfl) (fun _ _ _ h => h) hHeld (fun wx hwx => by go_simp; try with_reducible rfl) ?_
            try simp only [Act.put, List.setIfInBounds_toArray, List.set_cons_zero, List.set_cons_succ]
            refine rcall 14 rfl (by kernel_rfl) (by rfl) (fun K hK => ?_)
            have hna := bnew wb (Obj.cells (cfL zeroC).toArray 29)
            have hA := Box.new wb (cfL zeroC) 29
            have hgX := hHeld.size
            go_simp
            change K _ (wb.alloc (Obj.cells (cfL zeroC).toArray 29))
            have hH := bnext hHeld hna
            refine hK.out _ _ hH ?_
            clear hK K hHeld hna
            have hHeld := hH
            clear hH
            generalize wb.alloc (Obj.cells (cfL zeroC).toArray 29) = WA at *
            generalize wb.heap.size = g at *
            try simp only [Act.put, List.setIfInBounds_toArray, List.set_cons_zero, List.set_cons_succ]
            refine rcall 15 rfl (by kernel_rfl) (by rfl) (fun K hK => ?_)
            refine op_store_conf (op := ⟨none, .store _ _ _, _, _, _, _⟩) _ _ rfl g (C) zeroC _ rfl rfl hA ?_
            have hH := below_setRow hHeld hgX (cfL (C)).toArray
            have hB := hA.rowC (cfL (C))
            refine hK.out _ _ hH ?_
            clear hK K hHeld
            have hHeld := hH
            clear hH
            generalize World.setRow _ _ _ = WS at *
            try simp only [Act.put, List.setIfInBounds_toArray, List.set_cons_zero, List.set_cons_succ]
            refine rtake 16 rfl (by rfl) (by kernel_rfl) (by kernel_rfl) (by kernel_rfl) (fun _ _ _ h => h) hHeld (fun wx hwx => by go_simp; try with_reducible rfl) ?_
            try simp only [Act.put, List.setIfInBounds_toArray, List.set_cons_zero, List.set_cons_succ]
            refine rtake 17 rfl (by rfl) (by kernel_rfl) (by kernel_rfl) (by kernel_rfl) (fun _ _ _ h => h) hHeld (fun wx hwx => by go_simp; try with_reducible rfl) ?_
            try simp only [Act.put, List.setIfInBounds_toArray, List.set_cons_zero, List.set_cons_succ]
            refine wpAnyH_done (by kernel_rfl) ?_ _
            exact tail g WS ⟨hHeld, hB⟩
          · skip
            have hna := bnew wd (Obj.cells (cfL zeroC).toArray 29)
            have hA := Box.new wd (cfL zeroC) 29
            have hgX := hHeld.size
            go_simp
            change K _ (wd.alloc (Obj.cells (cfL zeroC).toArray 29))
            have hH := bnext hHeld hna
            refine hK.out _ _ hH ?_
            clear hK K hHeld hna
            have hHeld := hH
            clear hH
            generalize wd.alloc (Obj.cells (cfL zeroC).toArray 29) = WA at *
            generalize wd.heap.size = g at *
            try simp only [Act.put, List.setIfInBounds_toArray, List.set_cons_zero, List.set_cons_succ]
            refine rcall 9 rfl (by kernel_rfl) (by rfl) (fun K hK => ?_)
            go_simp
            refine (hcall WA (by omega)).mono ?_
            rintro e wb ⟨rfl, bb⟩
            have hH := bnext hHeld bb
            replace hA := hA.below bb
            refine hK.out _ _ hH ?_
            clear hK K hHeld
            have hHeld := hH
            clear hH
            try simp only [Act.put, List.setIfInBounds_toArray, List.set_cons_zero, List.set_cons_succ]
            refine rtake 10 rfl (by rfl) (by kernel_rfl) (by kernel_rfl) (by kernel_rfl) (fun _ _ _ h => h) hHeld (fun wx hwx => by go_simp; try with_reducible rfl) ?_
            try simp only [Act.put, List.setIfInBounds_toArray, List.set_cons_zero, List.set_cons_succ]
            refine rtake 11 rfl (by rfl) (by kernel_rfl) (by kernel_rfl) (by kernel_rfl) (fun _ _ _ h => h) hHeld (fun wx hwx => by go_simp; try with_reducible rfl) ?_
            try simp only [Act.put, List.setIfInBounds_toArray, List.set_cons_zero, List.set_cons_succ]
            refine rtake 12 rfl (by rfl) (by kernel_rfl) (by kernel_rfl) (by kernel_rfl) (fun _ _ _ h => h) hHeld (fun wx hwx => by go_simp; try with_reducible rfl) ?_
            try simp only [Act.put, List.setIfInBounds_toArray, List.set_cons_zero, List.set_cons_succ]
            refine rtake 13 rfl (by rfl) (by kernel_rfl) (by kernel_rfl) (by kernel_rfl) (fun _ _ _ h => h) hHeld (fun wx hwx => by go_simp; try with_reducible rfl) ?_
            try simp only [Act.put, List.setIfInBounds_toArray, List.set_cons_zero, List.set_cons_succ]
            refine rcall 15 rfl (by kernel_rfl) (by rfl) (fun K hK => ?_)
            refine op_store_conf (op := ⟨none, .store _ _ _, _, _, _, _⟩) _ _ rfl g (C) zeroC _ rfl rfl hA ?_
            have hH := below_setRow hHeld hgX (cfL (C)).toArray
            have hB := hA.rowC (cfL (C))
            refine hK.out _ _ hH ?_
            clear hK K hHeld
            have hHeld := hH
            clear hH
            generalize World.setRow _ _ _ = WS at *
            try simp only [Act.put, List.setIfInBounds_toArray, List.set_cons_zero, List.set_cons_succ]
            refine rtake 16 rfl (by rfl) (by kernel_rfl) (by kernel_rfl) (by kernel_rfl) (fun _ _ _ h => h) hHeld (fun wx hwx => by go_simp; try with_reducible rfl) ?_
            try simp only [Act.put, List.setIfInBounds_toArray, List.set_cons_zero, List.set_cons_succ]
            refine rtake 17 rfl (by rfl) (by kernel_rfl) (by kernel_rfl) (by kernel_rfl) (fun _ _ _ h => h) hHeld (fun wx hwx => by go_simp; try with_reducible rfl) ?_
            try simp only [Act.put, List.setIfInBounds_toArray, List.set_cons_zero, List.set_cons_succ]
            refine wpAnyH_done (by kernel_rfl) ?_ _
            exact tail g WS ⟨hHeld, hB⟩
        case h2 =>
          rintro g2 W2 ⟨b2, B2⟩
          have B1 := (HB1.out).below b2
          replace hb := bnext hb b2
          have hEE : (E == E) = true := beq_self_eq_true _
          go_wp2_with (first | (guard_target =~ wpList _ _ _ (⟨some 70, _, _, _, _, _⟩ :: _) _ _; refine wpList_load_conf_g (op := ⟨some 70, .load _ _, _, _, _, _⟩) (by rfl) _ (by rfl) gB1 (by rfl) (C) _ B1 ?_) | (guard_target =~ wpList _ _ _ (⟨some 71, _, _, _, _, _⟩ :: _) _ _; refine wpList_load_conf_g (op := ⟨some 71, .load _ _, _, _, _, _⟩) (by rfl) _ (by rfl) g2 (by rfl) (C) _ B2 ?_))
          clear hEE B2
          have HB1 := hid B1
          clear B1
          go_loop [17, 16] (fun i n => ∃ j : Nat, j ≤ k ∧ i = .int .i64 j ∧ n = .int .i64 ((1 + (t.take j).count 10 : Nat) : Int)) (fun i _ => k - (intOf i).toNat)
          case atStart => exact ⟨0, Nat.zero_le _, rfl, rfl⟩
          case round =>
            obtain ⟨j, hj, rfl, rfl⟩ := hrel
            by_cases hlt : j < k
            · have hjt : j < t.length := by omega
              have hcj := count_take hjt
              obtain ⟨c2, hc2⟩ : ∃ c, t[j] = c := ⟨_, rfl⟩
              have hg2 : ∀ (h : j < (⟨t.toArray⟩ : ByteArray).size), (⟨t.toArray⟩ : ByteArray)[j]'h = c2 := fun h => hc2
              have hg3 : ∀ (h : j < t.length), t[j]'h = c2 := fun h => hc2
              rw [hc2] at hcj
              clear hc2
              have hjI : (j : Int) < (k : Int) := by omega
              have hjI0 : (0 : Int) ≤ (j : Int) := by omega
              have hcl2 : (t.take j).count 10 ≤ 1000 := Nat.le_trans List.count_le_length (by rw [List.length_take]; omega)
              have HCJ := hid hcj
              have hjk : j + 1 ≤ k := hlt
              clear hcj
              generalize (t.take j).count 10 = m at *
              by_cases h2 : c2 = 10
              · subst h2
                have hcI : (((10 : UInt8).toNat : Int) == 10) = true := by decide
                go_wp2_with fail
                go_round
                case rel => exact ⟨j + 1, hjk, by go_num, by rw [HCJ.out, if_pos rfl]; go_num⟩
                case measure => (simp [intOf] <;> omega)
              · have hcI : ((c2.toNat : Int) == 10) = false := by
                  rw [beq_eq_false_iff_ne]
                  intro e
                  exact h2 (UInt8.toNat_inj.1 (by show c2.toNat = 10; omega))
                go_wp2_with fail
                go_round
                case rel => exact ⟨j + 1, hjk, by go_num, by rw [HCJ.out, if_neg h2, Nat.add_zero]⟩
                case measure => (simp [intOf] <;> omega)
            · obtain rfl : j = k := by omega
              have hjI : ¬ (j : Int) < (j : Int) := by omega
              generalize hcnt : 1 + (t.take j).count 10 = cnt at *
              clear hcnt
              by_cases hE0 : E = 0
              · subst hE0
                have hcY := HNY.out rfl
                have hT := HT.out rfl
                obtain ⟨p, hp⟩ : ∃ p : Nat, v % 256 = (p : Int) := ⟨(v % 256).toNat, by have := Int.emod_nonneg v (show (256 : Int) ≠ 0 by decide); omega⟩
                have hp2 : p < 256 := by have := Int.emod_lt_of_pos v (show (0 : Int) < 256 by decide); omega
                obtain ⟨T1, T2, T3, T4, ⟨ht1, ht2⟩, ⟨ht3, ht4⟩, ⟨hl1, hl2, hl3, hl4, hl5, hl6⟩, hTE, hTC⟩ := hT p hp2
                have hcT := fun wx => HPP.out T4 wx hl6
                rw [hTE, hTC] at hcT
                have hdec1 := fun wx => dec_any p wx (by omega)
                have hdec2 := fun wx => dec_any (255 - p) wx (by omega)
                have hqI : (255 : Int) - (p : Int) = ((255 - p : Nat) : Int) := by omega
                generalize 255 - p = q at *
                generalize decS p = D1 at *
                generalize decS q = D2 at *
                have hy1 : ¬ 9223372036854775807 < t.length + 11 := by omega
                have hy2 : ¬ 9223372036854775807 < T1.length + D1.length := by omega
                have hy3 : ¬ 9223372036854775807 < T2.length + 11 := by omega
                have hy4 : ¬ 9223372036854775807 < T3.length + D2.length := by omega
                have hplace := place_any v 256
                rw [hp] at hplace
                obtain ⟨C3, hC3⟩ : ∃ C3 : Cf, { C with p1 := (q : Int) } = C3 := ⟨_, rfl⟩
                rw [hC3] at hcT
                have HC3 := hid hC3
                have HT4 := hid (⟨ht3, ht4, hy3, hy4⟩ : _ ∧ _ ∧ _ ∧ _)
                have HHY := hid (⟨hs1, hs2, hc3, hc4, hz3, hz4⟩ : _ ∧ _ ∧ _ ∧ _ ∧ _ ∧ _)
                clear hT hTE hTC hp hC3 ht3 ht4 hy3 hy4 hs1 hs2 hc1 hc2 hc3 hc4 hz1 hz2 hz3 hz4
                go_wp2_with fail
                refine (hplace W2 (by decide) (by decide)).mono ?_
                rintro e w3 ⟨rfl, rfl⟩
                clear hplace
                go_wp2_with fail
                refine (hdec1 _).mono ?_
                rintro e w4 ⟨rfl, b4⟩
                replace hb := bnext hb b4
                have B1 := (HB1.out).below b4
                clear hdec1
                obtain ⟨ht3, ht4, hy3, hy4⟩ := HT4.out
                go_wp2_with fail
                refine (hdec2 _).mono ?_
                rintro e w5 ⟨rfl, b5⟩
                replace hb := bnext hb b5
                replace B1 := B1.below b5
                clear hdec2
                go_wp2_with fail
                refine (hcT _).mono ?_
                rintro e w6 ⟨rfl, b6⟩
                replace hb := bnext hb b6
                replace B1 := B1.below b6
                clear hcT ht1 ht2 ht3 ht4 hy1 hy2 hy3 hy4 HT4
                have h13 := B1.lt
                have N := Box.new w6 (cfL zeroC) 29
                have nb := bnew w6 (Obj.cells (cfL zeroC).toArray 29)
                go_upto_region 20 with (guard_target =~ wpList _ _ _ (⟨none, _, _, _, _, _⟩ :: _) _ _; refine wpList_store_conf (op := ⟨none, .store _ _ _, _, _, _, _⟩) (by rfl) _ _ (by rfl) w6.heap.size (C3) (zeroC) _ (by rfl) (by rfl) N ?_)
                have B3 := N.rowC (cfL (C3))
                replace nb := below_setRow nb (Nat.le_refl _) (cfL (C3)).toArray
                change Code.wp _ _ _ _ ((w6.alloc (Obj.cells (cfL zeroC).toArray 29)).setRow w6.heap.size (cfL (C3)).toArray)
                generalize ((w6.alloc (Obj.cells (cfL zeroC).toArray 29)).setRow w6.heap.size (cfL (C3)).toArray) = W6 at *
                generalize hgB3 : w6.heap.size = gB3 at *
                have nc : Below w6.heap.size w6 W6 := by rw [hgB3]; exact nb
                replace hb := bnext hb nc
                replace B1 := B1.below nc
                clear N nb nc
                obtain ⟨hs1, hs2, hc3, hc4, hz3, hz4⟩ := HHY.out
                go_upto_region 20 with fail
                apply share2 (P := fun (g : Nat) (w' : World) => Below W6.heap.size W6 w' ∧ Box w' g (cfL (CY)) 29)
                case h1 =>
                  intro tail
                  refine wp_region_held_drew (S := fun w' => Below W6.heap.size W6 w') (by kernel_rfl) (Below.drew (Below.refl _ _)) ?_
                  intro hHeld
                  generalize W6.drew = wd at *
                  refine rtake 0 rfl (by rfl) (by kernel_rfl) (by kernel_rfl) (by kernel_rfl) (fun _ _ _ h => h) hHeld (fun wx hwx => by go_simp; try with_reducible rfl) ?_
                  try simp only [Act.put, List.setIfInBounds_toArray, List.set_cons_zero, List.set_cons_succ]
                  refine rtake 1 rfl (by rfl) (by kernel_rfl) (by kernel_rfl) (by kernel_rfl) (fun _ _ _ h => h) hHeld (fun wx hwx => by go_simp; try with_reducible rfl) ?_
                  try simp only [Act.put, List.setIfInBounds_toArray, List.set_cons_zero, List.set_cons_succ]
                  refine rtake 2 rfl (by rfl) (by kernel_rfl) (by kernel_rfl) (by kernel_rfl) (fun _ _ _ h => h) hHeld (fun wx hwx => by go_simp; try with_reducible rfl) ?_
                  try simp only [Act.put, List.setIfInBounds_toArray, List.set_cons_zero, List.set_cons_succ]
                  refine rtake 3 rfl (by rfl) (by kernel_rfl) (by kernel_rfl) (by kernel_rfl) (fun _ _ _ h => h) hHeld (fun wx hwx => by go_simp; try with_reducible rfl) ?_
                  try simp only [Act.put, List.setIfInBounds_toArray, List.set_cons_zero, List.set_cons_succ]
                  refine rtake 4 rfl (by rfl) (by kernel_rfl) (by kernel_rfl) (by kernel_rfl) (fun _ _ _ h => h) hHeld (fun wx hwx => by go_simp; try with_reducible rfl) ?_
                  try simp only [Act.put, List.setIfInBounds_toArray, List.set_cons_zero, List.set_cons_succ]
                  refine rtake 5 rfl (by rfl) (by kernel_rfl) (by kernel_rfl) (by kernel_rfl) (fun _ _ _ h => h) hHeld (fun wx hwx => by go_simp; try with_reducible rfl) ?_
                  try simp only [Act.put, List.setIfInBounds_toArray, List.set_cons_zero, List.set_cons_succ]
                  refine rtake 6 rfl (by rfl) (by kernel_rfl) (by kernel_rfl) (by kernel_rfl) (fun _ _ _ h => h) hHeld (fun wx hwx => by go_simp; try with_reducible rfl) ?_
                  try simp only [Act.put, List.setIfInBounds_toArray, List.set_cons_zero, List.set_cons_succ]
                  refine rtake 7 rfl (by rfl) (by kernel_rfl) (by kernel_rfl) (by kernel_rfl) (fun _ _ _ h => h) hHeld (fun wx hwx => by go_simp; try with_reducible rfl) ?_
                  try simp only [Act.put, List.setIfInBounds_toArray, List.set_cons_zero, List.set_cons_succ]
                  refine rtake 8 rfl (by rfl) (by kernel_rfl) (by kernel_rfl) (by kernel_rfl) (fun _ _ _ h => h) hHeld (fun wx hwx => by go_simp; try with_reducible rfl) ?_
                  try simp only [Act.put, List.setIfInBounds_toArray, List.set_cons_zero, List.set_cons_succ]
                  refine rtwo 9 14 rfl rfl (by kernel_rfl) (by rfl) (by rfl) (fun K hK => ?_) (fun K hK => ?_)
                  · skip
                    go_simp
                    refine (hcY wd (by omega)).mono ?_
                    rintro e wb ⟨rfl, bb⟩
                    have hH := bnext hHeld bb
                    refine hK.out _ _ hH ?_
                    clear hK K hHeld
                    have hHeld := hH
                    clear hH
                    try simp only [Act.put, List.setIfInBounds_toArray, List.set_cons_zero, List.set_cons_succ]
                    refine rtake 10 rfl (by rfl) (by kernel_rfl) (by kernel_rfl) (by kernel_rfl) (fun _ _ _ h => h) hHeld (fun wx hwx => by go_simp; try with_reducible rfl) ?_
                    try simp only [Act.put, List.setIfInBounds_toArray, List.set_cons_zero, List.set_cons_succ]
                    refine rtake 11 rfl (by rfl) (by kernel_rfl) (by kernel_rfl) (by kernel_rfl) (fun _ _ _ h => h) hHeld (fun wx hwx => by go_simp; try with_reducible rfl) ?_
                    try simp only [Act.put, List.setIfInBounds_toArray, List.set_cons_zero, List.set_cons_succ]
                    refine rtake 12 rfl (by rfl) (by kernel_rfl) (by kernel_rfl) (by kernel_rfl) (fun _ _ _ h => h) hHeld (fun wx hwx => by go_simp; try with_reducible rfl) ?_
                    try simp only [Act.put, List.setIfInBounds_toArray, List.set_cons_zero, List.set_cons_succ]
                    refine rtake 13 rfl (by rfl) (by kernel_rfl) (by kernel_rfl) (by kernel_rfl) (fun _ _ _ h => h) hHeld (fun wx hwx => by go_simp; try with_reducible rfl) ?_
                    try simp only [Act.put, List.setIfInBounds_toArray, List.set_cons_zero, List.set_cons_succ]
                    refine rcall 14 rfl (by kernel_rfl) (by rfl) (fun K hK => ?_)
                    have hna := bnew wb (Obj.cells (cfL zeroC).toArray 29)
                    have hA := Box.new wb (cfL zeroC) 29
                    have hgX := hHeld.size
                    go_simp
                    change K _ (wb.alloc (Obj.cells (cfL zeroC).toArray 29))
                    have hH := bnext hHeld hna
                    refine hK.out _ _ hH ?_
                    clear hK K hHeld hna
                    have hHeld := hH
                    clear hH
                    generalize wb.alloc (Obj.cells (cfL zeroC).toArray 29) = WA at *
                    generalize wb.heap.size = g at *
                    try simp only [Act.put, List.setIfInBounds_toArray, List.set_cons_zero, List.set_cons_succ]
                    refine rcall 15 rfl (by kernel_rfl) (by rfl) (fun K hK => ?_)
                    refine op_store_conf (op := ⟨none, .store _ _ _, _, _, _, _⟩) _ _ rfl g (CY) zeroC _ rfl rfl hA ?_
                    have hH := below_setRow hHeld hgX (cfL (CY)).toArray
                    have hB := hA.rowC (cfL (CY))
                    refine hK.out _ _ hH ?_
                    clear hK K hHeld
                    have hHeld := hH
                    clear hH
                    generalize World.setRow _ _ _ = WS at *
                    try simp only [Act.put, List.setIfInBounds_toArray, List.set_cons_zero, List.set_cons_succ]
                    refine rtake 16 rfl (by rfl) (by kernel_rfl) (by kernel_rfl) (by kernel_rfl) (fun _ _ _ h => h) hHeld (fun wx hwx => by go_simp; try with_reducible rfl) ?_
                    try simp only [Act.put, List.setIfInBounds_toArray, List.set_cons_zero, List.set_cons_succ]
                    refine rtake 17 rfl (by rfl) (by kernel_rfl) (by kernel_rfl) (by kernel_rfl) (fun _ _ _ h => h) hHeld (fun wx hwx => by go_simp; try with_reducible rfl) ?_
                    try simp only [Act.put, List.setIfInBounds_toArray, List.set_cons_zero, List.set_cons_succ]
                    refine wpAnyH_done (by kernel_rfl) ?_ _
                    exact tail g WS ⟨hHeld, hB⟩
                  · skip
                    have hna := bnew wd (Obj.cells (cfL zeroC).toArray 29)
                    have hA := Box.new wd (cfL zeroC) 29
                    have hgX := hHeld.size
                    go_simp
                    change K _ (wd.alloc (Obj.cells (cfL zeroC).toArray 29))
                    have hH := bnext hHeld hna
                    refine hK.out _ _ hH ?_
                    clear hK K hHeld hna
                    have hHeld := hH
                    clear hH
                    generalize wd.alloc (Obj.cells (cfL zeroC).toArray 29) = WA at *
                    generalize wd.heap.size = g at *
                    try simp only [Act.put, List.setIfInBounds_toArray, List.set_cons_zero, List.set_cons_succ]
                    refine rcall 9 rfl (by kernel_rfl) (by rfl) (fun K hK => ?_)
                    go_simp
                    refine (hcY WA (by omega)).mono ?_
                    rintro e wb ⟨rfl, bb⟩
                    have hH := bnext hHeld bb
                    replace hA := hA.below bb
                    refine hK.out _ _ hH ?_
                    clear hK K hHeld
                    have hHeld := hH
                    clear hH
                    try simp only [Act.put, List.setIfInBounds_toArray, List.set_cons_zero, List.set_cons_succ]
                    refine rtake 10 rfl (by rfl) (by kernel_rfl) (by kernel_rfl) (by kernel_rfl) (fun _ _ _ h => h) hHeld (fun wx hwx => by go_simp; try with_reducible rfl) ?_
                    try simp only [Act.put, List.setIfInBounds_toArray, List.set_cons_zero, List.set_cons_succ]
                    refine rtake 11 rfl (by rfl) (by kernel_rfl) (by kernel_rfl) (by kernel_rfl) (fun _ _ _ h => h) hHeld (fun wx hwx => by go_simp; try with_reducible rfl) ?_
                    try simp only [Act.put, List.setIfInBounds_toArray, List.set_cons_zero, List.set_cons_succ]
                    refine rtake 12 rfl (by rfl) (by kernel_rfl) (by kernel_rfl) (by kernel_rfl) (fun _ _ _ h => h) hHeld (fun wx hwx => by go_simp; try with_reducible rfl) ?_
                    try simp only [Act.put, List.setIfInBounds_toArray, List.set_cons_zero, List.set_cons_succ]
                    refine rtake 13 rfl (by rfl) (by kernel_rfl) (by kernel_rfl) (by kernel_rfl) (fun _ _ _ h => h) hHeld (fun wx hwx => by go_simp; try with_reducible rfl) ?_
                    try simp only [Act.put, List.setIfInBounds_toArray, List.set_cons_zero, List.set_cons_succ]
                    refine rcall 15 rfl (by kernel_rfl) (by rfl) (fun K hK => ?_)
                    refine op_store_conf (op := ⟨none, .store _ _ _, _, _, _, _⟩) _ _ rfl g (CY) zeroC _ rfl rfl hA ?_
                    have hH := below_setRow hHeld hgX (cfL (CY)).toArray
                    have hB := hA.rowC (cfL (CY))
                    refine hK.out _ _ hH ?_
                    clear hK K hHeld
                    have hHeld := hH
                    clear hH
                    generalize World.setRow _ _ _ = WS at *
                    try simp only [Act.put, List.setIfInBounds_toArray, List.set_cons_zero, List.set_cons_succ]
                    refine rtake 16 rfl (by rfl) (by kernel_rfl) (by kernel_rfl) (by kernel_rfl) (fun _ _ _ h => h) hHeld (fun wx hwx => by go_simp; try with_reducible rfl) ?_
                    try simp only [Act.put, List.setIfInBounds_toArray, List.set_cons_zero, List.set_cons_succ]
                    refine rtake 17 rfl (by rfl) (by kernel_rfl) (by kernel_rfl) (by kernel_rfl) (fun _ _ _ h => h) hHeld (fun wx hwx => by go_simp; try with_reducible rfl) ?_
                    try simp only [Act.put, List.setIfInBounds_toArray, List.set_cons_zero, List.set_cons_succ]
                    refine wpAnyH_done (by kernel_rfl) ?_ _
                    exact tail g WS ⟨hHeld, hB⟩
                case h2 =>
                  rintro g4 W7 ⟨b7, B4⟩
                  replace B1 := B1.below b7
                  replace B3 := B3.below b7
                  replace hb := bnext hb b7
                  have hge : w.heap.size ≤ gB1 := HG1.out
                  have hne : gB3 ≠ gB1 := by omega
                  have hf3 := B1.free 3
                  have hc3' := B1.cell 3 _ rfl
                  clear hs1 hs2 hc3 hc4 hz3 hz4 B4
                  go_upto_region 22 with fail
                  replace B3 := B3.other hne 3 (.int .i64 (q : Int))
                  replace B1 := B1.set 3 (.int .i64 (q : Int))
                  have hset : (cfL C).set 3 (.int .i64 (q : Int)) = cfL C3 := by rw [← HC3.out]; rfl
                  rw [hset] at B1
                  replace hb := hb.setCell (p := ⟨gB1, 3, none⟩) hge (.int .i64 (q : Int))
                  generalize World.setCell _ _ _ = W8 at *
                  have hS3 := same_conf C3
                  clear hset hf3 hc3'
                  go_wp2_with (first | (guard_target =~ wpList _ _ _ (⟨some 126, _, _, _, _, _⟩ :: _) _ _; refine wpList_load_conf_g (op := ⟨some 126, .load _ _, _, _, _, _⟩) (by rfl) _ (by rfl) gB3 (by rfl) (C3) _ B3 ?_) | (guard_target =~ wpList _ _ _ (⟨some 127, _, _, _, _, _⟩ :: _) _ _; refine wpList_load_conf_g (op := ⟨some 127, .load _ _, _, _, _, _⟩) (by rfl) _ (by rfl) gB1 (by rfl) (C3) _ B1 ?_))
                  refine (awake10_from HD HC HP _).mono ?_
                  rintro e wz ⟨rfl, bz⟩
                  go_wp2_with fail
                  go_ret
                  exact ⟨rfl, bnext hb bz⟩
              · have hEI : (E == 0) = false := beq_false_of_ne hE0
                clear hc1 hc2 hc3 hc4 hs1 hs2 hz1 hz2 hz3 hz4
                go_wp2_with fail
                refine (awake10_from HD HC HP _).mono ?_
                rintro e wz ⟨rfl, bz⟩
                go_wp2_with fail
                go_ret
                exact ⟨rfl, bnext hb bz⟩
      · have hcI : ((c.toNat : Int) != 10) = true := by
          rw [bne_iff_ne]
          intro e
          exact h10 (UInt8.toNat_inj.1 (by show c.toNat = 10; omega))
        go_wp2_with fail
        go_round
        case rel => exact ⟨k - 1, by omega, by go_num⟩
        case measure => (simp [intOf] <;> omega)

end Go.Proofs.Ytmcnohndgnaagaa
