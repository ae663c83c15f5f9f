/- ConfOne, from contracts of the program's own (gen_conflaws.py). -/
import Derived.Test.YtmcnohndgnaagaaConfLaws0
import Derived.Test.YtmcnohndgnaagaaPlace
namespace Go.Proofs.Ytmcnohndgnaagaa
open Go.RowKit Go.Proofs
set_option maxRecDepth 50000
set_option linter.unusedVariables false
set_option linter.unusedSimpArgs false

theorem one_facts (cl : Int) (nm : List UInt8) (v : Nat) (c : Cf) (hnm : ∀ b ∈ nm, b ≠ 10) (hl : nm.length ≤ 20) (hv : v < 10000000000) (h1 : lineF (defC cl) ((nm ++ [32]) ++ decS v) = some c) (hc : CfOk c) : ∃ S1 S2 S3 S4 S5 S6 : List UInt8,
    ((⟨#[35, 32]⟩ : ByteArray) ++ ⟨nm.toArray⟩ = ⟨S1.toArray⟩ ∧ (⟨S1.toArray⟩ : ByteArray) ++ ⟨#[10]⟩ = ⟨S2.toArray⟩ ∧ (⟨S2.toArray⟩ : ByteArray) ++ ⟨nm.toArray⟩ = ⟨S3.toArray⟩) ∧
    ((⟨S3.toArray⟩ : ByteArray) ++ ⟨#[32]⟩ = ⟨S4.toArray⟩ ∧ (⟨S4.toArray⟩ : ByteArray) ++ ⟨(decS v).toArray⟩ = ⟨S5.toArray⟩ ∧ (⟨S5.toArray⟩ : ByteArray) ++ ⟨#[10]⟩ = ⟨S6.toArray⟩) ∧
    (S1.length ≤ 100 ∧ S2.length ≤ 100 ∧ S3.length ≤ 100 ∧ S4.length ≤ 100 ∧ (decS v).length ≤ 10 ∧ S5.length ≤ 100 ∧ S6.length ≤ 5000) ∧ parseE cl S6 = 0 ∧ parseC cl S6 = c ∧ parseN cl S6 = 0 := by
  have hd := decS_lt hv
  refine ⟨[35, 32] ++ nm, ([35, 32] ++ nm) ++ [10], (([35, 32] ++ nm) ++ [10]) ++ nm, ((([35, 32] ++ nm) ++ [10]) ++ nm) ++ [32], (((([35, 32] ++ nm) ++ [10]) ++ nm) ++ [32]) ++ decS v, ((((([35, 32] ++ nm) ++ [10]) ++ nm) ++ [32]) ++ decS v) ++ [10],
    ⟨cat_bytes _ _, cat_bytes _ _, cat_bytes _ _⟩, ⟨cat_bytes _ _, cat_bytes _ _, cat_bytes _ _⟩, ⟨?_, ?_, ?_, ?_, hd, ?_, ?_⟩, ?_⟩
  · simp; omega
  · simp; omega
  · simp; omega
  · simp; omega
  · simp; omega
  · simp; omega
  · have e : ((((([35, 32] ++ nm) ++ [10]) ++ nm) ++ [32]) ++ decS v) ++ [10] = (35 :: ([32] ++ nm)) ++ 10 :: (((nm ++ [32]) ++ decS v) ++ 10 :: []) := by simp
    rw [e]
    refine one_says ?_ (no_ten ?_ _) h1 hc
    · intro b hb
      rcases List.mem_append.1 hb with h | h
      · rw [List.mem_singleton.1 h]; decide
      · exact hnm b h
    · intro b hb
      rcases List.mem_append.1 hb with h | h
      · exact hnm b h
      · rw [List.mem_singleton.1 h]; decide

set_option maxRecDepth 100000 in
set_option maxHeartbeats 8000000 in
theorem confOne_from (HD : CDef) (HC : CChk) (HP : CPar) (cl : Int) (hcl : 0 ≤ cl ∧ cl < 18446744073709551616) (which v : Int) (w : World) :
    Calls Try.prog 5 #[.int .u64 cl, .int .i64 which, .int .i64 v] w fun e w' => e = .returned (.bool true) ∧ Below w.heap.size w w' := by
  have hd := fun wx => HD cl wx hcl
  have hS := same_conf (defC cl)
  have hch := fun wx => HC (defC cl) wx hcl
  go_enter Try.func5, Try.ntmps5
  go_wp2_with fail
  refine (hd _).mono ?_
  rintro e w1 ⟨rfl, hb⟩
  clear hd
  have hgle := hb.size
  have N := Box.new w1 (cfL zeroC) 29
  have nb := bnew w1 (Obj.cells (cfL zeroC).toArray 29)
  go_upto_region 2 with (guard_target =~ wpList _ _ _ (⟨none, _, _, _, _, _⟩ :: _) _ _; refine wpList_store_conf (op := ⟨none, .store _ _ _, _, _, _, _⟩) (by rfl) _ _ (by rfl) w1.heap.size (defC cl) (zeroC) _ (by rfl) (by rfl) N ?_)
  have B1 := N.rowC (cfL (defC cl))
  replace nb := below_setRow nb (Nat.le_refl _) (cfL (defC cl)).toArray
  change Code.wp _ _ _ _ ((w1.alloc (Obj.cells (cfL zeroC).toArray 29)).setRow w1.heap.size (cfL (defC cl)).toArray)
  generalize ((w1.alloc (Obj.cells (cfL zeroC).toArray 29)).setRow w1.heap.size (cfL (defC cl)).toArray) = W1 at *
  generalize hgB1 : w1.heap.size = gB1 at *
  have nc : Below w1.heap.size w1 W1 := by rw [hgB1]; exact nb
  replace hb := bnext hb nc
  clear N nb nc
  go_wp2_with (guard_target =~ wpList _ _ _ (⟨some 14, _, _, _, _, _⟩ :: _) _ _; refine wpList_load_conf (op := ⟨some 14, .load _ _, _, _, _, _⟩) (by rfl) _ (by rfl) gB1 (by rfl) (defC cl) _ B1 ?_)
  refine (hch _).mono ?_
  rintro e w2 ⟨rfl, b2⟩
  replace hb := bnext hb b2
  replace B1 := B1.below b2
  clear hch hS
  by_cases hok : CfOk (defC cl)
  · rw [show checkE (defC cl) = 0 from if_pos hok]
    have hp4 := place_any which 4
    obtain ⟨q, hq⟩ : ∃ q : Nat, which % 4 = (q : Int) := ⟨(which % 4).toNat, by have := Int.emod_nonneg which (show (4 : Int) ≠ 0 by decide); omega⟩
    have hq4 : q < 4 := by have := Int.emod_lt_of_pos which (show (0 : Int) < 4 by decide); omega
    rw [hq] at hp4
    clear hq
    go_wp2_with fail
    refine (hp4 _ (by decide) (by decide)).mono ?_
    rintro e w2' ⟨rfl, rfl⟩
    clear hp4
    rcases (by omega : q = 0 ∨ q = 1 ∨ q = 2 ∨ q = 3) with rfl | rfl | rfl | rfl
    · skip
      obtain ⟨p, hp⟩ : ∃ p : Nat, v % 256 = (p : Int) := ⟨(v % 256).toNat, by have := Int.emod_nonneg v (show (256 : Int) ≠ 0 by decide); omega⟩
      have hp2 : p < 256 := by have := Int.emod_lt_of_pos v (show (0 : Int) < 256 by decide); omega
      have hplace := place_any v 256
      rw [hp] at hplace
      obtain ⟨x, hx⟩ : ∃ x : Nat, p = x := ⟨_, rfl⟩
      have hxI : ((p : Int) : Int) = (x : Int) := by omega
      have hcx : CfOk { defC cl with p1 := (x : Int) } := by
        obtain ⟨x1, x2, -⟩ := hok
        unfold CfOk defC
        simp only
        exact ⟨x1, x2, by omega, by omega, by omega, by omega, by omega, by omega, by omega, by omega, by omega, by omega, by omega, by omega, by omega, by omega, by omega, by omega, by omega, by omega, fun h => by cases h⟩
      obtain ⟨S1, S2, S3, S4, S5, S6, ⟨t1, t2, t3⟩, ⟨t4, t5, t6⟩, ⟨l1, l2, l3, l4, l5, l6, l7⟩, hE, hC, hN⟩ := one_facts cl [112, 114, 105, 111, 114, 105, 116, 121, 49] x _ (by decide) (by decide) (by omega) (line_p1 _ (by omega)) hcx
      have hcall := fun wx => HP cl S6 wx hcl l7
      rw [hE, hC, hN] at hcall
      have hdec := fun wx => dec_any x wx (by omega)
      generalize decS x = D at *
      obtain ⟨C3, hC3⟩ : ∃ C3 : Cf, { defC cl with p1 := (x : Int) } = C3 := ⟨_, rfl⟩
      rw [hC3] at hcall
      have hset : (cfL (defC cl)).set 3 (.int .i64 (x : Int)) = cfL C3 := by rw [← hC3]; rfl
      have HT := hid (⟨t1, t2, t3, t4, t5, t6⟩ : _ ∧ _ ∧ _ ∧ _ ∧ _ ∧ _)
      have HL := hid (⟨l1, l2, l3, l4, l5, l6⟩ : _ ∧ _ ∧ _ ∧ _ ∧ _ ∧ _)
      clear hE hC hN hcx hx hC3 hok t1 t2 t3 t4 t5 t6 l1 l2 l3 l4 l5 l6 l7 hp
      rw [show ((0 : Nat) : Int) = 0 from rfl]
      go_wp2_with fail
      refine (hplace _ (by decide) (by decide)).mono ?_
      rintro e w3 ⟨rfl, rfl⟩
      clear hplace
      have hf := B1.free 3
      have hce := B1.cell 3 _ rfl
      go_upto_region 12 with fail
      replace B1 := B1.set 3 (.int .i64 (x : Int))
      rw [hset] at B1
      replace hb := hb.setCell (p := ⟨gB1, 3, none⟩) hgle (.int .i64 (x : Int))
      clear hf hce
      generalize World.setCell _ _ _ = W2 at *
      have hce := (B1.cell 3 (.int .i64 (x : Int)) (by rw [← hset]; rfl))
      go_wp2_with fail
      refine (hdec _).mono ?_
      rintro e w4 ⟨rfl, b4⟩
      replace hb := bnext hb b4
      replace B1 := B1.below b4
      clear hdec hce
      obtain ⟨t1, t2, t3, t4, t5, t6⟩ := HT.out
      obtain ⟨l1, l2, l3, l4, l5, l6⟩ := HL.out
      have y1 : ¬ 9223372036854775807 < S1.length + 1 := by omega
      have y2 : ¬ 9223372036854775807 < S2.length + 9 := by omega
      have y3 : ¬ 9223372036854775807 < S3.length + 1 := by omega
      have y4 : ¬ 9223372036854775807 < S4.length + D.length := by omega
      have y5 : ¬ 9223372036854775807 < S5.length + 1 := by omega
      clear l1 l2 l3 l4 l5 l6
      go_wp2_with fail
      refine (hcall _).mono ?_
      rintro e w5 ⟨rfl, b5⟩
      replace hb := bnext hb b5
      replace B1 := B1.below b5
      clear hcall t1 t2 t3 t4 t5 t6 y1 y2 y3 y4 y5 HT HL
      have N := Box.new w5 (cfL zeroC) 29
      have nb := bnew w5 (Obj.cells (cfL zeroC).toArray 29)
      go_upto_region 22 with (guard_target =~ wpList _ _ _ (⟨none, _, _, _, _, _⟩ :: _) _ _; refine wpList_store_conf (op := ⟨none, .store _ _ _, _, _, _, _⟩) (by rfl) _ _ (by rfl) w5.heap.size (C3) (zeroC) _ (by rfl) (by rfl) N ?_)
      have B3 := N.rowC (cfL (C3))
      replace nb := below_setRow nb (Nat.le_refl _) (cfL (C3)).toArray
      change Code.wp _ _ _ _ ((w5.alloc (Obj.cells (cfL zeroC).toArray 29)).setRow w5.heap.size (cfL (C3)).toArray)
      generalize ((w5.alloc (Obj.cells (cfL zeroC).toArray 29)).setRow w5.heap.size (cfL (C3)).toArray) = W5 at *
      generalize hgB3 : w5.heap.size = gB3 at *
      have nc : Below w5.heap.size w5 W5 := by rw [hgB3]; exact nb
      replace hb := bnext hb nc
      replace B1 := B1.below nc
      clear N nb nc
      have hS3 := same_conf C3
      go_wp2_with (first | (guard_target =~ wpList _ _ _ (⟨some 70, _, _, _, _, _⟩ :: _) _ _; refine wpList_load_conf_g (op := ⟨some 70, .load _ _, _, _, _, _⟩) (by rfl) _ (by rfl) gB3 (by rfl) (C3) _ B3 ?_) | (guard_target =~ wpList _ _ _ (⟨some 71, _, _, _, _, _⟩ :: _) _ _; refine wpList_load_conf_g (op := ⟨some 71, .load _ _, _, _, _, _⟩) (by rfl) _ (by rfl) gB1 (by rfl) (C3) _ B1 ?_))
      refine (awake10_from HD HC HP _).mono ?_
      rintro e wz ⟨rfl, bz⟩
      go_wp2_with fail
      go_ret
      exact ⟨rfl, bnext hb bz⟩
    · skip
      obtain ⟨p, hp⟩ : ∃ p : Nat, v % 256 = (p : Int) := ⟨(v % 256).toNat, by have := Int.emod_nonneg v (show (256 : Int) ≠ 0 by decide); omega⟩
      have hp2 : p < 256 := by have := Int.emod_lt_of_pos v (show (0 : Int) < 256 by decide); omega
      have hplace := place_any v 256
      rw [hp] at hplace
      obtain ⟨x, hx⟩ : ∃ x : Nat, p = x := ⟨_, rfl⟩
      have hxI : ((p : Int) : Int) = (x : Int) := by omega
      have hcx : CfOk { defC cl with p2 := (x : Int) } := by
        obtain ⟨x1, x2, -⟩ := hok
        unfold CfOk defC
        simp only
        exact ⟨x1, x2, by omega, by omega, by omega, by omega, by omega, by omega, by omega, by omega, by omega, by omega, by omega, by omega, by omega, by omega, by omega, by omega, by omega, by omega, fun h => by cases h⟩
      obtain ⟨S1, S2, S3, S4, S5, S6, ⟨t1, t2, t3⟩, ⟨t4, t5, t6⟩, ⟨l1, l2, l3, l4, l5, l6, l7⟩, hE, hC, hN⟩ := one_facts cl [112, 114, 105, 111, 114, 105, 116, 121, 50] x _ (by decide) (by decide) (by omega) (line_p2 _ (by omega)) hcx
      have hcall := fun wx => HP cl S6 wx hcl l7
      rw [hE, hC, hN] at hcall
      have hdec := fun wx => dec_any x wx (by omega)
      generalize decS x = D at *
      obtain ⟨C3, hC3⟩ : ∃ C3 : Cf, { defC cl with p2 := (x : Int) } = C3 := ⟨_, rfl⟩
      rw [hC3] at hcall
      have hset : (cfL (defC cl)).set 4 (.int .i64 (x : Int)) = cfL C3 := by rw [← hC3]; rfl
      have HT := hid (⟨t1, t2, t3, t4, t5, t6⟩ : _ ∧ _ ∧ _ ∧ _ ∧ _ ∧ _)
      have HL := hid (⟨l1, l2, l3, l4, l5, l6⟩ : _ ∧ _ ∧ _ ∧ _ ∧ _ ∧ _)
      clear hE hC hN hcx hx hC3 hok t1 t2 t3 t4 t5 t6 l1 l2 l3 l4 l5 l6 l7 hp
      rw [show ((1 : Nat) : Int) = 1 from rfl]
      go_wp2_with fail
      refine (hplace _ (by decide) (by decide)).mono ?_
      rintro e w3 ⟨rfl, rfl⟩
      clear hplace
      have hf := B1.free 4
      have hce := B1.cell 4 _ rfl
      go_upto_region 16 with fail
      replace B1 := B1.set 4 (.int .i64 (x : Int))
      rw [hset] at B1
      replace hb := hb.setCell (p := ⟨gB1, 4, none⟩) hgle (.int .i64 (x : Int))
      clear hf hce
      generalize World.setCell _ _ _ = W2 at *
      have hce := (B1.cell 4 (.int .i64 (x : Int)) (by rw [← hset]; rfl))
      go_wp2_with fail
      refine (hdec _).mono ?_
      rintro e w4 ⟨rfl, b4⟩
      replace hb := bnext hb b4
      replace B1 := B1.below b4
      clear hdec hce
      obtain ⟨t1, t2, t3, t4, t5, t6⟩ := HT.out
      obtain ⟨l1, l2, l3, l4, l5, l6⟩ := HL.out
      have y1 : ¬ 9223372036854775807 < S1.length + 1 := by omega
      have y2 : ¬ 9223372036854775807 < S2.length + 9 := by omega
      have y3 : ¬ 9223372036854775807 < S3.length + 1 := by omega
      have y4 : ¬ 9223372036854775807 < S4.length + D.length := by omega
      have y5 : ¬ 9223372036854775807 < S5.length + 1 := by omega
      clear l1 l2 l3 l4 l5 l6
      go_wp2_with fail
      refine (hcall _).mono ?_
      rintro e w5 ⟨rfl, b5⟩
      replace hb := bnext hb b5
      replace B1 := B1.below b5
      clear hcall t1 t2 t3 t4 t5 t6 y1 y2 y3 y4 y5 HT HL
      have N := Box.new w5 (cfL zeroC) 29
      have nb := bnew w5 (Obj.cells (cfL zeroC).toArray 29)
      go_upto_region 22 with (guard_target =~ wpList _ _ _ (⟨none, _, _, _, _, _⟩ :: _) _ _; refine wpList_store_conf (op := ⟨none, .store _ _ _, _, _, _, _⟩) (by rfl) _ _ (by rfl) w5.heap.size (C3) (zeroC) _ (by rfl) (by rfl) N ?_)
      have B3 := N.rowC (cfL (C3))
      replace nb := below_setRow nb (Nat.le_refl _) (cfL (C3)).toArray
      change Code.wp _ _ _ _ ((w5.alloc (Obj.cells (cfL zeroC).toArray 29)).setRow w5.heap.size (cfL (C3)).toArray)
      generalize ((w5.alloc (Obj.cells (cfL zeroC).toArray 29)).setRow w5.heap.size (cfL (C3)).toArray) = W5 at *
      generalize hgB3 : w5.heap.size = gB3 at *
      have nc : Below w5.heap.size w5 W5 := by rw [hgB3]; exact nb
      replace hb := bnext hb nc
      replace B1 := B1.below nc
      clear N nb nc
      have hS3 := same_conf C3
      go_wp2_with (first | (guard_target =~ wpList _ _ _ (⟨some 70, _, _, _, _, _⟩ :: _) _ _; refine wpList_load_conf_g (op := ⟨some 70, .load _ _, _, _, _, _⟩) (by rfl) _ (by rfl) gB3 (by rfl) (C3) _ B3 ?_) | (guard_target =~ wpList _ _ _ (⟨some 71, _, _, _, _, _⟩ :: _) _ _; refine wpList_load_conf_g (op := ⟨some 71, .load _ _, _, _, _, _⟩) (by rfl) _ (by rfl) gB1 (by rfl) (C3) _ B1 ?_))
      refine (awake10_from HD HC HP _).mono ?_
      rintro e wz ⟨rfl, bz⟩
      go_wp2_with fail
      go_ret
      exact ⟨rfl, bnext hb bz⟩
    · skip
      obtain ⟨p, hp⟩ : ∃ p : Nat, v % 9 = (p : Int) := ⟨(v % 9).toNat, by have := Int.emod_nonneg v (show (9 : Int) ≠ 0 by decide); omega⟩
      have hp2 : p < 9 := by have := Int.emod_lt_of_pos v (show (0 : Int) < 9 by decide); omega
      have hplace := place_any v 9
      rw [hp] at hplace
      obtain ⟨x, hx⟩ : ∃ x : Nat, 2 + p = x := ⟨_, rfl⟩
      have hxI : (2 + (p : Int) : Int) = (x : Int) := by omega
      have hcx : CfOk { defC cl with tm := (x : Int) } := by
        obtain ⟨x1, x2, -⟩ := hok
        unfold CfOk defC
        simp only
        exact ⟨x1, x2, by omega, by omega, by omega, by omega, by omega, by omega, by omega, by omega, by omega, by omega, by omega, by omega, by omega, by omega, by omega, by omega, by omega, by omega, fun h => by cases h⟩
      obtain ⟨S1, S2, S3, S4, S5, S6, ⟨t1, t2, t3⟩, ⟨t4, t5, t6⟩, ⟨l1, l2, l3, l4, l5, l6, l7⟩, hE, hC, hN⟩ := one_facts cl [116, 105, 109, 101, 111, 117, 116] x _ (by decide) (by decide) (by omega) (line_tm _ (by omega)) hcx
      have hcall := fun wx => HP cl S6 wx hcl l7
      rw [hE, hC, hN] at hcall
      have hdec := fun wx => dec_any x wx (by omega)
      generalize decS x = D at *
      obtain ⟨C3, hC3⟩ : ∃ C3 : Cf, { defC cl with tm := (x : Int) } = C3 := ⟨_, rfl⟩
      rw [hC3] at hcall
      have hset : (cfL (defC cl)).set 12 (.int .i64 (x : Int)) = cfL C3 := by rw [← hC3]; rfl
      have HT := hid (⟨t1, t2, t3, t4, t5, t6⟩ : _ ∧ _ ∧ _ ∧ _ ∧ _ ∧ _)
      have HL := hid (⟨l1, l2, l3, l4, l5, l6⟩ : _ ∧ _ ∧ _ ∧ _ ∧ _ ∧ _)
      clear hE hC hN hcx hx hC3 hok t1 t2 t3 t4 t5 t6 l1 l2 l3 l4 l5 l6 l7 hp
      rw [show ((2 : Nat) : Int) = 2 from rfl]
      go_wp2_with fail
      refine (hplace _ (by decide) (by decide)).mono ?_
      rintro e w3 ⟨rfl, rfl⟩
      clear hplace
      have hf := B1.free 12
      have hce := B1.cell 12 _ rfl
      go_upto_region 20 with fail
      replace B1 := B1.set 12 (.int .i64 (x : Int))
      rw [hset] at B1
      replace hb := hb.setCell (p := ⟨gB1, 12, none⟩) hgle (.int .i64 (x : Int))
      clear hf hce
      generalize World.setCell _ _ _ = W2 at *
      have hce := (B1.cell 12 (.int .i64 (x : Int)) (by rw [← hset]; rfl))
      go_wp2_with fail
      refine (hdec _).mono ?_
      rintro e w4 ⟨rfl, b4⟩
      replace hb := bnext hb b4
      replace B1 := B1.below b4
      clear hdec hce
      obtain ⟨t1, t2, t3, t4, t5, t6⟩ := HT.out
      obtain ⟨l1, l2, l3, l4, l5, l6⟩ := HL.out
      have y1 : ¬ 9223372036854775807 < S1.length + 1 := by omega
      have y2 : ¬ 9223372036854775807 < S2.length + 7 := by omega
      have y3 : ¬ 9223372036854775807 < S3.length + 1 := by omega
      have y4 : ¬ 9223372036854775807 < S4.length + D.length := by omega
      have y5 : ¬ 9223372036854775807 < S5.length + 1 := by omega
      clear l1 l2 l3 l4 l5 l6
      go_wp2_with fail
      refine (hcall _).mono ?_
      rintro e w5 ⟨rfl, b5⟩
      replace hb := bnext hb b5
      replace B1 := B1.below b5
      clear hcall t1 t2 t3 t4 t5 t6 y1 y2 y3 y4 y5 HT HL
      have N := Box.new w5 (cfL zeroC) 29
      have nb := bnew w5 (Obj.cells (cfL zeroC).toArray 29)
      go_upto_region 22 with (guard_target =~ wpList _ _ _ (⟨none, _, _, _, _, _⟩ :: _) _ _; refine wpList_store_conf (op := ⟨none, .store _ _ _, _, _, _, _⟩) (by rfl) _ _ (by rfl) w5.heap.size (C3) (zeroC) _ (by rfl) (by rfl) N ?_)
      have B3 := N.rowC (cfL (C3))
      replace nb := below_setRow nb (Nat.le_refl _) (cfL (C3)).toArray
      change Code.wp _ _ _ _ ((w5.alloc (Obj.cells (cfL zeroC).toArray 29)).setRow w5.heap.size (cfL (C3)).toArray)
      generalize ((w5.alloc (Obj.cells (cfL zeroC).toArray 29)).setRow w5.heap.size (cfL (C3)).toArray) = W5 at *
      generalize hgB3 : w5.heap.size = gB3 at *
      have nc : Below w5.heap.size w5 W5 := by rw [hgB3]; exact nb
      replace hb := bnext hb nc
      replace B1 := B1.below nc
      clear N nb nc
      have hS3 := same_conf C3
      go_wp2_with (first | (guard_target =~ wpList _ _ _ (⟨some 70, _, _, _, _, _⟩ :: _) _ _; refine wpList_load_conf_g (op := ⟨some 70, .load _ _, _, _, _, _⟩) (by rfl) _ (by rfl) gB3 (by rfl) (C3) _ B3 ?_) | (guard_target =~ wpList _ _ _ (⟨some 71, _, _, _, _, _⟩ :: _) _ _; refine wpList_load_conf_g (op := ⟨some 71, .load _ _, _, _, _, _⟩) (by rfl) _ (by rfl) gB1 (by rfl) (C3) _ B1 ?_))
      refine (awake10_from HD HC HP _).mono ?_
      rintro e wz ⟨rfl, bz⟩
      go_wp2_with fail
      go_ret
      exact ⟨rfl, bnext hb bz⟩
    · skip
      obtain ⟨p, hp⟩ : ∃ p : Nat, v % 1000000 = (p : Int) := ⟨(v % 1000000).toNat, by have := Int.emod_nonneg v (show (1000000 : Int) ≠ 0 by decide); omega⟩
      have hp2 : p < 1000000 := by have := Int.emod_lt_of_pos v (show (0 : Int) < 1000000 by decide); omega
      have hplace := place_any v 1000000
      rw [hp] at hplace
      obtain ⟨x, hx⟩ : ∃ x : Nat, p = x := ⟨_, rfl⟩
      have hxI : ((p : Int) : Int) = (x : Int) := by omega
      have hcx : CfOk { defC cl with st := (x : Int) } := by
        obtain ⟨x1, x2, -⟩ := hok
        unfold CfOk defC
        simp only
        exact ⟨x1, x2, by omega, by omega, by omega, by omega, by omega, by omega, by omega, by omega, by omega, by omega, by omega, by omega, by omega, by omega, by omega, by omega, by omega, by omega, fun h => by cases h⟩
      obtain ⟨S1, S2, S3, S4, S5, S6, ⟨t1, t2, t3⟩, ⟨t4, t5, t6⟩, ⟨l1, l2, l3, l4, l5, l6, l7⟩, hE, hC, hN⟩ := one_facts cl [115, 116, 101, 112] x _ (by decide) (by decide) (by omega) (line_st _ (by omega)) hcx
      have hcall := fun wx => HP cl S6 wx hcl l7
      rw [hE, hC, hN] at hcall
      have hdec := fun wx => dec_any x wx (by omega)
      generalize decS x = D at *
      obtain ⟨C3, hC3⟩ : ∃ C3 : Cf, { defC cl with st := (x : Int) } = C3 := ⟨_, rfl⟩
      rw [hC3] at hcall
      have hset : (cfL (defC cl)).set 18 (.int .i64 (x : Int)) = cfL C3 := by rw [← hC3]; rfl
      have HT := hid (⟨t1, t2, t3, t4, t5, t6⟩ : _ ∧ _ ∧ _ ∧ _ ∧ _ ∧ _)
      have HL := hid (⟨l1, l2, l3, l4, l5, l6⟩ : _ ∧ _ ∧ _ ∧ _ ∧ _ ∧ _)
      clear hE hC hN hcx hx hC3 hok t1 t2 t3 t4 t5 t6 l1 l2 l3 l4 l5 l6 l7 hp
      rw [show ((3 : Nat) : Int) = 3 from rfl]
      go_wp2_with fail
      refine (hplace _ (by decide) (by decide)).mono ?_
      rintro e w3 ⟨rfl, rfl⟩
      clear hplace
      have hf := B1.free 18
      have hce := B1.cell 18 _ rfl
      go_upto_region 8 with fail
      replace B1 := B1.set 18 (.int .i64 (x : Int))
      rw [hset] at B1
      replace hb := hb.setCell (p := ⟨gB1, 18, none⟩) hgle (.int .i64 (x : Int))
      clear hf hce
      generalize World.setCell _ _ _ = W2 at *
      have hce := (B1.cell 18 (.int .i64 (x : Int)) (by rw [← hset]; rfl))
      go_wp2_with fail
      refine (hdec _).mono ?_
      rintro e w4 ⟨rfl, b4⟩
      replace hb := bnext hb b4
      replace B1 := B1.below b4
      clear hdec hce
      obtain ⟨t1, t2, t3, t4, t5, t6⟩ := HT.out
      obtain ⟨l1, l2, l3, l4, l5, l6⟩ := HL.out
      have y1 : ¬ 9223372036854775807 < S1.length + 1 := by omega
      have y2 : ¬ 9223372036854775807 < S2.length + 4 := by omega
      have y3 : ¬ 9223372036854775807 < S3.length + 1 := by omega
      have y4 : ¬ 9223372036854775807 < S4.length + D.length := by omega
      have y5 : ¬ 9223372036854775807 < S5.length + 1 := by omega
      clear l1 l2 l3 l4 l5 l6
      go_wp2_with fail
      refine (hcall _).mono ?_
      rintro e w5 ⟨rfl, b5⟩
      replace hb := bnext hb b5
      replace B1 := B1.below b5
      clear hcall t1 t2 t3 t4 t5 t6 y1 y2 y3 y4 y5 HT HL
      have N := Box.new w5 (cfL zeroC) 29
      have nb := bnew w5 (Obj.cells (cfL zeroC).toArray 29)
      go_upto_region 22 with (guard_target =~ wpList _ _ _ (⟨none, _, _, _, _, _⟩ :: _) _ _; refine wpList_store_conf (op := ⟨none, .store _ _ _, _, _, _, _⟩) (by rfl) _ _ (by rfl) w5.heap.size (C3) (zeroC) _ (by rfl) (by rfl) N ?_)
      have B3 := N.rowC (cfL (C3))
      replace nb := below_setRow nb (Nat.le_refl _) (cfL (C3)).toArray
      change Code.wp _ _ _ _ ((w5.alloc (Obj.cells (cfL zeroC).toArray 29)).setRow w5.heap.size (cfL (C3)).toArray)
      generalize ((w5.alloc (Obj.cells (cfL zeroC).toArray 29)).setRow w5.heap.size (cfL (C3)).toArray) = W5 at *
      generalize hgB3 : w5.heap.size = gB3 at *
      have nc : Below w5.heap.size w5 W5 := by rw [hgB3]; exact nb
      replace hb := bnext hb nc
      replace B1 := B1.below nc
      clear N nb nc
      have hS3 := same_conf C3
      go_wp2_with (first | (guard_target =~ wpList _ _ _ (⟨some 70, _, _, _, _, _⟩ :: _) _ _; refine wpList_load_conf_g (op := ⟨some 70, .load _ _, _, _, _, _⟩) (by rfl) _ (by rfl) gB3 (by rfl) (C3) _ B3 ?_) | (guard_target =~ wpList _ _ _ (⟨some 71, _, _, _, _, _⟩ :: _) _ _; refine wpList_load_conf_g (op := ⟨some 71, .load _ _, _, _, _, _⟩) (by rfl) _ (by rfl) gB1 (by rfl) (C3) _ B1 ?_))
      refine (awake10_from HD HC HP _).mono ?_
      rintro e wz ⟨rfl, bz⟩
      go_wp2_with fail
      go_ret
      exact ⟨rfl, bnext hb bz⟩
  · rw [show checkE (defC cl) = 15 from if_neg hok]
    go_wp2_with fail
    refine (awake10_from HD HC HP _).mono ?_
    rintro e wz ⟨rfl, bz⟩
    go_wp2_with fail
    go_ret
    exact ⟨rfl, bnext hb bz⟩

end Go.Proofs.Ytmcnohndgnaagaa
