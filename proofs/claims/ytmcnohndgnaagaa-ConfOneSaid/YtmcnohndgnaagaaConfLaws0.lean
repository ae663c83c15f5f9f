/- carillonlaw10's dec and awake, from contracts of the program's own (gen_conflaws.py). -/
import Derived.Test.YtmcnohndgnaagaaConfVal
import Derived.Test.YtmcnohndgnaagaaConfSay
import Derived.Test.YtmcnohndgnaagaaLib
namespace Go.Proofs.Ytmcnohndgnaagaa
open Go.RowKit Go.Proofs
set_option maxRecDepth 50000
set_option linter.unusedVariables false
set_option linter.unusedSimpArgs false

/-- The program's own, as the chapter has them. -/
def CfIn (c : Cf) : Prop := 0 ≤ c.cl ∧ c.cl < 18446744073709551616
def CDef : Prop := ∀ (cl : Int) (w : World), 0 ≤ cl ∧ cl < 18446744073709551616 →
  Calls Try.prog 11 #[.int .u64 cl] w fun e w' => e = .returned (.agg (cfL (defC cl)).toArray) ∧ Below w.heap.size w w'
def CChk : Prop := ∀ (c : Cf) (w : World), CfIn c →
  Calls Try.prog 12 #[.agg (cfL c).toArray] w fun e w' => e = .returned (.int .i64 (checkE c)) ∧ Below w.heap.size w w'
def CPar : Prop := ∀ (cl : Int) (t : List UInt8) (w : World), 0 ≤ cl ∧ cl < 18446744073709551616 → t.length ≤ 5000 →
  Calls Try.prog 7 #[.int .u64 cl, sv t] w fun e w' => e = .returned (.tuple #[.agg (cfL (parseC cl t)).toArray, .int .i64 (parseN cl t : Nat), .int .i64 (parseE cl t)]) ∧ Below w.heap.size w w'

theorem dig_str : ∀ v, v < 10 → (⟨#[48, 49, 50, 51, 52, 53, 54, 55, 56, 57]⟩ : ByteArray).extract v (v + 1) = ⟨[UInt8.ofNat (48 + v)].toArray⟩ := by decide

set_option maxRecDepth 100000 in
set_option maxHeartbeats 8000000 in
theorem dec_any (v : Nat) (w : World) (hv : v < 10000000000) :
    Calls Try.prog 9 #[.int .i64 (v : Int)] w fun e w' => e = .returned (sv (decS v)) ∧ Below w.heap.size w w' := by
  induction v using Nat.strongRecOn generalizing w with
  | ind v ih =>
    by_cases h : v < 10
    · rw [decS_small h]
      have hS := dig_str v h
      have hI : (v : Int) < 10 := by omega
      generalize UInt8.ofNat (48 + v) = b at *
      go_enter Try.func9, Try.ntmps9
      go_wp2_with fail
      go_ret
      exact ⟨rfl, Below.refl _ _⟩
    · rw [decS_more h]
      have hS := dig_str (v % 10) (by omega)
      have hI : ¬ (v : Int) < 10 := by omega
      have hq : (v : Int).tdiv 10 = ((v / 10 : Nat) : Int) := by rw [Int.tdiv_eq_ediv_of_nonneg (by omega)]; omega
      have hm : (v : Int).tmod 10 = ((v % 10 : Nat) : Int) := by rw [Int.tmod_eq_emod_of_nonneg (by omega)]; omega
      have hcall := fun wx => ih (v / 10) (by omega) wx (by omega)
      have hcat := cat_bytes (decS (v / 10)) [UInt8.ofNat (48 + v % 10)]
      have hlen := decS_lt (v := v / 10) (by omega)
      have hm10 : v % 10 < 10 := by omega
      have hd10 : v / 10 < 10000000000 := by omega
      clear ih
      generalize decS (v / 10) = A at *
      generalize UInt8.ofNat (48 + v % 10) = b at *
      generalize v / 10 = d at *
      generalize v % 10 = m at *
      have hs1 : ¬ 9223372036854775807 < A.length + 1 := by omega
      have hw0 : IntKind.i64.wrap (d : Int) = (d : Int) := by rw [IntKind.wrap_i64]; omega
      have hw1 : IntKind.i64.wrap ((m : Int) + 1) = (m : Int) + 1 := by rw [IntKind.wrap_i64]; omega
      go_enter Try.func9, Try.ntmps9
      go_upto_region 3 with fail
      refine wp_region_held_drew (S := fun w' => Below w.drew.heap.size w.drew w') (by kernel_rfl) (Below.refl _ _) ?_
      intro hHeld
      have hb := Below.drew (Below.refl w.heap.size w)
      generalize w.drew = wd at *
      refine rtake 0 rfl (by rfl) (by kernel_rfl) (by kernel_rfl) (by kernel_rfl) (fun _ _ _ h => h) hHeld (fun wx hwx => by go_simp; try with_reducible rfl) ?_
      try simp only [Act.put, List.setIfInBounds_toArray, List.set_cons_zero, List.set_cons_succ]
      refine rtake 1 rfl (by rfl) (by kernel_rfl) (by kernel_rfl) (by kernel_rfl) (fun _ _ _ h => h) hHeld (fun wx hwx => by go_simp; try with_reducible rfl) ?_
      try simp only [Act.put, List.setIfInBounds_toArray, List.set_cons_zero, List.set_cons_succ]
      refine rtake 3 rfl (by rfl) (by kernel_rfl) (by kernel_rfl) (by kernel_rfl) (fun _ _ _ h => h) hHeld (fun wx hwx => by go_simp; try with_reducible rfl) ?_
      try simp only [Act.put, List.setIfInBounds_toArray, List.set_cons_zero, List.set_cons_succ]
      refine rtake 4 rfl (by rfl) (by kernel_rfl) (by kernel_rfl) (by kernel_rfl) (fun _ _ _ h => h) hHeld (fun wx hwx => by go_simp; try with_reducible rfl) ?_
      try simp only [Act.put, List.setIfInBounds_toArray, List.set_cons_zero, List.set_cons_succ]
      refine rtake 5 rfl (by rfl) (by kernel_rfl) (by kernel_rfl) (by kernel_rfl) (fun _ _ _ h => h) hHeld (fun wx hwx => by go_simp; try with_reducible rfl) ?_
      try simp only [Act.put, List.setIfInBounds_toArray, List.set_cons_zero, List.set_cons_succ]
      refine rtake 6 rfl (by rfl) (by kernel_rfl) (by kernel_rfl) (by kernel_rfl) (fun _ _ _ h => h) hHeld (fun wx hwx => by go_simp; try with_reducible rfl) ?_
      try simp only [Act.put, List.setIfInBounds_toArray, List.set_cons_zero, List.set_cons_succ]
      refine rtake 7 rfl (by rfl) (by kernel_rfl) (by kernel_rfl) (by kernel_rfl) (fun _ _ _ h => h) hHeld (fun wx hwx => by go_simp; try with_reducible rfl) ?_
      try simp only [Act.put, List.setIfInBounds_toArray, List.set_cons_zero, List.set_cons_succ]
      refine rtake 8 rfl (by rfl) (by kernel_rfl) (by kernel_rfl) (by kernel_rfl) (fun _ _ _ h => h) hHeld (fun wx hwx => by go_simp; rw [if_pos (by omega), if_pos (by omega)]) ?_
      try simp only [Act.put, List.setIfInBounds_toArray, List.set_cons_zero, List.set_cons_succ]
      refine rcall 2 rfl (by kernel_rfl) (by rfl) (fun K hK => ?_)
      go_simp
      refine (hcall _).mono ?_
      rintro e w2 ⟨rfl, b2⟩
      refine hK.out _ _ b2 ?_
      clear hK K
      refine wpAnyH_mono (S' := fun w' => Below w2.heap.size w2 w') (fun w' h => bnext b2 h) _ _ _ _ ?_
      replace hb := bnext hb b2
      clear hHeld
      have hHeld := Below.refl w2.heap.size w2
      try simp only [Act.put, List.setIfInBounds_toArray, List.set_cons_zero, List.set_cons_succ]
      refine rtake 9 rfl (by rfl) (by kernel_rfl) (by kernel_rfl) (by kernel_rfl) (fun _ _ _ h => h) hHeld (fun wx hwx => by go_simp; try with_reducible rfl) ?_
      try simp only [Act.put, List.setIfInBounds_toArray, List.set_cons_zero, List.set_cons_succ]
      refine rtake 10 rfl (by rfl) (by kernel_rfl) (by kernel_rfl) (by kernel_rfl) (fun _ _ _ h => h) hHeld (fun wx hwx => by go_simp; try with_reducible rfl) ?_
      try simp only [Act.put, List.setIfInBounds_toArray, List.set_cons_zero, List.set_cons_succ]
      refine wpAnyH_done (by kernel_rfl) ?_ _
      go_wp2_with fail
      go_ret
      exact ⟨rfl, hb⟩

theorem ex_parse : parseE 1 [112, 114, 105, 111, 114, 105, 116, 121, 49, 32, 49, 48] = 0 ∧ parseN 1 [112, 114, 105, 111, 114, 105, 116, 121, 49, 32, 49, 48] = 0 ∧ (parseC 1 [112, 114, 105, 111, 114, 105, 116, 121, 49, 32, 49, 48]).p1 = 10 ∧ (parseC 1 [112, 114, 105, 111, 114, 105, 116, 121, 49, 32, 49, 48]).p2 = 128 := by decide +kernel

set_option maxRecDepth 100000 in
set_option maxHeartbeats 8000000 in
theorem awake10_from (HD : CDef) (HC : CChk) (HP : CPar) (w : World) :
    Calls Try.prog 6 #[] w fun e w' => e = .returned (.bool true) ∧ Below w.heap.size w w' := by
  have hp := HP 1 [112, 114, 105, 111, 114, 105, 116, 121, 49, 32, 49, 48] w (by decide) (by decide)
  obtain ⟨h1, h2, h3, h4⟩ := ex_parse
  rw [h1, h2] at hp
  generalize parseC 1 [112, 114, 105, 111, 114, 105, 116, 121, 49, 32, 49, 48] = C at *
  have hC1 := fun wx => HC (defC 1) wx (by unfold CfIn; decide)
  have hC0 := fun wx => HC (defC 0) wx (by unfold CfIn; decide)
  rw [show checkE (defC 1) = 0 by decide] at hC1
  rw [show checkE (defC 0) = 15 by decide] at hC0
  clear h1 h2
  go_enter Try.func6, Try.ntmps6
  go_wp2_with fail
  refine hp.mono ?_
  rintro e w1 ⟨rfl, hb⟩
  clear hp
  have N := Box.new w1 (cfL zeroC) 29
  have nb := bnew w1 (Obj.cells (cfL zeroC).toArray 29)
  go_upto_region 2 with (guard_target =~ wpList _ _ _ (⟨none, _, _, _, _, _⟩ :: _) _ _; refine wpList_store_conf (op := ⟨none, .store _ _ _, _, _, _, _⟩) (by rfl) _ _ (by rfl) w1.heap.size (C) (zeroC) _ (by rfl) (by rfl) N ?_)
  have B1 := N.rowC (cfL (C))
  replace nb := below_setRow nb (Nat.le_refl _) (cfL (C)).toArray
  change Code.wp _ _ _ _ ((w1.alloc (Obj.cells (cfL zeroC).toArray 29)).setRow w1.heap.size (cfL (C)).toArray)
  generalize ((w1.alloc (Obj.cells (cfL zeroC).toArray 29)).setRow w1.heap.size (cfL (C)).toArray) = W1 at *
  generalize hgB1 : w1.heap.size = gB1 at *
  have nc : Below w1.heap.size w1 W1 := by rw [hgB1]; exact nb
  replace hb := bnext hb nc
  clear N nb nc
  have c3 := B1.cell 3 _ rfl
  have c4 := B1.cell 4 _ rfl
  rw [h3] at c3
  rw [h4] at c4
  go_wp2_with fail
  refine (HD 1 _ (by decide)).mono ?_
  rintro e w2 ⟨rfl, b2⟩
  replace hb := bnext hb b2
  go_wp2_with fail
  refine (hC1 _).mono ?_
  rintro e w3 ⟨rfl, b3⟩
  replace hb := bnext hb b3
  go_wp2_with fail
  refine (HD 0 _ (by decide)).mono ?_
  rintro e w4 ⟨rfl, b4⟩
  replace hb := bnext hb b4
  go_wp2_with fail
  refine (hC0 _).mono ?_
  rintro e w5 ⟨rfl, b5⟩
  go_wp2_with fail
  go_ret
  exact ⟨rfl, bnext hb b5⟩

end Go.Proofs.Ytmcnohndgnaagaa
