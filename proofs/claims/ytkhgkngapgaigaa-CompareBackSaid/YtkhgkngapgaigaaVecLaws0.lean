/- Contracts of the program's own of chapter 11; carillonlaw11's awake from them (gen_veclaws.py). -/
import Derived.Test.YtkhgkngapgaigaaVecVal
import Derived.Test.YtkhgkngapgaigaaConfVal
namespace Go.Proofs.Ytkhgkngapgaigaa
open Go.RowKit Go.Proofs
set_option maxRecDepth 50000
set_option linter.unusedVariables false
set_option linter.unusedSimpArgs false

def I64 (x : Int) : Prop := -9223372036854775808 ≤ x ∧ x ≤ 9223372036854775807
def U64 (x : Int) : Prop := 0 ≤ x ∧ x < 18446744073709551616
/-- The numbers of a vector are Go's. -/
def VcIn (a : Vc) : Prop := I64 a.p1 ∧ I64 a.qc ∧ I64 a.qa ∧ I64 a.qv ∧ I64 a.p2 ∧ U64 a.gr ∧ I64 a.st ∧ U64 a.sc ∧ I64 a.sp ∧ U64 a.rc ∧ I64 a.rp
instance (x : Int) : Decidable (I64 x) := by unfold I64; exact inferInstance
instance (x : Int) : Decidable (U64 x) := by unfold U64; exact inferInstance
instance (a : Vc) : Decidable (VcIn a) := by unfold VcIn; exact inferInstance

/-- A clock's own. -/
def ownV (c : Cf) : Vc := ⟨c.p1, c.qc, c.qa, c.qv, c.p2, c.cl, 0, c.cl, 0, c.cl, 0⟩

def CGrand : Prop := ∀ (a b : Vc) (w : World), VcIn a → VcIn b →
  Calls Try.prog 10 #[.agg (vcL a).toArray, .agg (vcL b).toArray] w fun e w' => e = .returned (.int .i64 (grandV a b)) ∧ Below w.heap.size w w'
def CComp : Prop := ∀ (a b : Vc) (w : World), VcIn a → VcIn b →
  Calls Try.prog 9 #[.agg (vcL a).toArray, .agg (vcL b).toArray] w fun e w' => e = .returned (.int .i64 (compV a b)) ∧ Below w.heap.size w w'
def COwn : Prop := ∀ (c : Cf) (w : World), U64 c.cl →
  Calls Try.prog 15 #[.agg (cfL c).toArray] w fun e w' => e = .returned (.agg (vcL (ownV c)).toArray) ∧ Below w.heap.size w w'
def CNone : Prop := ∀ (w : World), Calls Try.prog 14 #[.slice none 0 0] w fun e w' => e = .returned (.int .i64 (-1)) ∧ Below w.heap.size w w'

theorem build_clock (x : Int) (w : World) : (Instr.build 43 #[(0, .int .u64 x)]).run Try.prog w = .ok (.agg (cfL { zeroC with cl := x }).toArray) w := run_build w _ _ _ (by kernel_rfl)
theorem wpList_build_clock {ops : Array Oper} {rest : List Oper} {op : Oper} {a : Act} {w : World} {Q : Exit → Act → World → Prop} (hgd : op.guard = none) (x0 : Operand)
    (ho : op.op = .build 43 #[(0, x0)]) (x : Int) (h0 : a.eval x0 = .int .u64 x)
    (hh : wpList Try.prog ops Q rest (a.put op.dst (.agg (cfL { zeroC with cl := x }).toArray)) w) : wpList Try.prog ops Q (op :: rest) a w :=
  wpList_plain hgd fun K hK => by
    unfold Oper.wp execOp
    have hr := build_clock x w
    simp only [ho, List.map_toArray, List.map_cons, List.map_nil, h0, Sem.run_bind, hr, Result.andThen_ok, Sem.run_pure]
    exact hK _ _ hh

set_option maxRecDepth 100000 in
set_option maxHeartbeats 8000000 in
theorem awake11_from (HC : CComp) (HO : COwn) (HB : CNone) (w : World) :
    Calls Try.prog 11 #[] w fun e w' => e = .returned (.bool true) ∧ Below w.heap.size w w' := by
  have h12 := fun w => HC (ownV { zeroC with cl := 1 }) (ownV { zeroC with cl := 2 }) w (by decide) (by decide)
  have h21 := fun w => HC (ownV { zeroC with cl := 2 }) (ownV { zeroC with cl := 1 }) w (by decide) (by decide)
  have h11 := fun w => HC (ownV { zeroC with cl := 1 }) (ownV { zeroC with cl := 1 }) w (by decide) (by decide)
  have o1 := fun w => HO { zeroC with cl := 1 } w (by decide)
  have o2 := fun w => HO { zeroC with cl := 2 } w (by decide)
  rw [show compV (ownV { zeroC with cl := 1 }) (ownV { zeroC with cl := 2 }) = -2 by decide] at h12
  rw [show compV (ownV { zeroC with cl := 2 }) (ownV { zeroC with cl := 1 }) = 2 by decide] at h21
  rw [show compV (ownV { zeroC with cl := 1 }) (ownV { zeroC with cl := 1 }) = 0 by decide] at h11
  generalize ownV { zeroC with cl := 1 } = A at *
  generalize ownV { zeroC with cl := 2 } = B at *
  have hb := Below.refl w.heap.size w
  go_enter Try.func11, Try.ntmps11
  go_wp2_with (guard_target =~ wpList _ _ _ (⟨some 3, _, _, _, _, _⟩ :: _) _ _; refine wpList_build_clock (op := ⟨some 3, .build _ _, _, _, _, _⟩) (by rfl) _ (by rfl) 1 (by rfl) ?_)
  refine (o1 _).mono ?_
  rintro e w1 ⟨rfl, b1⟩
  replace hb := bnext hb b1
  go_wp2_with (guard_target =~ wpList _ _ _ (⟨some 5, _, _, _, _, _⟩ :: _) _ _; refine wpList_build_clock (op := ⟨some 5, .build _ _, _, _, _, _⟩) (by rfl) _ (by rfl) 2 (by rfl) ?_)
  refine (o2 _).mono ?_
  rintro e w2 ⟨rfl, b2⟩
  replace hb := bnext hb b2
  have N1 : Box ((w2.alloc (Obj.cells ([.int .i64 0, .int .i64 0, .int .i64 0, .int .i64 0, .int .i64 0, .int .u64 0, .int .i64 0, .int .u64 0, .int .i64 0, .int .u64 0, .int .i64 0]).toArray 28)).alloc (Obj.cells ([.int .i64 0, .int .i64 0, .int .i64 0, .int .i64 0, .int .i64 0, .int .u64 0, .int .i64 0, .int .u64 0, .int .i64 0, .int .u64 0, .int .i64 0]).toArray 28)) w2.heap.size ([.int .i64 0, .int .i64 0, .int .i64 0, .int .i64 0, .int .i64 0, .int .u64 0, .int .i64 0, .int .u64 0, .int .i64 0, .int .u64 0, .int .i64 0]) 28 := (Box.new w2 _ _).below (bnew _ _)
  have N2 : Box ((w2.alloc (Obj.cells ([.int .i64 0, .int .i64 0, .int .i64 0, .int .i64 0, .int .i64 0, .int .u64 0, .int .i64 0, .int .u64 0, .int .i64 0, .int .u64 0, .int .i64 0]).toArray 28)).alloc (Obj.cells ([.int .i64 0, .int .i64 0, .int .i64 0, .int .i64 0, .int .i64 0, .int .u64 0, .int .i64 0, .int .u64 0, .int .i64 0, .int .u64 0, .int .i64 0]).toArray 28)) (w2.heap.size + 1) ([.int .i64 0, .int .i64 0, .int .i64 0, .int .i64 0, .int .i64 0, .int .u64 0, .int .i64 0, .int .u64 0, .int .i64 0, .int .u64 0, .int .i64 0]) 28 := heap_alloc2_new w2 _ _
  have hne12 : w2.heap.size + 1 ≠ w2.heap.size := by omega
  have N2r := N2.rowV_other hne12 (vcL A).toArray
  have nb := (below_setRow (below_setRow ((Below.refl w2.heap.size w2).alloc (Nat.le_refl _) (Obj.cells ([.int .i64 0, .int .i64 0, .int .i64 0, .int .i64 0, .int .i64 0, .int .u64 0, .int .i64 0, .int .u64 0, .int .i64 0, .int .u64 0, .int .i64 0]).toArray 28) |>.alloc (by have := bnew w2 (Obj.cells ([.int .i64 0, .int .i64 0, .int .i64 0, .int .i64 0, .int .i64 0, .int .u64 0, .int .i64 0, .int .u64 0, .int .i64 0, .int .u64 0, .int .i64 0]).toArray 28); exact this.size) (Obj.cells ([.int .i64 0, .int .i64 0, .int .i64 0, .int .i64 0, .int .i64 0, .int .u64 0, .int .i64 0, .int .u64 0, .int .i64 0, .int .u64 0, .int .i64 0]).toArray 28)) (Nat.le_refl _) (vcL A).toArray) (Nat.le_succ _) (vcL B).toArray)
  go_upto_region 2 with (first | (guard_target =~ wpList _ _ _ (⟨none, _, _, _, _, _⟩ :: _) _ _; refine wpList_store_vec (op := ⟨none, .store _ _ _, _, _, _, _⟩) (by rfl) _ _ (by rfl) (w2.heap.size) (A) (zeroV) _ (by rfl) (by rfl) N1 ?_) | (guard_target =~ wpList _ _ _ (⟨none, _, _, _, _, _⟩ :: _) _ _; refine wpList_store_vec (op := ⟨none, .store _ _ _, _, _, _, _⟩) (by rfl) _ _ (by rfl) (w2.heap.size + 1) (B) (zeroV) _ (by rfl) (by rfl) N2r ?_))
  have B1 := (N1.rowV (vcL A)).rowV_other (Ne.symm hne12) (vcL B).toArray
  have B2 := N2r.rowV (vcL B)
  change Code.wp _ _ _ _ ((((w2.alloc (Obj.cells ([.int .i64 0, .int .i64 0, .int .i64 0, .int .i64 0, .int .i64 0, .int .u64 0, .int .i64 0, .int .u64 0, .int .i64 0, .int .u64 0, .int .i64 0]).toArray 28)).alloc (Obj.cells ([.int .i64 0, .int .i64 0, .int .i64 0, .int .i64 0, .int .i64 0, .int .u64 0, .int .i64 0, .int .u64 0, .int .i64 0, .int .u64 0, .int .i64 0]).toArray 28)).setRow w2.heap.size (vcL A).toArray).setRow (w2.heap.size + 1) (vcL B).toArray)
  generalize ((((w2.alloc (Obj.cells ([.int .i64 0, .int .i64 0, .int .i64 0, .int .i64 0, .int .i64 0, .int .u64 0, .int .i64 0, .int .u64 0, .int .i64 0, .int .u64 0, .int .i64 0]).toArray 28)).alloc (Obj.cells ([.int .i64 0, .int .i64 0, .int .i64 0, .int .i64 0, .int .i64 0, .int .u64 0, .int .i64 0, .int .u64 0, .int .i64 0, .int .u64 0, .int .i64 0]).toArray 28)).setRow w2.heap.size (vcL A).toArray).setRow (w2.heap.size + 1) (vcL B).toArray) = W at *
  generalize hg2 : w2.heap.size + 1 = g2 at *
  generalize hg1 : w2.heap.size = g1 at *
  clear N1 N2 N2r hne12
  have nc : Below w2.heap.size w2 W := by rw [hg1]; exact nb
  replace hb := bnext hb nc
  clear nb nc o1 o2
  go_wp2_with (first | (guard_target =~ wpList _ _ _ (⟨some 7, _, _, _, _, _⟩ :: _) _ _; refine wpList_load_vec (op := ⟨some 7, .load _ _, _, _, _, _⟩) (by rfl) _ (by rfl) g1 (by rfl) (A) _ B1 ?_) | (guard_target =~ wpList _ _ _ (⟨some 8, _, _, _, _, _⟩ :: _) _ _; refine wpList_load_vec (op := ⟨some 8, .load _ _, _, _, _, _⟩) (by rfl) _ (by rfl) g2 (by rfl) (B) _ B2 ?_))
  refine (h12 _).mono ?_
  rintro e w3 ⟨rfl, b3⟩
  replace hb := bnext hb b3
  replace B1 := B1.below b3
  replace B2 := B2.below b3
  go_wp2_with (first | (guard_target =~ wpList _ _ _ (⟨some 12, _, _, _, _, _⟩ :: _) _ _; refine wpList_load_vec_g (op := ⟨some 12, .load _ _, _, _, _, _⟩) (by rfl) _ (by rfl) g2 (by rfl) (B) _ B2 ?_) | (guard_target =~ wpList _ _ _ (⟨some 13, _, _, _, _, _⟩ :: _) _ _; refine wpList_load_vec_g (op := ⟨some 13, .load _ _, _, _, _, _⟩) (by rfl) _ (by rfl) g1 (by rfl) (A) _ B1 ?_))
  refine (h21 _).mono ?_
  rintro e w4 ⟨rfl, b4⟩
  replace hb := bnext hb b4
  replace B1 := B1.below b4
  replace B2 := B2.below b4
  go_wp2_with fail
  refine (HB _).mono ?_
  rintro e w5 ⟨rfl, b5⟩
  replace hb := bnext hb b5
  replace B1 := B1.below b5
  replace B2 := B2.below b5
  go_wp2_with (first | (guard_target =~ wpList _ _ _ (⟨some 22, _, _, _, _, _⟩ :: _) _ _; refine wpList_load_vec_g (op := ⟨some 22, .load _ _, _, _, _, _⟩) (by rfl) _ (by rfl) g1 (by rfl) (A) _ B1 ?_) | (guard_target =~ wpList _ _ _ (⟨some 23, _, _, _, _, _⟩ :: _) _ _; refine wpList_load_vec_g (op := ⟨some 23, .load _ _, _, _, _, _⟩) (by rfl) _ (by rfl) g1 (by rfl) (A) _ B1 ?_))
  refine (h11 _).mono ?_
  rintro e w6 ⟨rfl, b6⟩
  replace hb := bnext hb b6
  go_wp2_with fail
  go_ret
  exact ⟨rfl, hb⟩

end Go.Proofs.Ytkhgkngapgaigaa
