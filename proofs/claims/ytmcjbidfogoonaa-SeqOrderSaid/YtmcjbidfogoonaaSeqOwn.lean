/- The program's own of chapter 16 (gen_seqown.py). -/
import Derived.Test.YtmcjbidfogoonaaSeqRef
import Derived.Test.YtmcjbidfogoonaaStampb
import Derived.Test.YtmcjbidfogoonaaHop
namespace Go.Proofs.Ytmcjbidfogoonaa
open Go.RowKit Go.Proofs
set_option maxRecDepth 50000
set_option linter.unusedVariables false
set_option linter.unusedSimpArgs false

/-- What is kept of a message: its number, its source, a time, its correction, whether it is held. -/
structure Hf where
  sq : Int
  sc : Int
  sp : Int
  tm : Int
  co : Int
  hl : Bool
def nmL (q : Hf) : List Value := [.int .i64 q.sq, .int .u64 q.sc, .int .i64 q.sp]
def hfL (q : Hf) : List Value := [.int .i64 q.sq, .int .u64 q.sc, .int .i64 q.sp, .int .i64 q.tm, .int .i64 q.co, .bool q.hl]
def nmK : RowK Hf := ⟨nmL, 3, by decide, fun _ => rfl, by
  intro q v hv
  simp only [nmL, List.mem_cons, List.not_mem_nil, or_false] at hv
  rcases hv with rfl | rfl | rfl <;> rfl⟩
def hfK : RowK Hf := ⟨hfL, 6, by decide, fun _ => rfl, by
  intro q v hv
  simp only [hfL, List.mem_cons, List.not_mem_nil, or_false] at hv
  rcases hv with rfl | rfl | rfl | rfl | rfl | rfl <;> rfl⟩
def zeroHf : Hf := ⟨0, 0, 0, 0, 0, false⟩
def mtK : RowK (Hf × Hf) := ⟨fun q => hfK.enc q.1 ++ hfK.enc q.2, 12, by decide, fun _ => rfl, by
  intro q v hv
  rcases List.mem_append.1 hv with hv | hv
  · exact hfK.one _ v hv
  · exact hfK.one _ v hv⟩
def zeroMt : Hf × Hf := (zeroHf, zeroHf)
theorem nmT : StrT nmK 52 := ⟨⟨_, Try.underlying52, rfl⟩, by kernel_rfl⟩
theorem hfT : StrT hfK 54 := ⟨⟨_, Try.underlying54, rfl⟩, by kernel_rfl⟩
theorem mtT : StrT mtK 56 := ⟨⟨_, Try.underlying56, rfl⟩, by kernel_rfl⟩
def waitH (x : Hd × Bd) (t : Int) : Hf := ⟨x.1.sq, x.1.sc, x.1.sp, t, x.1.co, true⟩
def meetB (a b : Hf) : Bool := a.hl && (a.sq == b.sq && (a.sc == b.sc && a.sp == b.sp))
theorem Box.name {w : World} {g : Nat} {q : Hf} {t : TypeId} (h : Box w g (hfK.enc q) t) : w.rangeAt g 0 (nmK.enc q) := Box.range_mid [] (nmL q) [.int .i64 q.tm, .int .i64 q.co, .bool q.hl] h
theorem Box.left {w : World} {g : Nat} {q : Hf × Hf} {t : TypeId} (h : Box w g (mtK.enc q) t) : w.rangeAt g 0 (hfK.enc q.1) := Box.range_mid [] (hfL q.1) (hfL q.2) h
theorem Box.right {w : World} {g : Nat} {q : Hf × Hf} {t : TypeId} (h : Box w g (mtK.enc q) t) : w.rangeAt g 6 (hfK.enc q.2) := Box.range_mid (hfL q.1) (hfL q.2) [] (by rw [List.append_nil]; exact h)
theorem equal_nm (a b : Hf) (w : World) : (Op.equalIn 10000 52 (.agg (nmK.enc a).toArray) (.agg (nmK.enc b).toArray)).run Try.prog w = .ok (a.sq == b.sq && (a.sc == b.sc && a.sp == b.sp)) w := by
  obtain ⟨a0, a1, a2, a3, a4, a5⟩ := a
  obtain ⟨b0, b1, b2, b3, b4, b5⟩ := b
  unfold nmK nmL
  simp only []
  by_cases k0 : a0 = b0
  case neg => (have q : (a0 == b0) = false := beq_false_of_ne k0; go_simp)
  subst k0
  by_cases k1 : a1 = b1
  case neg => (have q : (a1 == b1) = false := beq_false_of_ne k1; go_simp)
  subst k1
  by_cases k2 : a2 = b2
  case neg => (have q : (a2 == b2) = false := beq_false_of_ne k2; go_simp)
  subst k2
  go_simp

theorem ownNext : CNext := by
  intro v w h
  have hm : bits .and .i64 v 65535 = v % 65536 := and_mask v 16 (by decide)
  have h1 : wrap64 (v % 65536 + 1) = v % 65536 + 1 := by unfold wrap64; omega
  have hm2 : bits .and .i64 (v % 65536 + 1) 65535 = nextI v := (and_mask (v % 65536 + 1) 16 (by decide)).trans (by unfold nextI; omega)
  go_enter Try.func9, Try.ntmps9
  go_wp2_with fail
  go_ret
  exact ⟨rfl, Below.refl _ _⟩

theorem ownNewer : CNewer := by
  intro a b w ha hb
  have m1 : bits .and .i64 a 65535 = a % 65536 := and_mask a 16 (by decide)
  have m2 : bits .and .i64 b 65535 = b % 65536 := and_mask b 16 (by decide)
  have h1 : wrap64 (a % 65536 - b % 65536) = a % 65536 - b % 65536 := by unfold wrap64; omega
  obtain ⟨d, hd⟩ : ∃ d, (a - b) % 65536 = d := ⟨_, rfl⟩
  have m3 : bits .and .i64 (a % 65536 - b % 65536) 65535 = d := (and_mask _ 16 (by decide)).trans (by omega)
  have hN : newerB a b = (decide (1 ≤ d) && decide (d ≤ 32767)) := by unfold newerB; rw [hd]; simp
  rw [hN]
  clear hN hd
  by_cases h3 : 1 ≤ d
  · go_enter Try.func11, Try.ntmps11
    go_wp2_with fail
    go_ret
    exact ⟨ret_bool (by simp [h3]), Below.refl _ _⟩
  · go_enter Try.func11, Try.ntmps11
    go_wp2_with fail
    go_ret
    exact ⟨ret_bool (by rw [decide_eq_false (show ¬ 1 ≤ d by omega)]; rfl), Below.refl _ _⟩

theorem difference_any (a s c : Int) (w : World) (h0 : -9223372036854775808 ≤ c) (h1 : c ≤ 9223372036854775807) : Calls Try.prog 23 #[.int .i64 a, .int .i64 s, .int .i64 c] w fun e w' => e = .returned (.int .i64 (diffS a s c)) ∧ w = w' := by
  go_enter Try.func23, Try.ntmps23
  go_wp2_with fail
  refine (floor_any _ _ h0 h1).mono ?_
  rintro e w1 ⟨rfl, rfl⟩
  go_wp2_with fail
  go_ret
  exact ⟨rfl, rfl⟩

set_option maxRecDepth 100000 in
set_option maxHeartbeats 8000000 in
theorem wait_any (x : Hd × Bd) (t : Int) (w : World) :
    Calls Try.prog 22 #[.agg (msK.enc x).toArray, .int .i64 t] w fun e w' => e = .returned (.agg (hfK.enc (waitH x t)).toArray) ∧ Below w.heap.size w w' := by
  have z0 := bnew w (Obj.cells (msK.enc x).toArray 34)
  have hX := Box.new w (msK.enc x) 34
  have z1 := bnew (w.alloc (Obj.cells (msK.enc x).toArray 34)) (Obj.cells (hfK.enc zeroHf).toArray 54)
  have hN := Box.new (w.alloc (Obj.cells (msK.enc x).toArray 34)) (hfK.enc zeroHf) 54
  replace hX := hX.below z1
  have hb := z0
  replace hb := bnext hb z1
  clear z0
  clear z1
  have s1 : (w.alloc (Obj.cells (msK.enc x).toArray 34)).heap.size = w.heap.size + 1 := by simp
  rw [s1] at hN
  go_enter Try.func22, Try.ntmps22
  go_upto_region 1 with fail
  change Code.wp Try.prog _ _ _ ((w.alloc (Obj.cells (msK.enc x).toArray 34)).alloc (Obj.cells (hfK.enc zeroHf).toArray 54))
  generalize ((w.alloc (Obj.cells (msK.enc x).toArray 34)).alloc (Obj.cells (hfK.enc zeroHf).toArray 54)) = W at *
  clear s1
  generalize hG : w.heap.size = G at *
  rw [← hG] at hb
  have l_hX : w.heap.size ≤ G := by omega
  have l_hN : w.heap.size ≤ G + 1 := by omega
  have n_hX_hN : G ≠ G + 1 := by omega
  have c3 := hX.cell 3 _ rfl
  have c4 := hX.cell 4 _ rfl
  have c5 := hX.cell 5 _ rfl
  have c6 := hX.cell 6 _ rfl
  clear hX
  go_wp2_with (first | (guard_target =~ wpList _ _ _ (⟨some 13, _, _, _, _, _⟩ :: _) _ _; refine wpList_build_any (op := ⟨some 13, .build _ _, _, _, _, _⟩) (by rfl) _ _ (by rfl) _ (by rfl) (hfK.enc (waitH x t)).toArray (by kernel_rfl) ?_) | (guard_target =~ wpList _ _ _ (⟨none, _, _, _, _, _⟩ :: _) _ _; refine hfT.store (op := ⟨none, .store _ _ _, _, _, _, _⟩) (by rfl) _ _ (by rfl) (G + 1) (waitH x t) (zeroHf) _ (by rfl) (by rfl) hN ?_))
  exact bodyPost_ret (v := .agg (hfK.enc (waitH x t)).toArray) (hfT.result rfl _ _ (G + 1) _ _ rfl (hN.rowK _)) rfl ⟨rfl, below_setRow hb (by omega) _⟩

set_option maxRecDepth 100000 in
set_option maxHeartbeats 8000000 in
theorem meets_any (a b : Hf) (w : World) :
    Calls Try.prog 24 #[.agg (hfK.enc a).toArray, .agg (hfK.enc b).toArray] w fun e w' => e = .returned (.bool (meetB a b)) ∧ Below w.heap.size w w' := by
  have heq := equal_nm a b
  have z0 := bnew w (Obj.cells (hfK.enc a).toArray 54)
  have hA := Box.new w (hfK.enc a) 54
  have z1 := bnew (w.alloc (Obj.cells (hfK.enc a).toArray 54)) (Obj.cells (hfK.enc b).toArray 54)
  have hC := Box.new (w.alloc (Obj.cells (hfK.enc a).toArray 54)) (hfK.enc b) 54
  replace hA := hA.below z1
  have hb := z0
  replace hb := bnext hb z1
  clear z0
  clear z1
  have s1 : (w.alloc (Obj.cells (hfK.enc a).toArray 54)).heap.size = w.heap.size + 1 := by simp
  rw [s1] at hC
  go_enter Try.func24, Try.ntmps24
  go_upto_region 1 with fail
  change Code.wp Try.prog _ _ _ ((w.alloc (Obj.cells (hfK.enc a).toArray 54)).alloc (Obj.cells (hfK.enc b).toArray 54))
  generalize ((w.alloc (Obj.cells (hfK.enc a).toArray 54)).alloc (Obj.cells (hfK.enc b).toArray 54)) = W at *
  clear s1
  generalize hG : w.heap.size = G at *
  rw [← hG] at hb
  have l_hA : w.heap.size ≤ G := by omega
  have l_hC : w.heap.size ≤ G + 1 := by omega
  have n_hA_hC : G ≠ G + 1 := by omega
  have c5 := hA.cell 5 _ rfl
  cases hl : a.hl
  · rw [hl] at c5
    have hE := hid (show meetB a b = false by unfold meetB; rw [hl]; rfl)
    clear hl heq
    go_wp2_with fail
    go_ret
    exact ⟨ret_bool hE.out.symm, hb⟩
  · rw [hl] at c5
    have hE := hid (show meetB a b = (a.sq == b.sq && (a.sc == b.sc && a.sp == b.sp)) by unfold meetB; rw [hl]; rfl)
    generalize (a.sq == b.sq && (a.sc == b.sc && a.sp == b.sp)) = B at *
    clear hl
    go_wp2_with (first | (guard_target =~ wpList _ _ _ (⟨some 9, _, _, _, _, _⟩ :: _) _ _; refine nmT.load_g (op := ⟨some 9, .load _ _, _, _, _, _⟩) (by rfl) _ (by rfl) G 0 (by rfl) a hA.name ?_) | (guard_target =~ wpList _ _ _ (⟨some 11, _, _, _, _, _⟩ :: _) _ _; refine nmT.load_g (op := ⟨some 11, .load _ _, _, _, _, _⟩) (by rfl) _ (by rfl) (G + 1) 0 (by rfl) b hC.name ?_))
    go_ret
    exact ⟨ret_bool hE.out.symm, hb⟩

/-- What its cells say. -/
def saysS (a : Hf) (m : Option ((Hd × Bd) × Int)) : Prop := match m with
  | none => a.hl = false
  | some (y, t) => a = waitH y t ∧ HdOk y.1
def saysF (b : Hf) (m : Option (Hd × Bd)) : Prop := match m with
  | none => b.hl = false
  | some y => b = waitH y y.2.st ∧ HdOk y.1
def MtR (xs : List Value) (m : Ms) : Prop := ∃ q : Hf × Hf, xs = mtK.enc q ∧ saysS q.1 m.s ∧ saysF q.2 m.f
theorem mt_none {w : World} {g : Nat} (h : Box w g (mtK.enc zeroMt) 56) : SAt MtR w g noneS := ⟨_, h, zeroMt, rfl, rfl, rfl⟩

theorem ownNewS : CNewS MtR := by
  intro w
  have e := Box.new w (mtK.enc zeroMt) 56
  have nb := bnew w (Obj.cells (mtK.enc zeroMt).toArray 56)
  go_enter Try.func13, Try.ntmps13
  go_wp2_with (guard_target =~ wpList _ _ _ (⟨some 1, _, _, _, _, _⟩ :: _) _ _; refine wpList_build_any (op := ⟨some 1, .build _ _, _, _, _, _⟩) (by rfl) _ _ (by rfl) _ (by rfl) (mtK.enc zeroMt).toArray (by kernel_rfl) ?_)
  go_ret
  exact ⟨_, rfl, Nat.le_refl _, mt_none e, nb⟩

theorem clear_any (g : Nat) (q : Hf × Hf) (w : World) (hB : Box w g (mtK.enc q) 56) :
    Calls Try.prog 15 #[.pointer (some ⟨g, 0, none⟩)] w fun e w' => e = .returned (.tuple #[]) ∧ Box w' g (mtK.enc zeroMt) 56 ∧ Only g w w' := by
  go_enter Try.func15, Try.ntmps15
  go_wp2_with (first | (guard_target =~ wpList _ _ _ (⟨some 3, _, _, _, _, _⟩ :: _) _ _; refine wpList_build_any (op := ⟨some 3, .build _ _, _, _, _, _⟩) (by rfl) _ _ (by rfl) _ (by rfl) (mtK.enc zeroMt).toArray (by kernel_rfl) ?_) | (guard_target =~ wpList _ _ _ (⟨none, _, _, _, _, _⟩ :: _) _ _; refine mtT.store (op := ⟨none, .store _ _ _, _, _, _, _⟩) (by rfl) _ _ (by rfl) (g) (zeroMt) (q) _ (by rfl) (by rfl) hB ?_))
  go_end0
  exact ⟨rfl, hB.rowK _, (Only.refl g w).row _⟩
theorem ownClrS : CClrS MtR := by
  rintro g m w ⟨xs, hB, q, rfl, -, -⟩
  refine (clear_any g q w hB).mono ?_
  rintro e w' ⟨rfl, hB2, ho⟩
  exact ⟨rfl, mt_none hB2, ho⟩

set_option maxRecDepth 100000 in
set_option maxHeartbeats 8000000 in
theorem join_any (g : Nat) (q : Hf × Hf) (a b : Hf) (w : World) (hB : Box w g (mtK.enc q) 56) (ha : -9223372036854775808 ≤ a.co ∧ a.co ≤ 9223372036854775807) (hb1 : -9223372036854775808 ≤ b.co ∧ b.co ≤ 9223372036854775807) :
    Calls Try.prog 25 #[.pointer (some ⟨g, 0, none⟩), .agg (hfK.enc a).toArray, .agg (hfK.enc b).toArray] w fun e w' => e = .returned (.int .i64 (diffS a.tm b.tm (addI a.co b.co))) ∧ Box w' g (mtK.enc zeroMt) 56 ∧ Only g w w' := by
  have z0 := bnew w (Obj.cells (hfK.enc a).toArray 54)
  have hA := Box.new w (hfK.enc a) 54
  have z1 := bnew (w.alloc (Obj.cells (hfK.enc a).toArray 54)) (Obj.cells (hfK.enc b).toArray 54)
  have hC := Box.new (w.alloc (Obj.cells (hfK.enc a).toArray 54)) (hfK.enc b) 54
  replace hA := hA.below z1
  have hb := z0
  replace hb := bnext hb z1
  clear z0
  clear z1
  have s1 : (w.alloc (Obj.cells (hfK.enc a).toArray 54)).heap.size = w.heap.size + 1 := by simp
  rw [s1] at hC
  have hglt := hB.lt
  replace hB := hB.below hb
  go_enter Try.func25, Try.ntmps25
  go_upto_region 1 with fail
  change Code.wp Try.prog _ _ _ ((w.alloc (Obj.cells (hfK.enc a).toArray 54)).alloc (Obj.cells (hfK.enc b).toArray 54))
  generalize ((w.alloc (Obj.cells (hfK.enc a).toArray 54)).alloc (Obj.cells (hfK.enc b).toArray 54)) = W at *
  clear s1
  generalize hG : w.heap.size = G at *
  rw [← hG] at hb
  have l_hA : w.heap.size ≤ G := by omega
  have l_hC : w.heap.size ≤ G + 1 := by omega
  have n_hA_hC : G ≠ G + 1 := by omega
  have ho : Only g w W := Only.of_below g (hG ▸ hb)
  have nA : G ≠ g := by omega
  have nC : G + 1 ≠ g := by omega
  go_wp2_with fail
  refine (clear_any g q _ hB).mono ?_
  rintro e w1 ⟨rfl, hB1, o1⟩
  replace ho := ho.trans o1
  replace hA := hA.only o1 nA
  replace hC := hC.only o1 nC
  clear o1 hB hb
  go_upto_region 2 with fail
  refine wp_region_held_drew (S := fun w' => Below w1.drew.heap.size w1.drew w') (by kernel_rfl) (Below.refl _ _) ?_
  intro hHeld
  have hbd := Below.drew (Below.refl w1.heap.size w1)
  replace ho := ho.next hbd
  replace hB1 := hB1.below hbd
  generalize w1.drew = WD at *
  have a3 : ∀ wx, Below WD.heap.size WD wx → wx.cell? ⟨G, 3, none⟩ = some (.int .i64 a.tm) := fun wx h => (hA.below (bnext hbd h)).cell 3 _ rfl
  have a4 : ∀ wx, Below WD.heap.size WD wx → wx.cell? ⟨G, 4, none⟩ = some (.int .i64 a.co) := fun wx h => (hA.below (bnext hbd h)).cell 4 _ rfl
  have b3 : ∀ wx, Below WD.heap.size WD wx → wx.cell? ⟨G + 1, 3, none⟩ = some (.int .i64 b.tm) := fun wx h => (hC.below (bnext hbd h)).cell 3 _ rfl
  have b4 : ∀ wx, Below WD.heap.size WD wx → wx.cell? ⟨G + 1, 4, none⟩ = some (.int .i64 b.co) := fun wx h => (hC.below (bnext hbd h)).cell 4 _ rfl
  refine rtake 0 rfl (by rfl) (by kernel_rfl) (by kernel_rfl) (by kernel_rfl) (fun _ _ _ h => h) hHeld (fun wx hwx => by go_simp; try with_reducible rfl) ?_
  try simp only [Act.put, List.setIfInBounds_toArray, List.set_cons_zero, List.set_cons_succ]
  refine rtake 1 rfl (by rfl) (by kernel_rfl) (by kernel_rfl) (by kernel_rfl) (fun _ _ _ h => h) hHeld (fun wx hwx => by go_simp; try with_reducible rfl) ?_
  try simp only [Act.put, List.setIfInBounds_toArray, List.set_cons_zero, List.set_cons_succ]
  refine rtake 2 rfl (by rfl) (by kernel_rfl) (by kernel_rfl) (by kernel_rfl) (fun _ _ _ h => h) hHeld (fun wx hwx => by go_simp; try with_reducible rfl) ?_
  try simp only [Act.put, List.setIfInBounds_toArray, List.set_cons_zero, List.set_cons_succ]
  refine rtake 3 rfl (by rfl) (by kernel_rfl) (by kernel_rfl) (by kernel_rfl) (fun _ _ _ h => h) hHeld (fun wx hwx => by go_simp; try with_reducible rfl) ?_
  try simp only [Act.put, List.setIfInBounds_toArray, List.set_cons_zero, List.set_cons_succ]
  refine rtake 4 rfl (by rfl) (by kernel_rfl) (by kernel_rfl) (by kernel_rfl) (fun _ _ _ h => h) hHeld (fun wx hwx => by go_simp; try with_reducible rfl) ?_
  try simp only [Act.put, List.setIfInBounds_toArray, List.set_cons_zero, List.set_cons_succ]
  refine rtake 5 rfl (by rfl) (by kernel_rfl) (by kernel_rfl) (by kernel_rfl) (fun _ _ _ h => h) hHeld (fun wx hwx => by go_simp; try with_reducible rfl) ?_
  try simp only [Act.put, List.setIfInBounds_toArray, List.set_cons_zero, List.set_cons_succ]
  refine rtake 6 rfl (by rfl) (by kernel_rfl) (by kernel_rfl) (by kernel_rfl) (fun _ _ _ h => h) hHeld (fun wx hwx => by go_simp; try with_reducible rfl) ?_
  try simp only [Act.put, List.setIfInBounds_toArray, List.set_cons_zero, List.set_cons_succ]
  refine rtake 7 rfl (by rfl) (by kernel_rfl) (by kernel_rfl) (by kernel_rfl) (fun _ _ _ h => h) hHeld (fun wx hwx => by go_simp; try with_reducible rfl) ?_
  try simp only [Act.put, List.setIfInBounds_toArray, List.set_cons_zero, List.set_cons_succ]
  refine rcall 8 rfl (by kernel_rfl) (by rfl) (fun K' hK => ?_)
  go_simp
  refine (add_any a.co b.co _ ha.1 ha.2 hb1.1 hb1.2).mono ?_
  rintro e wy ⟨rfl, rfl⟩
  refine hK.out _ _ hHeld ?_
  clear hK K'
  try simp only [Act.put, List.setIfInBounds_toArray, List.set_cons_zero, List.set_cons_succ]
  refine rcall 9 rfl (by kernel_rfl) (by rfl) (fun K' hK => ?_)
  go_simp
  refine (difference_any a.tm b.tm _ _ (addI_in _ _).1 (addI_in _ _).2).mono ?_
  rintro e wy ⟨rfl, rfl⟩
  refine hK.out _ _ hHeld ?_
  clear hK K'
  try simp only [Act.put, List.setIfInBounds_toArray, List.set_cons_zero, List.set_cons_succ]
  refine rtake 10 rfl (by rfl) (by kernel_rfl) (by kernel_rfl) (by kernel_rfl) (fun _ _ _ h => h) hHeld (fun wx hwx => by go_simp; try with_reducible rfl) ?_
  try simp only [Act.put, List.setIfInBounds_toArray, List.set_cons_zero, List.set_cons_succ]
  refine wpAnyH_done (by kernel_rfl) ?_ _
  clear hHeld hbd a3 a4 b3 b4
  go_wp2_with fail
  go_ret
  exact ⟨rfl, hB1, ho⟩

theorem op_load_k {α : Type} {K : RowK α} {T : TypeId} (hT : StrT K T) {op : Oper} {a : Act} {w : World} {K' : Act → World → Prop} {Q : Exit → Act → World → Prop} (x : Operand) (ho : op.op = .load T x)
    (b o : Nat) (hx : a.eval x = .pointer (some ⟨b, o, none⟩)) (c : α) (hR : w.rangeAt b o (K.enc c)) (h : K' (a.put op.dst (.agg (K.enc c).toArray)) w) : op.wp Try.prog a w K' Q := by
  obtain ⟨d, hu, hd⟩ := hT.row
  exact wp_load_mid _ x ho b o hx (K.enc c) d hR hu hd (by rw [hT.size, K.len]) h

section
variable {m : Ms} {x : Hd × Bd} {at' : Int} {a b : Hf}
theorem says_sync_no (h : x.1.ty = 0) (h2 : twoB x.1.fl = true) (hf : saysF b m.f) (hm : meetB b (waitH x at') = false) : syncS m x at' = { m with s := some (x, at') } ∧ syncD m x at' = 0 ∧ syncB m x = false := by
  cases hs : m.f with
  | none => rw [← hs]; exact sync_none h h2 hs
  | some y =>
    rw [hs] at hf
    obtain ⟨rfl, -⟩ := hf
    rw [← hs]
    exact sync_miss h h2 hs (by simpa [meetB, waitH, matchB] using hm)
theorem says_sync_yes (h : x.1.ty = 0) (h2 : twoB x.1.fl = true) (hf : saysF b m.f) (hm : meetB b (waitH x at') = true) : syncS m x at' = noneS ∧ syncD m x at' = diffS at' b.tm (addI x.1.co b.co) ∧ syncB m x = true ∧ -9223372036854775808 ≤ b.co ∧ b.co ≤ 9223372036854775807 := by
  cases hs : m.f with
  | none =>
    rw [hs] at hf
    have hl : b.hl = false := hf
    rw [meetB, hl] at hm
    exact absurd hm (by simp)
  | some y =>
    rw [hs] at hf
    obtain ⟨rfl, ho⟩ := hf
    obtain ⟨e1, e2, e3⟩ := sync_hit (at' := at') h h2 hs (by simpa [meetB, waitH, matchB] using hm)
    exact ⟨e1, e2, e3, ho.2.2.1, ho.2.2.2⟩
theorem says_foll_no (h : x.1.ty = 8) (hf : saysS a m.s) (hm : meetB a (waitH x at') = false) : follS m x = { m with f := some x } ∧ follD m x = 0 ∧ follB m x = false := by
  cases hs : m.s with
  | none => rw [← hs]; exact foll_none h hs
  | some y =>
    obtain ⟨y, t⟩ := y
    rw [hs] at hf
    obtain ⟨rfl, -⟩ := hf
    rw [← hs]
    exact foll_miss h hs (by simpa [meetB, waitH, matchB] using hm)
theorem says_foll_yes (h : x.1.ty = 8) (hf : saysS a m.s) (hm : meetB a (waitH x at') = true) : follS m x = noneS ∧ follD m x = diffS a.tm x.2.st (addI a.co x.1.co) ∧ follB m x = true ∧ -9223372036854775808 ≤ a.co ∧ a.co ≤ 9223372036854775807 := by
  cases hs : m.s with
  | none =>
    rw [hs] at hf
    have hl : a.hl = false := hf
    rw [meetB, hl] at hm
    exact absurd hm (by simp)
  | some y =>
    obtain ⟨y, t⟩ := y
    rw [hs] at hf
    obtain ⟨rfl, ho⟩ := hf
    obtain ⟨e1, e2, e3⟩ := foll_hit h hs (by simpa [meetB, waitH, matchB] using hm)
    exact ⟨e1, e2, e3, ho.2.2.1, ho.2.2.2⟩
end

end Go.Proofs.Ytmcjbidfogoonaa
