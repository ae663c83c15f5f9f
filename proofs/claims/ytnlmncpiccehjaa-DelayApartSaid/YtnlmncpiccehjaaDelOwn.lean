/- The program's own of chapter 17: New, Clear, Request, Sent (gen_delown.py). -/
import Derived.Test.YtnlmncpiccehjaaDelRef
import Derived.Test.YtnlmncpiccehjaaStampb
namespace Go.Proofs.Ytnlmncpiccehjaa
open Go.RowKit Go.Proofs
set_option maxRecDepth 50000
set_option linter.unusedVariables false
set_option linter.unusedSimpArgs false

/-- What is kept of a request. -/
structure Rq where
  sq : Int
  out : Bool
  went : Bool
  ta : Int
def rqL (r : Rq) : List Value := [.int .i64 r.sq, .bool r.out, .bool r.went, .int .i64 r.ta]
def rqK : RowK Rq := ⟨rqL, 4, by decide, fun _ => rfl, by
  intro q v hv
  simp only [rqL, List.mem_cons, List.not_mem_nil, or_false] at hv
  rcases hv with rfl | rfl | rfl | rfl <;> rfl⟩
def zeroRq : Rq := ⟨0, false, false, 0⟩
structure Ex where
  me : Int × Int
  dm : Int
  r : Rq
def exK : RowK Ex := ⟨fun q => [.int .u64 q.me.1, .int .i64 q.me.2, .int .i64 q.dm] ++ rqL q.r, 7, by decide, fun _ => rfl, by
  intro q v hv
  rcases List.mem_append.1 hv with hv | hv
  · simp only [List.mem_cons, List.not_mem_nil, or_false] at hv
    rcases hv with rfl | rfl | rfl <;> rfl
  · exact rqK.one _ v hv⟩
theorem rqT : StrT rqK 52 := ⟨⟨_, Try.underlying52, rfl⟩, by kernel_rfl⟩
theorem exT : StrT exK 54 := ⟨⟨_, Try.underlying54, rfl⟩, by kernel_rfl⟩
theorem Box.last {w : World} {g : Nat} {q : Ex} {t : TypeId} (h : Box w g (exK.enc q) t) : w.rangeAt g 3 (rqK.enc q.r) := Box.range_mid [.int .u64 q.me.1, .int .i64 q.me.2, .int .i64 q.dm] (rqL q.r) [] (by rw [List.append_nil]; exact h)
theorem Box.setLast {w : World} {g : Nat} {q : Ex} {t : TypeId} (h : Box w g (exK.enc q) t) (r : Rq) : Box (w.setCells g 3 (rqK.enc r)) g (exK.enc { q with r := r }) t := by
  have h1 := Box.mid (rqL r) (rqL q.r) [.int .u64 q.me.1, .int .i64 q.me.2, .int .i64 q.dm] [] w rfl (by rw [List.append_nil]; exact h)
  rw [List.append_nil] at h1
  exact h1
def exOf (q : Ex) : Xs := ⟨q.me, q.dm, if q.r.out then some (q.r.sq, if q.r.went then some q.r.ta else none) else none⟩
def OkR (r : Rq) : Prop := (r.went = true → r.out = true) ∧ (r.went = false → r.ta = 0)
/-- What its cells say. -/
def ExR (xs : List Value) (x : Xs) : Prop := ∃ q : Ex, xs = exK.enc q ∧ x = exOf q ∧ OkR q.r
theorem ok_zero : OkR zeroRq := ⟨fun h => h, fun _ => rfl⟩
theorem equal_rq (a b : Rq) (w : World) : (Op.equalIn 10000 52 (.agg (rqK.enc a).toArray) (.agg (rqK.enc b).toArray)).run Try.prog w = .ok (a.sq == b.sq && (a.out == b.out && (a.went == b.went && a.ta == b.ta))) w := by
  obtain ⟨a0, a1, a2, a3⟩ := a
  obtain ⟨b0, b1, b2, b3⟩ := b
  unfold rqK rqL
  simp only []
  by_cases k0 : a0 = b0
  case neg => (have q : (a0 == b0) = false := beq_false_of_ne k0; go_simp)
  subst k0
  by_cases k1 : a1 = b1
  case neg => (have q : (a1 == b1) = false := beq_false_of_ne k1; go_simp)
  subst k1
  by_cases k2 : a2 = b2
  case neg => (have q : (a2 == b2) = false := beq_false_of_ne k2; go_simp)
  subst k2
  by_cases k3 : a3 = b3
  case neg => (have q : (a3 == b3) = false := beq_false_of_ne k3; go_simp)
  subst k3
  go_simp
theorem equal_out (q : Ex) (n : Int) (h : OkR q.r) : (q.r.sq == n && (q.r.out == true && (q.r.went == false && q.r.ta == 0))) = sentB (exOf q) n := by
  obtain ⟨me, dm, sq, out, went, ta⟩ := q
  obtain ⟨h1, h2⟩ := h
  simp only at h1 h2
  unfold sentB exOf
  cases out
  · simp
  · cases went
    · have h3 := h2 rfl
      subst h3
      simp [Bool.beq_eq_decide_eq, eq_comm]
    · simp

theorem next_any (v : Int) (w : World) : Calls Try.prog 23 #[.int .i64 v] w fun e w' => e = .returned (.int .i64 (nextI v)) ∧ w = w' := by
  have hm : bits .and .i64 v 65535 = v % 65536 := and_mask v 16 (by decide)
  have h1 : wrap64 (v % 65536 + 1) = v % 65536 + 1 := by unfold wrap64; omega
  have hm2 : bits .and .i64 (v % 65536 + 1) 65535 = nextI v := (and_mask (v % 65536 + 1) 16 (by decide)).trans (by unfold nextI; omega)
  go_enter Try.func23, Try.ntmps23
  go_wp2_with fail
  go_ret
  exact ⟨rfl, rfl⟩

set_option maxRecDepth 100000 in
set_option maxHeartbeats 8000000 in
theorem ownNewX : CNewX ExR := by
  intro me dm w hme
  have z0 := bnew w (Obj.cells (prK.enc me).toArray 24)
  have hP := Box.new w (prK.enc me) 24
  have hb := z0
  clear z0
  go_enter Try.func8, Try.ntmps8
  go_upto_region 1 with fail
  change Code.wp Try.prog _ _ _ (w.alloc (Obj.cells (prK.enc me).toArray 24))
  generalize (w.alloc (Obj.cells (prK.enc me).toArray 24)) = W at *
  generalize hG : w.heap.size = G at *
  rw [← hG] at hb
  have l_hP : w.heap.size ≤ G := by omega
  have e := Box.new W (exK.enc ⟨me, dm, zeroRq⟩) 54
  have nb := bnew W (Obj.cells (exK.enc ⟨me, dm, zeroRq⟩).toArray 54)
  go_wp2_with (first | (guard_target =~ wpList _ _ _ (⟨some 5, _, _, _, _, _⟩ :: _) _ _; refine prT.load (op := ⟨some 5, .load _ _, _, _, _, _⟩) (by rfl) _ (by rfl) G 0 (by rfl) (me) hP.rangeK ?_) | (guard_target =~ wpList _ _ _ (⟨some 7, _, _, _, _, _⟩ :: _) _ _; refine wpList_build_any (op := ⟨some 7, .build _ _, _, _, _, _⟩) (by rfl) _ _ (by rfl) _ (by rfl) (exK.enc ⟨me, dm, zeroRq⟩).toArray (by kernel_rfl) ?_))
  go_ret
  exact ⟨_, rfl, hb.size, ⟨_, e, _, rfl, rfl, ok_zero⟩, bnext hb nb⟩

set_option maxRecDepth 100000 in
set_option maxHeartbeats 8000000 in
theorem clearX_any (g : Nat) (q : Ex) (w : World) (hB : Box w g (exK.enc q) 54) :
    Calls Try.prog 16 #[.pointer (some ⟨g, 0, none⟩)] w fun e w' => e = .returned (.tuple #[]) ∧ Box w' g (exK.enc { q with r := zeroRq }) 54 ∧ Only g w w' := by
  go_enter Try.func16, Try.ntmps16
  go_wp2_with (first | (guard_target =~ wpList _ _ _ (⟨some 3, _, _, _, _, _⟩ :: _) _ _; refine wpList_build_any (op := ⟨some 3, .build _ _, _, _, _, _⟩) (by rfl) _ _ (by rfl) _ (by rfl) (rqK.enc zeroRq).toArray (by kernel_rfl) ?_) | (guard_target =~ wpList _ _ _ (⟨none, _, _, _, _, _⟩ :: _) _ _; refine rqT.store_mid (op := ⟨none, .store _ _ _, _, _, _, _⟩) (by rfl) _ _ (by rfl) g 3 (zeroRq) _ _ (by rfl) (by rfl) hB (by rw [exK.len]; decide) ?_))
  go_end0
  exact ⟨rfl, hB.setLast zeroRq, Only.cells _ _ _ (Only.refl g w)⟩

theorem ownClrX : CClrX ExR := by
  rintro g x w ⟨xs, hB, q, rfl, rfl, -⟩
  refine (clearX_any g q w hB).mono ?_
  rintro e w' ⟨rfl, hB2, ho⟩
  exact ⟨rfl, ⟨_, hB2, _, rfl, rfl, ok_zero⟩, ho⟩

set_option maxRecDepth 100000 in
set_option maxHeartbeats 8000000 in
theorem ownReq : CReq ExR := by
  rintro g x n log w ⟨xs, hB, q, rfl, rfl, hq⟩ hn
  have hgl := hB.lt
  have hb := bnew w (Obj.cells (msK.enc zeroM).toArray 34)
  have hM := Box.new w (msK.enc zeroM) 34
  replace hB := hB.below hb
  have ho := Only.of_below g hb
  have hne : g ≠ w.heap.size := by omega
  obtain ⟨k, hk⟩ : ∃ k, n % 65536 = k := ⟨_, rfl⟩
  have hN : nextI (wrap64 (n - 1)) = k := by rw [← hk]; unfold nextI wrap64; omega
  obtain ⟨m1, hm1⟩ : ∃ m1 : Hd × Bd, m1 = reqM (exOf q) n := ⟨_, rfl⟩
  have hm2 : m1 = (⟨1, q.dm, 0, 0, q.me.1, q.me.2, k, 127⟩, bd0) := by rw [hm1, ← hk]; rfl
  have hs : reqS (exOf q) n = exOf { q with r := ⟨k, true, false, 0⟩ } := by rw [← hk]; rfl
  clear hk
  replace hm1 := hid hm1
  replace hm2 := hid hm2
  go_enter Try.func12, Try.ntmps12
  go_upto_region 1 with fail
  change Code.wp Try.prog _ _ _ (w.alloc (Obj.cells (msK.enc zeroM).toArray 34))
  generalize w.alloc (Obj.cells (msK.enc zeroM).toArray 34) = W at *
  generalize hG : w.heap.size = G at *
  have lG : w.heap.size ≤ G := Nat.le_of_eq hG
  go_wp2_with fail
  refine (next_any _ _).mono ?_
  rintro e w1 ⟨rfl, rfl⟩
  try rw [IntKind.wrap_i64]
  rw [hN]
  clear hN
  have hB2 := hB.setLast ⟨k, true, false, 0⟩
  have hM2 : Box (W.setCells g 3 (rqK.enc ⟨k, true, false, 0⟩)) G (msK.enc zeroM) 34 := Box.cells_other (Ne.symm hne) _ _ _ hM
  have ho2 := Only.cells (rqK.enc ⟨k, true, false, 0⟩) 3 _ ho
  go_upto_region 3 with (first | (guard_target =~ wpList _ _ _ (⟨some 12, _, _, _, _, _⟩ :: _) _ _; refine wpList_build_any (op := ⟨some 12, .build _ _, _, _, _, _⟩) (by rfl) _ _ (by rfl) _ (by rfl) (rqK.enc ⟨k, true, false, 0⟩).toArray (by kernel_rfl) ?_) | (guard_target =~ wpList _ _ _ (⟨none, _, _, _, _, _⟩ :: _) _ _; refine rqT.store_mid (op := ⟨none, .store _ _ _, _, _, _, _⟩) (by rfl) _ _ (by rfl) g 3 (⟨k, true, false, 0⟩) _ _ (by rfl) (by rfl) hB (by rw [exK.len]; decide) ?_))
  clear hB hM ho
  generalize World.setCells _ _ _ _ = W2 at *
  refine wp_region_held_drew (S := fun w' => Box w' g (exK.enc { q with r := ⟨k, true, false, 0⟩ }) 54) (by kernel_rfl) (hB2.below (Below.drew (Below.refl _ _))) ?_
  intro hS
  have hbd := Below.drew (Below.refl W2.heap.size W2)
  replace hM2 := hM2.below hbd
  replace ho2 := ho2.next hbd
  clear hbd hB2
  generalize W2.drew = WD at *
  refine rtake 0 rfl (by rfl) (by kernel_rfl) (by kernel_rfl) (by kernel_rfl) (fun _ _ _ h => h) hS (fun wx hwx => by go_simp; try with_reducible rfl) ?_
  try simp only [Act.put, List.setIfInBounds_toArray, List.set_cons_zero, List.set_cons_succ]
  refine rtake 1 rfl (by rfl) (by kernel_rfl) (by kernel_rfl) (by kernel_rfl) (fun _ _ _ h => h) hS (fun wx hwx => by go_simp; try with_reducible rfl) ?_
  try simp only [Act.put, List.setIfInBounds_toArray, List.set_cons_zero, List.set_cons_succ]
  refine rtake 2 rfl (by rfl) (by kernel_rfl) (by kernel_rfl) (by kernel_rfl) (fun _ _ _ h => h) hS (fun wx hwx => by go_simp; try with_reducible rfl) ?_
  try simp only [Act.put, List.setIfInBounds_toArray, List.set_cons_zero, List.set_cons_succ]
  refine rtake 3 rfl (by rfl) (by kernel_rfl) (by kernel_rfl) (by kernel_rfl) (fun _ _ _ h => h) hS (fun wx hwx => by have q2 : wx.cell? ⟨g, 2, none⟩ = some (.int .i64 q.dm) := hwx.cell 2 _ rfl; go_simp; try with_reducible rfl) ?_
  try simp only [Act.put, List.setIfInBounds_toArray, List.set_cons_zero, List.set_cons_succ]
  refine rtake 4 rfl (by rfl) (by kernel_rfl) (by kernel_rfl) (by kernel_rfl) (fun _ _ _ h => h) hS (fun wx hwx => by go_simp; try with_reducible rfl) ?_
  try simp only [Act.put, List.setIfInBounds_toArray, List.set_cons_zero, List.set_cons_succ]
  refine rtake 5 rfl (by rfl) (by kernel_rfl) (by kernel_rfl) (by kernel_rfl) (fun _ _ _ h => h) hS (fun wx hwx => by go_simp; try with_reducible rfl) ?_
  try simp only [Act.put, List.setIfInBounds_toArray, List.set_cons_zero, List.set_cons_succ]
  refine rtake 6 rfl (by rfl) (by kernel_rfl) (by kernel_rfl) (by kernel_rfl) (fun _ _ _ h => h) hS (fun wx hwx => by go_simp; try with_reducible rfl) ?_
  try simp only [Act.put, List.setIfInBounds_toArray, List.set_cons_zero, List.set_cons_succ]
  refine rtake 7 rfl (by rfl) (by kernel_rfl) (by kernel_rfl) (by kernel_rfl) (fun _ _ _ h => h) hS (fun wx hwx => by have q0 : wx.cell? ⟨g, 0, none⟩ = some (.int .u64 q.me.1) := hwx.cell 0 _ rfl; have q1 : wx.cell? ⟨g, 1, none⟩ = some (.int .i64 q.me.2) := hwx.cell 1 _ rfl; go_simp; try with_reducible rfl) ?_
  try simp only [Act.put, List.setIfInBounds_toArray, List.set_cons_zero, List.set_cons_succ]
  refine rtake 8 rfl (by rfl) (by kernel_rfl) (by kernel_rfl) (by kernel_rfl) (fun _ _ _ h => h) hS (fun wx hwx => by go_simp; try with_reducible rfl) ?_
  try simp only [Act.put, List.setIfInBounds_toArray, List.set_cons_zero, List.set_cons_succ]
  refine rtake 9 rfl (by rfl) (by kernel_rfl) (by kernel_rfl) (by kernel_rfl) (fun _ _ _ h => h) hS (fun wx hwx => exec_build_any _ _ rfl _ rfl (msK.enc m1).toArray (by rw [hm2.out]; kernel_rfl)) ?_
  try simp only [Act.put, List.setIfInBounds_toArray, List.set_cons_zero, List.set_cons_succ]
  refine rcall 10 rfl (by kernel_rfl) (by rfl) (fun K' hK => ?_)
  refine msT.op_store _ _ rfl G m1 zeroM _ (by rfl) (by rfl) hM2 ?_
  refine hK.out _ _ (hS.rowK_other hne _) ?_
  clear hK K'
  try simp only [Act.put, List.setIfInBounds_toArray, List.set_cons_zero, List.set_cons_succ]
  refine wpAnyH_done (by kernel_rfl) ?_ _
  go_wp2_with fail
  rw [← hm1.out, hs]
  exact bodyPost_ret (v := .agg (msK.enc m1).toArray) (msT.result rfl _ _ G _ _ rfl (hM2.rowK _)) rfl ⟨rfl, ⟨_, hS.rowK_other hne _, _, rfl, rfl, ⟨fun h => (by cases h), fun _ => rfl⟩⟩, ho2.row_new lG _⟩

set_option maxRecDepth 100000 in
set_option maxHeartbeats 8000000 in
theorem ownSent : CSent ExR := by
  rintro g x n at' w ⟨xs, hB, q, rfl, rfl, hq⟩
  have hE := fun wx => (equal_rq q.r ⟨n, true, false, 0⟩ wx).trans (by rw [equal_out q n hq])
  have hgl := hB.lt
  have hF : ∀ w', Below w.heap.size w w' → Only g w w' := fun w' h => Only.of_below g h
  go_enter Try.func14, Try.ntmps14
  have hn1 := bnew w (Obj.cells (rqK.enc (zeroRq)).toArray 52)
  have hM0 := Box.new w (rqK.enc (zeroRq)) 52
  go_upto_region 2 with (first | (guard_target =~ wpList _ _ _ (⟨some 9, _, _, _, _, _⟩ :: _) _ _; refine wpList_build_any (op := ⟨some 9, .build _ _, _, _, _, _⟩) (by rfl) _ _ (by rfl) _ (by rfl) (rqK.enc ⟨n, true, false, 0⟩).toArray (by kernel_rfl) ?_) | (guard_target =~ wpList _ _ _ (⟨none, _, _, _, _, _⟩ :: _) _ _; refine rqT.store (op := ⟨none, .store _ _ _, _, _, _, _⟩) (by rfl) _ _ (by rfl) (w.heap.size) (⟨n, true, false, 0⟩) (zeroRq) _ (by rfl) (by rfl) hM0 ?_))
  have n_hB_hN : g ≠ w.heap.size := by have h1 := hB.lt; have h2 := Nat.le_refl w.heap.size; omega
  have l_hN : w.heap.size ≤ w.heap.size := Nat.le_refl w.heap.size
  have hN := hM0.rowK (rqK.enc (⟨n, true, false, 0⟩))
  replace hB := (hB.below hn1).rowK_other (k := w.heap.size) n_hB_hN (rqK.enc (⟨n, true, false, 0⟩)).toArray
  have hW := below_setRow hn1 (Nat.le_refl _) (rqK.enc (⟨n, true, false, 0⟩)).toArray
  have hb := hW
  change Code.wp Try.prog _ _ _ ((w.alloc (Obj.cells (rqK.enc (zeroRq)).toArray 52)).setRow w.heap.size (rqK.enc (⟨n, true, false, 0⟩)).toArray)
  generalize (w.alloc (Obj.cells (rqK.enc (zeroRq)).toArray 52)).setRow w.heap.size (rqK.enc (⟨n, true, false, 0⟩)).toArray = w1 at *
  clear hn1 hM0 hW
  generalize w.heap.size = gn at *
  have ho := hF _ hb
  clear hF
  refine wp_region_held_drew (S := fun w' => Below w1.drew.heap.size w1.drew w') (by kernel_rfl) (Below.refl _ _) ?_
  intro hHeld
  have hbd := Below.drew (Below.refl w1.heap.size w1)
  replace ho := ho.next hbd
  replace hB := hB.below hbd
  replace hN := hN.below hbd
  clear hbd hb
  generalize w1.drew = WD at *
  refine rtake 0 rfl (by rfl) (by kernel_rfl) (by kernel_rfl) (by kernel_rfl) (fun _ _ _ h => h) hHeld (fun wx hwx => by go_simp; try with_reducible rfl) ?_
  try simp only [Act.put, List.setIfInBounds_toArray, List.set_cons_zero, List.set_cons_succ]
  refine rtake 1 rfl (by rfl) (by kernel_rfl) (by kernel_rfl) (by kernel_rfl) (fun _ _ _ h => h) hHeld (fun wx hwx => by go_simp; try with_reducible rfl) ?_
  try simp only [Act.put, List.setIfInBounds_toArray, List.set_cons_zero, List.set_cons_succ]
  refine rtake 2 rfl (by rfl) (by kernel_rfl) (by kernel_rfl) (by kernel_rfl) (fun _ _ _ h => h) hHeld (fun wx hwx => by go_simp; try with_reducible rfl) ?_
  try simp only [Act.put, List.setIfInBounds_toArray, List.set_cons_zero, List.set_cons_succ]
  refine rtake 3 rfl (by rfl) (by kernel_rfl) (by kernel_rfl) (by kernel_rfl) (fun _ _ _ h => h) hHeld (fun wx hwx => by exact rqT.exec (op := ⟨some 13, .load _ _, _, _, _, _⟩) _ rfl g 3 rfl q.r (hB.below hwx).last) ?_
  try simp only [Act.put, List.setIfInBounds_toArray, List.set_cons_zero, List.set_cons_succ]
  refine rtake 4 rfl (by rfl) (by kernel_rfl) (by kernel_rfl) (by kernel_rfl) (fun _ _ _ h => h) hHeld (fun wx hwx => by exact rqT.exec (op := ⟨some 14, .load _ _, _, _, _, _⟩) _ rfl gn 0 rfl ⟨n, true, false, 0⟩ (hN.below hwx).rangeK) ?_
  try simp only [Act.put, List.setIfInBounds_toArray, List.set_cons_zero, List.set_cons_succ]
  obtain ⟨B, hs⟩ : ∃ B, sentB (exOf q) n = B := ⟨_, rfl⟩
  rw [hs] at hE
  cases B
  case false =>
    refine rtake 5 rfl (by rfl) (by kernel_rfl) (by kernel_rfl) (by kernel_rfl) (fun _ _ _ h => h) hHeld (fun wx hwx => by go_simp; try with_reducible rfl) ?_
    try simp only [Act.put, List.setIfInBounds_toArray, List.set_cons_zero, List.set_cons_succ]
    refine wpAnyH_done (by kernel_rfl) ?_ _
    replace hB := hB.below hHeld
    replace ho := ho.next hHeld
    clear hHeld hN hE
    have e2 : sentS (exOf q) n at' = exOf q := by unfold sentS; rw [hs]; rfl
    replace e2 := hid e2
    replace hs := hid hs
    go_wp2_with fail
    go_ret
    exact ⟨ret_bool hs.out.symm, by rw [e2.out]; exact ⟨_, hB, _, rfl, rfl, hq⟩, ho⟩
  refine rtake 5 rfl (by rfl) (by kernel_rfl) (by kernel_rfl) (by kernel_rfl) (fun _ _ _ h => h) hHeld (fun wx hwx => by go_simp; try with_reducible rfl) ?_
  try simp only [Act.put, List.setIfInBounds_toArray, List.set_cons_zero, List.set_cons_succ]
  refine wpAnyH_done (by kernel_rfl) ?_ _
  replace hB := hB.below hHeld
  replace ho := ho.next hHeld
  clear hHeld hN hE
  have e0 := equal_out q n hq
  rw [hs] at e0
  simp only [Bool.and_eq_true, beq_iff_eq] at e0
  have e2 : sentS (exOf q) n at' = exOf { q with r := { q.r with went := true, ta := at' } } := by unfold sentS; rw [hs]; unfold exOf; simp [e0.2.1, e0.1]
  obtain ⟨-, e1, -⟩ := e0
  replace e2 := hid e2
  replace e1 := hid e1
  replace hs := hid hs
  have c5 := hB.cell 5 _ rfl
  have f5 := hB.free 5
  have c6 := hB.cell 6 _ rfl
  have f6 := hB.free 6
  have hB2 := (hB.set 5 (.bool true)).set 6 (.int .i64 at')
  replace ho := (ho.cell 5 (.bool true)).cell 6 (.int .i64 at')
  go_wp2_with fail
  go_ret
  exact ⟨ret_bool hs.out.symm, by rw [e2.out]; exact ⟨_, hB2, _, rfl, rfl, ⟨fun _ => e1.out, fun h => (by cases h)⟩⟩, ho⟩

end Go.Proofs.Ytnlmncpiccehjaa
