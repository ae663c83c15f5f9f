/- The document's own answers of chapter 17 (gen_delref.py). -/
import Derived.Test.YtnlmncpiccehjaaDel
import Derived.Test.YtnlmncpiccehjaaStampRef
import Derived.Test.YtnlmncpiccehjaaSeqRef
import Derived.Test.YtnlmncpiccehjaaBuild
namespace Go.Proofs.Ytnlmncpiccehjaa
open Go.RowKit Go.Proofs
set_option maxRecDepth 50000
set_option linter.unusedVariables false
set_option linter.unusedSimpArgs false

/-- The document's exchange. -/
structure Xq where
  me : Int × Int
  dm : Int
  out : Bool
  went : Bool
  sq : Int
  ta : Int
def xqK : RowK Xq := ⟨fun q => [.int .u64 q.me.1, .int .i64 q.me.2, .int .i64 q.dm, .bool q.out, .bool q.went, .int .i64 q.sq, .int .i64 q.ta], 7, by decide, fun _ => rfl, by
  intro q v hv
  simp only [List.mem_cons, List.not_mem_nil, or_false] at hv
  rcases hv with rfl | rfl | rfl | rfl | rfl | rfl | rfl <;> rfl⟩
theorem xqT : StrT xqK 30 := ⟨⟨_, Try.underlying30, rfl⟩, by kernel_rfl⟩
def xsOf (q : Xq) : Xs := ⟨q.me, q.dm, if q.out then some (q.sq, if q.went then some q.ta else none) else none⟩
/-- What its cells say. -/
def RX (xs : List Value) (x : Xs) : Prop := ∃ q : Xq, xs = xqK.enc q ∧ x = xsOf q ∧ (q.went = true → q.out = true)

set_option maxRecDepth 100000 in
set_option maxHeartbeats 8000000 in
theorem refClrX_any (g : Nat) (x : Xs) (w : World) (hA : ObAt 30 RX w g x) :
    Calls Try.prog 17 #[.pointer (some ⟨g, 0, none⟩)] w fun e w' => e = .returned (.tuple #[]) ∧ ObAt 30 RX w' g { x with out := none } ∧ Only g w w' := by
  obtain ⟨xs, hB, q, rfl, rfl, hq⟩ := hA
  have c3 := hB.cell 3 _ rfl
  have f3 := hB.free 3
  have c4 := hB.cell 4 _ rfl
  have f4 := hB.free 4
  have c5 := hB.cell 5 _ rfl
  have f5 := hB.free 5
  have c6 := hB.cell 6 _ rfl
  have f6 := hB.free 6
  have hB2 := (((hB.set 3 (.bool false)).set 4 (.bool false)).set 5 (.int .i64 0)).set 6 (.int .i64 0)
  have ho2 := ((((Only.refl g w).cell 3 (.bool false)).cell 4 (.bool false)).cell 5 (.int .i64 0)).cell 6 (.int .i64 0)
  go_enter Try.func17, Try.ntmps17
  go_wp2_with fail
  go_end0
  exact ⟨rfl, ⟨_, hB2, { q with out := false, went := false, sq := 0, ta := 0 }, rfl, rfl, fun h => h⟩, ho2⟩

set_option maxRecDepth 100000 in
set_option maxHeartbeats 8000000 in
theorem refReq_any (g : Nat) (x : Xs) (n : Int) (w : World) (hA : ObAt 30 RX w g x) :
    Calls Try.prog 13 #[.pointer (some ⟨g, 0, none⟩), .int .i64 n] w fun e w' => e = .returned (.agg (msK.enc (reqM x n)).toArray) ∧ ObAt 30 RX w' g (reqS x n) ∧ Only g w w' := by
  obtain ⟨xs, hB, q, rfl, rfl, hq⟩ := hA
  have hgl := hB.lt
  have hb := bnew w (Obj.cells (msK.enc zeroM).toArray 34)
  have hM := Box.new w (msK.enc zeroM) 34
  replace hB := hB.below hb
  have ho := Only.of_below g hb
  have hne : g ≠ w.heap.size := by omega
  go_enter Try.func13, Try.ntmps13
  go_upto_region 1 with fail
  change Code.wp Try.prog _ _ _ (w.alloc (Obj.cells (msK.enc zeroM).toArray 34))
  generalize w.alloc (Obj.cells (msK.enc zeroM).toArray 34) = W at *
  generalize hG : w.heap.size = G at *
  have lG : w.heap.size ≤ G := Nat.le_of_eq hG
  have c3 := hB.cell 3 _ rfl
  have f3 := hB.free 3
  have c4 := hB.cell 4 _ rfl
  have f4 := hB.free 4
  have c5 := hB.cell 5 _ rfl
  have f5 := hB.free 5
  have hB2 : Box (((W.setCell ⟨g, 3, none⟩ (.bool true)).setCell ⟨g, 4, none⟩ (.bool false)).setCell ⟨g, 5, none⟩ (.int .i64 (n % 65536))) g (xqK.enc { q with out := true, went := false, sq := n % 65536 }) 30 := ((hB.set 3 (.bool true)).set 4 (.bool false)).set 5 (.int .i64 (n % 65536))
  have hM2 := ((hM.other (Ne.symm hne) 3 (.bool true)).other (Ne.symm hne) 4 (.bool false)).other (Ne.symm hne) 5 (.int .i64 (n % 65536))
  have ho2 := ((ho.cell 3 (.bool true)).cell 4 (.bool false)).cell 5 (.int .i64 (n % 65536))
  go_wp2_with fail
  refine (refMod_any _ _).mono ?_
  rintro e w1 ⟨rfl, rfl⟩
  go_upto_region 4 with fail
  clear c3 f3 c4 f4 c5 f5 hB hM ho
  generalize World.setCell _ _ _ = W2 at *
  refine wp_region_held_drew (S := fun w' => Box w' g (xqK.enc { q with out := true, went := false, sq := n % 65536 }) 30) (by kernel_rfl) (hB2.below (Below.drew (Below.refl _ _))) ?_
  intro hS
  have hbd := Below.drew (Below.refl W2.heap.size W2)
  replace hM2 := hM2.below hbd
  replace ho2 := ho2.next hbd
  clear hbd hB2
  generalize W2.drew = WD at *
  refine rtake 0 rfl (by rfl) (by kernel_rfl) (by kernel_rfl) (by kernel_rfl) (fun _ _ _ h => h) hS (fun wx hwx => by go_simp; try with_reducible rfl) ?_
  try simp only [Act.put, List.setIfInBounds_toArray, List.set_cons_zero, List.set_cons_succ]
  refine rtake 1 rfl (by rfl) (by kernel_rfl) (by kernel_rfl) (by kernel_rfl) (fun _ _ _ h => h) hS (fun wx hwx => by go_simp; try with_reducible rfl) ?_
  try simp only [Act.put, List.setIfInBounds_toArray, List.set_cons_zero, List.set_cons_succ]
  refine rtake 2 rfl (by rfl) (by kernel_rfl) (by kernel_rfl) (by kernel_rfl) (fun _ _ _ h => h) hS (fun wx hwx => by go_simp; try with_reducible rfl) ?_
  try simp only [Act.put, List.setIfInBounds_toArray, List.set_cons_zero, List.set_cons_succ]
  refine rtake 3 rfl (by rfl) (by kernel_rfl) (by kernel_rfl) (by kernel_rfl) (fun _ _ _ h => h) hS (fun wx hwx => by have q2 : wx.cell? ⟨g, 2, none⟩ = some (.int .i64 q.dm) := hwx.cell 2 _ rfl; go_simp; try with_reducible rfl) ?_
  try simp only [Act.put, List.setIfInBounds_toArray, List.set_cons_zero, List.set_cons_succ]
  refine rtake 4 rfl (by rfl) (by kernel_rfl) (by kernel_rfl) (by kernel_rfl) (fun _ _ _ h => h) hS (fun wx hwx => by go_simp; try with_reducible rfl) ?_
  try simp only [Act.put, List.setIfInBounds_toArray, List.set_cons_zero, List.set_cons_succ]
  refine rtake 5 rfl (by rfl) (by kernel_rfl) (by kernel_rfl) (by kernel_rfl) (fun _ _ _ h => h) hS (fun wx hwx => by go_simp; try with_reducible rfl) ?_
  try simp only [Act.put, List.setIfInBounds_toArray, List.set_cons_zero, List.set_cons_succ]
  refine rtake 6 rfl (by rfl) (by kernel_rfl) (by kernel_rfl) (by kernel_rfl) (fun _ _ _ h => h) hS (fun wx hwx => by go_simp; try with_reducible rfl) ?_
  try simp only [Act.put, List.setIfInBounds_toArray, List.set_cons_zero, List.set_cons_succ]
  refine rtake 7 rfl (by rfl) (by kernel_rfl) (by kernel_rfl) (by kernel_rfl) (fun _ _ _ h => h) hS (fun wx hwx => by have q0 : wx.cell? ⟨g, 0, none⟩ = some (.int .u64 q.me.1) := hwx.cell 0 _ rfl; have q1 : wx.cell? ⟨g, 1, none⟩ = some (.int .i64 q.me.2) := hwx.cell 1 _ rfl; go_simp; try with_reducible rfl) ?_
  try simp only [Act.put, List.setIfInBounds_toArray, List.set_cons_zero, List.set_cons_succ]
  refine rtake 8 rfl (by rfl) (by kernel_rfl) (by kernel_rfl) (by kernel_rfl) (fun _ _ _ h => h) hS (fun wx hwx => by go_simp; try with_reducible rfl) ?_
  try simp only [Act.put, List.setIfInBounds_toArray, List.set_cons_zero, List.set_cons_succ]
  refine rtake 9 rfl (by rfl) (by kernel_rfl) (by kernel_rfl) (by kernel_rfl) (fun _ _ _ h => h) hS (fun wx hwx => by go_simp; try with_reducible rfl) ?_
  try simp only [Act.put, List.setIfInBounds_toArray, List.set_cons_zero, List.set_cons_succ]
  refine rtake 10 rfl (by rfl) (by kernel_rfl) (by kernel_rfl) (by kernel_rfl) (fun _ _ _ h => h) hS (fun wx hwx => by go_simp; try with_reducible rfl) ?_
  try simp only [Act.put, List.setIfInBounds_toArray, List.set_cons_zero, List.set_cons_succ]
  refine rtake 11 rfl (by rfl) (by kernel_rfl) (by kernel_rfl) (by kernel_rfl) (fun _ _ _ h => h) hS (fun wx hwx => by have q5 : wx.cell? ⟨g, 5, none⟩ = some (.int .i64 (n % 65536)) := hwx.cell 5 _ rfl; go_simp; try with_reducible rfl) ?_
  try simp only [Act.put, List.setIfInBounds_toArray, List.set_cons_zero, List.set_cons_succ]
  obtain ⟨m1, hm1⟩ : ∃ m1 : Hd × Bd, m1 = reqM (xsOf q) n := ⟨_, rfl⟩
  refine rtake 12 rfl (by rfl) (by kernel_rfl) (by kernel_rfl) (by kernel_rfl) (fun _ _ _ h => h) hS (fun wx hwx => exec_build_any _ _ rfl _ rfl (msK.enc m1).toArray (by rw [hm1]; kernel_rfl)) ?_
  try simp only [Act.put, List.setIfInBounds_toArray, List.set_cons_zero, List.set_cons_succ]
  refine rcall 13 rfl (by kernel_rfl) (by rfl) (fun K' hK => ?_)
  refine msT.op_store _ _ rfl G m1 zeroM _ (by rfl) (by rfl) hM2 ?_
  refine hK.out _ _ (hS.rowK_other hne _) ?_
  clear hK K'
  try simp only [Act.put, List.setIfInBounds_toArray, List.set_cons_zero, List.set_cons_succ]
  refine wpAnyH_done (by kernel_rfl) ?_ _
  go_wp2_with fail
  rw [← hm1]
  exact bodyPost_ret (v := .agg (msK.enc m1).toArray) (msT.result rfl _ _ G _ _ rfl (hM2.rowK _)) rfl ⟨rfl, ⟨_, hS.rowK_other hne _, { q with out := true, went := false, sq := n % 65536 }, rfl, rfl, fun h => by cases h⟩, ho2.row_new lG _⟩

set_option maxRecDepth 100000 in
set_option maxHeartbeats 8000000 in
theorem refSent_any (g : Nat) (x : Xs) (n at' : Int) (w : World) (hA : ObAt 30 RX w g x) :
    Calls Try.prog 15 #[.pointer (some ⟨g, 0, none⟩), .int .i64 n, .int .i64 at'] w fun e w' => e = .returned (.bool (sentB x n)) ∧ ObAt 30 RX w' g (sentS x n at') ∧ Only g w w' := by
  obtain ⟨xs, hB, q, rfl, rfl, hq⟩ := hA
  obtain ⟨me, dm, out, went, sq, ta⟩ := q
  replace hq : went = true → out = true := hq
  have HQ := hid hq
  have c3 : w.cell? ⟨g, 3, none⟩ = some (.bool out) := hB.cell 3 _ rfl
  have c4 : w.cell? ⟨g, 4, none⟩ = some (.bool went) := hB.cell 4 _ rfl
  have c5 : w.cell? ⟨g, 5, none⟩ = some (.int .i64 sq) := hB.cell 5 _ rfl
  have c6 : w.cell? ⟨g, 6, none⟩ = some (.int .i64 ta) := hB.cell 6 _ rfl
  have f4 := hB.free 4
  have f6 := hB.free 6
  go_enter Try.func15, Try.ntmps15
  cases out
  case false =>
    have hw0 : went = false := by cases went; rfl; exact absurd (hq rfl) (by decide)
    have e := sent_none (x := xsOf ⟨me, dm, false, went, sq, ta⟩) (n := n) (at' := at') rfl
    replace e := hid e
    go_wp2_with fail
    go_ret
    exact ⟨ret_bool e.out.1.symm, by rw [e.out.2]; exact ⟨_, hB, _, rfl, rfl, by first | exact HQ.out | (intro h; first | rfl | cases h)⟩, Only.refl _ _⟩
  cases went
  case true =>
    have e := sent_twice (x := xsOf ⟨me, dm, true, true, sq, ta⟩) (n := n) (at' := at') rfl
    replace e := hid e
    go_wp2_with fail
    go_ret
    exact ⟨ret_bool e.out.1.symm, by rw [e.out.2]; exact ⟨_, hB, _, rfl, rfl, by first | exact HQ.out | (intro h; first | rfl | cases h)⟩, Only.refl _ _⟩
  by_cases h : n = sq
  case neg =>
    have hn : (n == sq) = false := beq_false_of_ne h
    have e1 : sentB (xsOf ⟨me, dm, true, false, sq, ta⟩) n = false := by simp [sentB, xsOf, h]
    have e2 : sentS (xsOf ⟨me, dm, true, false, sq, ta⟩) n at' = xsOf ⟨me, dm, true, false, sq, ta⟩ := by unfold sentS; rw [e1]; rfl
    replace e1 := hid e1
    replace e2 := hid e2
    go_wp2_with fail
    go_ret
    exact ⟨ret_bool e1.out.symm, by rw [e2.out]; exact ⟨_, hB, _, rfl, rfl, by first | exact HQ.out | (intro h; first | rfl | cases h)⟩, Only.refl _ _⟩
  subst h
  have e := sent_yes (x := xsOf ⟨me, dm, true, false, n, ta⟩) (n := n) (at' := at') rfl
  replace e := hid e
  have hB2 : Box ((w.setCell ⟨g, 4, none⟩ (.bool true)).setCell ⟨g, 6, none⟩ (.int .i64 at')) g (xqK.enc ⟨me, dm, true, true, n, at'⟩) 30 := (hB.set 4 (.bool true)).set 6 (.int .i64 at')
  have ho2 := ((Only.refl g w).cell 4 (.bool true)).cell 6 (.int .i64 at')
  go_wp2_with fail
  go_ret
  exact ⟨ret_bool e.out.1.symm, by rw [e.out.2]; exact ⟨_, hB2, _, rfl, rfl, fun _ => rfl⟩, ho2⟩

theorem resp_d {x : Xs} {m : Hd × Bd} (h : respB x m = false) : respD x m = 0 := by
  unfold respD
  split
  · rw [h]; rfl
  · rfl
set_option maxRecDepth 100000 in
set_option maxHeartbeats 8000000 in
theorem refResp_any (g : Nat) (x : Xs) (m : Hd × Bd) (w : World) (hA : ObAt 30 RX w g x) (hm : HdOk m.1) :
    Calls Try.prog 19 #[.pointer (some ⟨g, 0, none⟩), .agg (msK.enc m).toArray] w fun e w' => e = .returned (.tuple #[.int .i64 (respD x m), .bool (respB x m)]) ∧ ObAt 30 RX w' g (respS x m) ∧ Only g w w' := by
  obtain ⟨xs, hB, q, rfl, rfl, hq⟩ := hA
  obtain ⟨me, dm, out, went, sq, ta⟩ := q
  replace hq : went = true → out = true := hq
  have HQ := hid hq
  have hgl := hB.lt
  have hb := bnew w (Obj.cells (msK.enc m).toArray 34)
  have hX := Box.new w (msK.enc m) 34
  replace hB := hB.below hb
  have ho := Only.of_below g hb
  have hne : g ≠ w.heap.size := by omega
  go_enter Try.func19, Try.ntmps19
  by_cases hty : m.1.ty = 9
  case neg =>
    have n0 : (m.1.ty != 9) = true := by simp [hty]
    have hno : respB (xsOf ⟨me, dm, out, went, sq, ta⟩) m = false := by unfold respB xsOf; cases out <;> cases went <;> simp [hty]
    go_upto_region 1 with fail
    change Code.wp Try.prog _ _ _ (w.alloc (Obj.cells (msK.enc m).toArray 34))
    generalize w.alloc (Obj.cells (msK.enc m).toArray 34) = W at *
    generalize w.heap.size = gx at *
    refine wp_region_held_drew (S := fun w' => Below W.drew.heap.size W.drew w') (by kernel_rfl) (Below.refl _ _) ?_
    intro hHeld
    have hbd := Below.drew (Below.refl W.heap.size W)
    generalize W.drew = WD at *
    have c0 : ∀ wx, Below WD.heap.size WD wx → wx.cell? ⟨g, 0, none⟩ = some (.int .u64 me.1) := fun wx h => (hB.below (bnext hbd h)).cell 0 _ (by first | rfl | (rw [← ht0]; rfl))
    have c1 : ∀ wx, Below WD.heap.size WD wx → wx.cell? ⟨g, 1, none⟩ = some (.int .i64 me.2) := fun wx h => (hB.below (bnext hbd h)).cell 1 _ (by first | rfl | (rw [← ht1]; rfl))
    have c4 : ∀ wx, Below WD.heap.size WD wx → wx.cell? ⟨g, 4, none⟩ = some (.bool went) := fun wx h => (hB.below (bnext hbd h)).cell 4 _ rfl
    have c5 : ∀ wx, Below WD.heap.size WD wx → wx.cell? ⟨g, 5, none⟩ = some (.int .i64 sq) := fun wx h => (hB.below (bnext hbd h)).cell 5 _ (by first | rfl | (rw [← hsq]; rfl))
    have x0 : ∀ wx, Below WD.heap.size WD wx → wx.cell? ⟨gx, 0, none⟩ = some (.int .i64 m.1.ty) := fun wx h => (hX.below (bnext hbd h)).cell 0 _ (by first | rfl | (rw [← hty]; rfl))
    have x9 : ∀ wx, Below WD.heap.size WD wx → wx.cell? ⟨gx, 9, none⟩ = some (.int .u64 m.2.tc) := fun wx h => (hX.below (bnext hbd h)).cell 9 _ rfl
    have x10 : ∀ wx, Below WD.heap.size WD wx → wx.cell? ⟨gx, 10, none⟩ = some (.int .i64 m.2.tp) := fun wx h => (hX.below (bnext hbd h)).cell 10 _ rfl
    have x6 : ∀ wx, Below WD.heap.size WD wx → wx.cell? ⟨gx, 6, none⟩ = some (.int .i64 m.1.sq) := fun wx h => (hX.below (bnext hbd h)).cell 6 _ rfl
    refine rtake 0 rfl (by rfl) (by kernel_rfl) (by kernel_rfl) (by kernel_rfl) (fun _ _ _ h => h) hHeld (fun wx hwx => by go_simp; try with_reducible rfl) ?_
    try simp only [Act.put, List.setIfInBounds_toArray, List.set_cons_zero, List.set_cons_succ]
    refine rtake 1 rfl (by rfl) (by kernel_rfl) (by kernel_rfl) (by kernel_rfl) (fun _ _ _ h => h) hHeld (fun wx hwx => by go_simp; try with_reducible rfl) ?_
    try simp only [Act.put, List.setIfInBounds_toArray, List.set_cons_zero, List.set_cons_succ]
    refine rtake 2 rfl (by rfl) (by kernel_rfl) (by kernel_rfl) (by kernel_rfl) (fun _ _ _ h => h) hHeld (fun wx hwx => by go_simp; try with_reducible rfl) ?_
    try simp only [Act.put, List.setIfInBounds_toArray, List.set_cons_zero, List.set_cons_succ]
    refine rtake 3 rfl (by rfl) (by kernel_rfl) (by kernel_rfl) (by kernel_rfl) (fun _ _ _ h => h) hHeld (fun wx hwx => by go_simp; try with_reducible rfl) ?_
    try simp only [Act.put, List.setIfInBounds_toArray, List.set_cons_zero, List.set_cons_succ]
    refine rpass 4 rfl (by rfl) (by kernel_rfl) (by kernel_rfl) (by kernel_rfl) (fun _ _ _ h => h) hHeld ?_
    try simp only [Act.put, List.setIfInBounds_toArray, List.set_cons_zero, List.set_cons_succ]
    refine rpass 5 rfl (by rfl) (by kernel_rfl) (by kernel_rfl) (by kernel_rfl) (fun _ _ _ h => h) hHeld ?_
    try simp only [Act.put, List.setIfInBounds_toArray, List.set_cons_zero, List.set_cons_succ]
    refine rpass 6 rfl (by rfl) (by kernel_rfl) (by kernel_rfl) (by kernel_rfl) (fun _ _ _ h => h) hHeld ?_
    try simp only [Act.put, List.setIfInBounds_toArray, List.set_cons_zero, List.set_cons_succ]
    refine rpass 7 rfl (by rfl) (by kernel_rfl) (by kernel_rfl) (by kernel_rfl) (fun _ _ _ h => h) hHeld ?_
    try simp only [Act.put, List.setIfInBounds_toArray, List.set_cons_zero, List.set_cons_succ]
    refine rpass 8 rfl (by rfl) (by kernel_rfl) (by kernel_rfl) (by kernel_rfl) (fun _ _ _ h => h) hHeld ?_
    try simp only [Act.put, List.setIfInBounds_toArray, List.set_cons_zero, List.set_cons_succ]
    refine rpass 9 rfl (by rfl) (by kernel_rfl) (by kernel_rfl) (by kernel_rfl) (fun _ _ _ h => h) hHeld ?_
    try simp only [Act.put, List.setIfInBounds_toArray, List.set_cons_zero, List.set_cons_succ]
    refine rpass 10 rfl (by rfl) (by kernel_rfl) (by kernel_rfl) (by kernel_rfl) (fun _ _ _ h => h) hHeld ?_
    try simp only [Act.put, List.setIfInBounds_toArray, List.set_cons_zero, List.set_cons_succ]
    refine rtake 11 rfl (by rfl) (by kernel_rfl) (by kernel_rfl) (by kernel_rfl) (fun _ _ _ h => h) hHeld (fun wx hwx => by go_simp; try with_reducible rfl) ?_
    try simp only [Act.put, List.setIfInBounds_toArray, List.set_cons_zero, List.set_cons_succ]
    refine rtake 12 rfl (by rfl) (by kernel_rfl) (by kernel_rfl) (by kernel_rfl) (fun _ _ _ h => h) hHeld (fun wx hwx => by go_simp; try with_reducible rfl) ?_
    try simp only [Act.put, List.setIfInBounds_toArray, List.set_cons_zero, List.set_cons_succ]
    refine rpass 13 rfl (by rfl) (by kernel_rfl) (by kernel_rfl) (by kernel_rfl) (fun _ _ _ h => h) hHeld ?_
    try simp only [Act.put, List.setIfInBounds_toArray, List.set_cons_zero, List.set_cons_succ]
    refine rpass 14 rfl (by rfl) (by kernel_rfl) (by kernel_rfl) (by kernel_rfl) (fun _ _ _ h => h) hHeld ?_
    try simp only [Act.put, List.setIfInBounds_toArray, List.set_cons_zero, List.set_cons_succ]
    refine rpass 15 rfl (by rfl) (by kernel_rfl) (by kernel_rfl) (by kernel_rfl) (fun _ _ _ h => h) hHeld ?_
    try simp only [Act.put, List.setIfInBounds_toArray, List.set_cons_zero, List.set_cons_succ]
    refine rpass 16 rfl (by rfl) (by kernel_rfl) (by kernel_rfl) (by kernel_rfl) (fun _ _ _ h => h) hHeld ?_
    try simp only [Act.put, List.setIfInBounds_toArray, List.set_cons_zero, List.set_cons_succ]
    refine rpass 17 rfl (by rfl) (by kernel_rfl) (by kernel_rfl) (by kernel_rfl) (fun _ _ _ h => h) hHeld ?_
    try simp only [Act.put, List.setIfInBounds_toArray, List.set_cons_zero, List.set_cons_succ]
    refine rtake 18 rfl (by rfl) (by kernel_rfl) (by kernel_rfl) (by kernel_rfl) (fun _ _ _ h => h) hHeld (fun wx hwx => by go_simp; try with_reducible rfl) ?_
    try simp only [Act.put, List.setIfInBounds_toArray, List.set_cons_zero, List.set_cons_succ]
    refine rtake 19 rfl (by rfl) (by kernel_rfl) (by kernel_rfl) (by kernel_rfl) (fun _ _ _ h => h) hHeld (fun wx hwx => by go_simp; try with_reducible rfl) ?_
    try simp only [Act.put, List.setIfInBounds_toArray, List.set_cons_zero, List.set_cons_succ]
    refine rpass 20 rfl (by rfl) (by kernel_rfl) (by kernel_rfl) (by kernel_rfl) (fun _ _ _ h => h) hHeld ?_
    try simp only [Act.put, List.setIfInBounds_toArray, List.set_cons_zero, List.set_cons_succ]
    refine rpass 21 rfl (by rfl) (by kernel_rfl) (by kernel_rfl) (by kernel_rfl) (fun _ _ _ h => h) hHeld ?_
    try simp only [Act.put, List.setIfInBounds_toArray, List.set_cons_zero, List.set_cons_succ]
    refine rpass 22 rfl (by rfl) (by kernel_rfl) (by kernel_rfl) (by kernel_rfl) (fun _ _ _ h => h) hHeld ?_
    try simp only [Act.put, List.setIfInBounds_toArray, List.set_cons_zero, List.set_cons_succ]
    refine rpass 23 rfl (by rfl) (by kernel_rfl) (by kernel_rfl) (by kernel_rfl) (fun _ _ _ h => h) hHeld ?_
    try simp only [Act.put, List.setIfInBounds_toArray, List.set_cons_zero, List.set_cons_succ]
    refine rpass 24 rfl (by rfl) (by kernel_rfl) (by kernel_rfl) (by kernel_rfl) (fun _ _ _ h => h) hHeld ?_
    try simp only [Act.put, List.setIfInBounds_toArray, List.set_cons_zero, List.set_cons_succ]
    refine rpass 25 rfl (by rfl) (by kernel_rfl) (by kernel_rfl) (by kernel_rfl) (fun _ _ _ h => h) hHeld ?_
    try simp only [Act.put, List.setIfInBounds_toArray, List.set_cons_zero, List.set_cons_succ]
    refine rpass 26 rfl (by rfl) (by kernel_rfl) (by kernel_rfl) (by kernel_rfl) (fun _ _ _ h => h) hHeld ?_
    try simp only [Act.put, List.setIfInBounds_toArray, List.set_cons_zero, List.set_cons_succ]
    refine rtake 27 rfl (by rfl) (by kernel_rfl) (by kernel_rfl) (by kernel_rfl) (fun _ _ _ h => h) hHeld (fun wx hwx => by go_simp; try with_reducible rfl) ?_
    try simp only [Act.put, List.setIfInBounds_toArray, List.set_cons_zero, List.set_cons_succ]
    refine wpAnyH_done (by kernel_rfl) ?_ _
    replace hB := hB.below hbd
    replace hX := hX.below hbd
    replace ho := ho.next hbd
    clear hHeld hbd c0 c1 c4 c5 x0 x6 x9 x10
    have e1 : respB (xsOf ⟨me, dm, out, went, sq, ta⟩) m = false := by first | exact hno | simp [hno]
    have e2 : respD (xsOf ⟨me, dm, out, went, sq, ta⟩) m = 0 := resp_d e1
    have e3 : respS (xsOf ⟨me, dm, out, went, sq, ta⟩) m = xsOf ⟨me, dm, out, went, sq, ta⟩ := by unfold respS; rw [e1]; rfl
    replace e1 := hid e1
    replace e2 := hid e2
    replace e3 := hid e3
    clear hno
    go_wp2_with fail
    go_ret2
    exact ⟨by rw [e1.out, e2.out]; rfl, by rw [e3.out]; exact ⟨_, hB, _, rfl, rfl, by first | exact HQ.out | (intro h; first | rfl | cases h)⟩, ho⟩
  by_cases ht0 : me.1 = m.2.tc
  case neg =>
    have n1 : (m.2.tc == me.1) = false := beq_false_of_ne (Ne.symm ht0)
    have hno : respB (xsOf ⟨me, dm, out, went, sq, ta⟩) m = false := by unfold respB xsOf; cases out <;> cases went <;> simp [Ne.symm ht0]
    go_upto_region 1 with fail
    change Code.wp Try.prog _ _ _ (w.alloc (Obj.cells (msK.enc m).toArray 34))
    generalize w.alloc (Obj.cells (msK.enc m).toArray 34) = W at *
    generalize w.heap.size = gx at *
    refine wp_region_held_drew (S := fun w' => Below W.drew.heap.size W.drew w') (by kernel_rfl) (Below.refl _ _) ?_
    intro hHeld
    have hbd := Below.drew (Below.refl W.heap.size W)
    generalize W.drew = WD at *
    have c0 : ∀ wx, Below WD.heap.size WD wx → wx.cell? ⟨g, 0, none⟩ = some (.int .u64 me.1) := fun wx h => (hB.below (bnext hbd h)).cell 0 _ (by first | rfl | (rw [← ht0]; rfl))
    have c1 : ∀ wx, Below WD.heap.size WD wx → wx.cell? ⟨g, 1, none⟩ = some (.int .i64 me.2) := fun wx h => (hB.below (bnext hbd h)).cell 1 _ (by first | rfl | (rw [← ht1]; rfl))
    have c4 : ∀ wx, Below WD.heap.size WD wx → wx.cell? ⟨g, 4, none⟩ = some (.bool went) := fun wx h => (hB.below (bnext hbd h)).cell 4 _ rfl
    have c5 : ∀ wx, Below WD.heap.size WD wx → wx.cell? ⟨g, 5, none⟩ = some (.int .i64 sq) := fun wx h => (hB.below (bnext hbd h)).cell 5 _ (by first | rfl | (rw [← hsq]; rfl))
    have x0 : ∀ wx, Below WD.heap.size WD wx → wx.cell? ⟨gx, 0, none⟩ = some (.int .i64 9) := fun wx h => (hX.below (bnext hbd h)).cell 0 _ (by first | rfl | (rw [← hty]; rfl))
    have x9 : ∀ wx, Below WD.heap.size WD wx → wx.cell? ⟨gx, 9, none⟩ = some (.int .u64 m.2.tc) := fun wx h => (hX.below (bnext hbd h)).cell 9 _ rfl
    have x10 : ∀ wx, Below WD.heap.size WD wx → wx.cell? ⟨gx, 10, none⟩ = some (.int .i64 m.2.tp) := fun wx h => (hX.below (bnext hbd h)).cell 10 _ rfl
    have x6 : ∀ wx, Below WD.heap.size WD wx → wx.cell? ⟨gx, 6, none⟩ = some (.int .i64 m.1.sq) := fun wx h => (hX.below (bnext hbd h)).cell 6 _ rfl
    refine rtake 0 rfl (by rfl) (by kernel_rfl) (by kernel_rfl) (by kernel_rfl) (fun _ _ _ h => h) hHeld (fun wx hwx => by go_simp; try with_reducible rfl) ?_
    try simp only [Act.put, List.setIfInBounds_toArray, List.set_cons_zero, List.set_cons_succ]
    refine rtake 1 rfl (by rfl) (by kernel_rfl) (by kernel_rfl) (by kernel_rfl) (fun _ _ _ h => h) hHeld (fun wx hwx => by go_simp; try with_reducible rfl) ?_
    try simp only [Act.put, List.setIfInBounds_toArray, List.set_cons_zero, List.set_cons_succ]
    refine rtake 2 rfl (by rfl) (by kernel_rfl) (by kernel_rfl) (by kernel_rfl) (fun _ _ _ h => h) hHeld (fun wx hwx => by go_simp; try with_reducible rfl) ?_
    try simp only [Act.put, List.setIfInBounds_toArray, List.set_cons_zero, List.set_cons_succ]
    refine rtake 3 rfl (by rfl) (by kernel_rfl) (by kernel_rfl) (by kernel_rfl) (fun _ _ _ h => h) hHeld (fun wx hwx => by go_simp; try with_reducible rfl) ?_
    try simp only [Act.put, List.setIfInBounds_toArray, List.set_cons_zero, List.set_cons_succ]
    refine rtake 4 rfl (by rfl) (by kernel_rfl) (by kernel_rfl) (by kernel_rfl) (fun _ _ _ h => h) hHeld (fun wx hwx => by go_simp; try with_reducible rfl) ?_
    try simp only [Act.put, List.setIfInBounds_toArray, List.set_cons_zero, List.set_cons_succ]
    refine rtake 5 rfl (by rfl) (by kernel_rfl) (by kernel_rfl) (by kernel_rfl) (fun _ _ _ h => h) hHeld (fun wx hwx => by go_simp; try with_reducible rfl) ?_
    try simp only [Act.put, List.setIfInBounds_toArray, List.set_cons_zero, List.set_cons_succ]
    refine rtake 6 rfl (by rfl) (by kernel_rfl) (by kernel_rfl) (by kernel_rfl) (fun _ _ _ h => h) hHeld (fun wx hwx => by go_simp; try with_reducible rfl) ?_
    try simp only [Act.put, List.setIfInBounds_toArray, List.set_cons_zero, List.set_cons_succ]
    refine rtake 7 rfl (by rfl) (by kernel_rfl) (by kernel_rfl) (by kernel_rfl) (fun _ _ _ h => h) hHeld (fun wx hwx => by go_simp; try with_reducible rfl) ?_
    try simp only [Act.put, List.setIfInBounds_toArray, List.set_cons_zero, List.set_cons_succ]
    refine rtake 8 rfl (by rfl) (by kernel_rfl) (by kernel_rfl) (by kernel_rfl) (fun _ _ _ h => h) hHeld (fun wx hwx => by go_simp; try with_reducible rfl) ?_
    try simp only [Act.put, List.setIfInBounds_toArray, List.set_cons_zero, List.set_cons_succ]
    refine rtake 9 rfl (by rfl) (by kernel_rfl) (by kernel_rfl) (by kernel_rfl) (fun _ _ _ h => h) hHeld (fun wx hwx => by go_simp; try with_reducible rfl) ?_
    try simp only [Act.put, List.setIfInBounds_toArray, List.set_cons_zero, List.set_cons_succ]
    refine rtake 10 rfl (by rfl) (by kernel_rfl) (by kernel_rfl) (by kernel_rfl) (fun _ _ _ h => h) hHeld (fun wx hwx => by go_simp; try with_reducible rfl) ?_
    try simp only [Act.put, List.setIfInBounds_toArray, List.set_cons_zero, List.set_cons_succ]
    refine rtake 11 rfl (by rfl) (by kernel_rfl) (by kernel_rfl) (by kernel_rfl) (fun _ _ _ h => h) hHeld (fun wx hwx => by go_simp; try with_reducible rfl) ?_
    try simp only [Act.put, List.setIfInBounds_toArray, List.set_cons_zero, List.set_cons_succ]
    refine rtake 12 rfl (by rfl) (by kernel_rfl) (by kernel_rfl) (by kernel_rfl) (fun _ _ _ h => h) hHeld (fun wx hwx => by go_simp; try with_reducible rfl) ?_
    try simp only [Act.put, List.setIfInBounds_toArray, List.set_cons_zero, List.set_cons_succ]
    refine rpass 13 rfl (by rfl) (by kernel_rfl) (by kernel_rfl) (by kernel_rfl) (fun _ _ _ h => h) hHeld ?_
    try simp only [Act.put, List.setIfInBounds_toArray, List.set_cons_zero, List.set_cons_succ]
    refine rpass 14 rfl (by rfl) (by kernel_rfl) (by kernel_rfl) (by kernel_rfl) (fun _ _ _ h => h) hHeld ?_
    try simp only [Act.put, List.setIfInBounds_toArray, List.set_cons_zero, List.set_cons_succ]
    refine rpass 15 rfl (by rfl) (by kernel_rfl) (by kernel_rfl) (by kernel_rfl) (fun _ _ _ h => h) hHeld ?_
    try simp only [Act.put, List.setIfInBounds_toArray, List.set_cons_zero, List.set_cons_succ]
    refine rpass 16 rfl (by rfl) (by kernel_rfl) (by kernel_rfl) (by kernel_rfl) (fun _ _ _ h => h) hHeld ?_
    try simp only [Act.put, List.setIfInBounds_toArray, List.set_cons_zero, List.set_cons_succ]
    refine rpass 17 rfl (by rfl) (by kernel_rfl) (by kernel_rfl) (by kernel_rfl) (fun _ _ _ h => h) hHeld ?_
    try simp only [Act.put, List.setIfInBounds_toArray, List.set_cons_zero, List.set_cons_succ]
    refine rtake 18 rfl (by rfl) (by kernel_rfl) (by kernel_rfl) (by kernel_rfl) (fun _ _ _ h => h) hHeld (fun wx hwx => by go_simp; try with_reducible rfl) ?_
    try simp only [Act.put, List.setIfInBounds_toArray, List.set_cons_zero, List.set_cons_succ]
    refine rtake 19 rfl (by rfl) (by kernel_rfl) (by kernel_rfl) (by kernel_rfl) (fun _ _ _ h => h) hHeld (fun wx hwx => by go_simp; try with_reducible rfl) ?_
    try simp only [Act.put, List.setIfInBounds_toArray, List.set_cons_zero, List.set_cons_succ]
    refine rpass 20 rfl (by rfl) (by kernel_rfl) (by kernel_rfl) (by kernel_rfl) (fun _ _ _ h => h) hHeld ?_
    try simp only [Act.put, List.setIfInBounds_toArray, List.set_cons_zero, List.set_cons_succ]
    refine rpass 21 rfl (by rfl) (by kernel_rfl) (by kernel_rfl) (by kernel_rfl) (fun _ _ _ h => h) hHeld ?_
    try simp only [Act.put, List.setIfInBounds_toArray, List.set_cons_zero, List.set_cons_succ]
    refine rpass 22 rfl (by rfl) (by kernel_rfl) (by kernel_rfl) (by kernel_rfl) (fun _ _ _ h => h) hHeld ?_
    try simp only [Act.put, List.setIfInBounds_toArray, List.set_cons_zero, List.set_cons_succ]
    refine rpass 23 rfl (by rfl) (by kernel_rfl) (by kernel_rfl) (by kernel_rfl) (fun _ _ _ h => h) hHeld ?_
    try simp only [Act.put, List.setIfInBounds_toArray, List.set_cons_zero, List.set_cons_succ]
    refine rpass 24 rfl (by rfl) (by kernel_rfl) (by kernel_rfl) (by kernel_rfl) (fun _ _ _ h => h) hHeld ?_
    try simp only [Act.put, List.setIfInBounds_toArray, List.set_cons_zero, List.set_cons_succ]
    refine rpass 25 rfl (by rfl) (by kernel_rfl) (by kernel_rfl) (by kernel_rfl) (fun _ _ _ h => h) hHeld ?_
    try simp only [Act.put, List.setIfInBounds_toArray, List.set_cons_zero, List.set_cons_succ]
    refine rpass 26 rfl (by rfl) (by kernel_rfl) (by kernel_rfl) (by kernel_rfl) (fun _ _ _ h => h) hHeld ?_
    try simp only [Act.put, List.setIfInBounds_toArray, List.set_cons_zero, List.set_cons_succ]
    refine rtake 27 rfl (by rfl) (by kernel_rfl) (by kernel_rfl) (by kernel_rfl) (fun _ _ _ h => h) hHeld (fun wx hwx => by go_simp; try with_reducible rfl) ?_
    try simp only [Act.put, List.setIfInBounds_toArray, List.set_cons_zero, List.set_cons_succ]
    refine wpAnyH_done (by kernel_rfl) ?_ _
    replace hB := hB.below hbd
    replace hX := hX.below hbd
    replace ho := ho.next hbd
    clear hHeld hbd c0 c1 c4 c5 x0 x6 x9 x10
    have e1 : respB (xsOf ⟨me, dm, out, went, sq, ta⟩) m = false := by first | exact hno | simp [hno]
    have e2 : respD (xsOf ⟨me, dm, out, went, sq, ta⟩) m = 0 := resp_d e1
    have e3 : respS (xsOf ⟨me, dm, out, went, sq, ta⟩) m = xsOf ⟨me, dm, out, went, sq, ta⟩ := by unfold respS; rw [e1]; rfl
    replace e1 := hid e1
    replace e2 := hid e2
    replace e3 := hid e3
    clear hno
    go_wp2_with fail
    go_ret2
    exact ⟨by rw [e1.out, e2.out]; rfl, by rw [e3.out]; exact ⟨_, hB, _, rfl, rfl, by first | exact HQ.out | (intro h; first | rfl | cases h)⟩, ho⟩
  by_cases ht1 : me.2 = m.2.tp
  case neg =>
    have n1 : (m.2.tp == me.2) = false := beq_false_of_ne (Ne.symm ht1)
    have hno : respB (xsOf ⟨me, dm, out, went, sq, ta⟩) m = false := by unfold respB xsOf; cases out <;> cases went <;> simp [Ne.symm ht1]
    go_upto_region 1 with fail
    change Code.wp Try.prog _ _ _ (w.alloc (Obj.cells (msK.enc m).toArray 34))
    generalize w.alloc (Obj.cells (msK.enc m).toArray 34) = W at *
    generalize w.heap.size = gx at *
    refine wp_region_held_drew (S := fun w' => Below W.drew.heap.size W.drew w') (by kernel_rfl) (Below.refl _ _) ?_
    intro hHeld
    have hbd := Below.drew (Below.refl W.heap.size W)
    generalize W.drew = WD at *
    have c0 : ∀ wx, Below WD.heap.size WD wx → wx.cell? ⟨g, 0, none⟩ = some (.int .u64 m.2.tc) := fun wx h => (hB.below (bnext hbd h)).cell 0 _ (by first | rfl | (rw [← ht0]; rfl))
    have c1 : ∀ wx, Below WD.heap.size WD wx → wx.cell? ⟨g, 1, none⟩ = some (.int .i64 me.2) := fun wx h => (hB.below (bnext hbd h)).cell 1 _ (by first | rfl | (rw [← ht1]; rfl))
    have c4 : ∀ wx, Below WD.heap.size WD wx → wx.cell? ⟨g, 4, none⟩ = some (.bool went) := fun wx h => (hB.below (bnext hbd h)).cell 4 _ rfl
    have c5 : ∀ wx, Below WD.heap.size WD wx → wx.cell? ⟨g, 5, none⟩ = some (.int .i64 sq) := fun wx h => (hB.below (bnext hbd h)).cell 5 _ (by first | rfl | (rw [← hsq]; rfl))
    have x0 : ∀ wx, Below WD.heap.size WD wx → wx.cell? ⟨gx, 0, none⟩ = some (.int .i64 9) := fun wx h => (hX.below (bnext hbd h)).cell 0 _ (by first | rfl | (rw [← hty]; rfl))
    have x9 : ∀ wx, Below WD.heap.size WD wx → wx.cell? ⟨gx, 9, none⟩ = some (.int .u64 m.2.tc) := fun wx h => (hX.below (bnext hbd h)).cell 9 _ rfl
    have x10 : ∀ wx, Below WD.heap.size WD wx → wx.cell? ⟨gx, 10, none⟩ = some (.int .i64 m.2.tp) := fun wx h => (hX.below (bnext hbd h)).cell 10 _ rfl
    have x6 : ∀ wx, Below WD.heap.size WD wx → wx.cell? ⟨gx, 6, none⟩ = some (.int .i64 m.1.sq) := fun wx h => (hX.below (bnext hbd h)).cell 6 _ rfl
    refine rtake 0 rfl (by rfl) (by kernel_rfl) (by kernel_rfl) (by kernel_rfl) (fun _ _ _ h => h) hHeld (fun wx hwx => by go_simp; try with_reducible rfl) ?_
    try simp only [Act.put, List.setIfInBounds_toArray, List.set_cons_zero, List.set_cons_succ]
    refine rtake 1 rfl (by rfl) (by kernel_rfl) (by kernel_rfl) (by kernel_rfl) (fun _ _ _ h => h) hHeld (fun wx hwx => by go_simp; try with_reducible rfl) ?_
    try simp only [Act.put, List.setIfInBounds_toArray, List.set_cons_zero, List.set_cons_succ]
    refine rtake 2 rfl (by rfl) (by kernel_rfl) (by kernel_rfl) (by kernel_rfl) (fun _ _ _ h => h) hHeld (fun wx hwx => by go_simp; try with_reducible rfl) ?_
    try simp only [Act.put, List.setIfInBounds_toArray, List.set_cons_zero, List.set_cons_succ]
    refine rtake 3 rfl (by rfl) (by kernel_rfl) (by kernel_rfl) (by kernel_rfl) (fun _ _ _ h => h) hHeld (fun wx hwx => by go_simp; try with_reducible rfl) ?_
    try simp only [Act.put, List.setIfInBounds_toArray, List.set_cons_zero, List.set_cons_succ]
    refine rtake 4 rfl (by rfl) (by kernel_rfl) (by kernel_rfl) (by kernel_rfl) (fun _ _ _ h => h) hHeld (fun wx hwx => by go_simp; try with_reducible rfl) ?_
    try simp only [Act.put, List.setIfInBounds_toArray, List.set_cons_zero, List.set_cons_succ]
    refine rtake 5 rfl (by rfl) (by kernel_rfl) (by kernel_rfl) (by kernel_rfl) (fun _ _ _ h => h) hHeld (fun wx hwx => by go_simp; try with_reducible rfl) ?_
    try simp only [Act.put, List.setIfInBounds_toArray, List.set_cons_zero, List.set_cons_succ]
    refine rtake 6 rfl (by rfl) (by kernel_rfl) (by kernel_rfl) (by kernel_rfl) (fun _ _ _ h => h) hHeld (fun wx hwx => by go_simp; try with_reducible rfl) ?_
    try simp only [Act.put, List.setIfInBounds_toArray, List.set_cons_zero, List.set_cons_succ]
    refine rtake 7 rfl (by rfl) (by kernel_rfl) (by kernel_rfl) (by kernel_rfl) (fun _ _ _ h => h) hHeld (fun wx hwx => by go_simp; try with_reducible rfl) ?_
    try simp only [Act.put, List.setIfInBounds_toArray, List.set_cons_zero, List.set_cons_succ]
    refine rtake 8 rfl (by rfl) (by kernel_rfl) (by kernel_rfl) (by kernel_rfl) (fun _ _ _ h => h) hHeld (fun wx hwx => by go_simp; try with_reducible rfl) ?_
    try simp only [Act.put, List.setIfInBounds_toArray, List.set_cons_zero, List.set_cons_succ]
    refine rtake 9 rfl (by rfl) (by kernel_rfl) (by kernel_rfl) (by kernel_rfl) (fun _ _ _ h => h) hHeld (fun wx hwx => by go_simp; try with_reducible rfl) ?_
    try simp only [Act.put, List.setIfInBounds_toArray, List.set_cons_zero, List.set_cons_succ]
    refine rtake 10 rfl (by rfl) (by kernel_rfl) (by kernel_rfl) (by kernel_rfl) (fun _ _ _ h => h) hHeld (fun wx hwx => by go_simp; try with_reducible rfl) ?_
    try simp only [Act.put, List.setIfInBounds_toArray, List.set_cons_zero, List.set_cons_succ]
    refine rtake 11 rfl (by rfl) (by kernel_rfl) (by kernel_rfl) (by kernel_rfl) (fun _ _ _ h => h) hHeld (fun wx hwx => by go_simp; try with_reducible rfl) ?_
    try simp only [Act.put, List.setIfInBounds_toArray, List.set_cons_zero, List.set_cons_succ]
    refine rtake 12 rfl (by rfl) (by kernel_rfl) (by kernel_rfl) (by kernel_rfl) (fun _ _ _ h => h) hHeld (fun wx hwx => by go_simp; try with_reducible rfl) ?_
    try simp only [Act.put, List.setIfInBounds_toArray, List.set_cons_zero, List.set_cons_succ]
    refine rpass 13 rfl (by rfl) (by kernel_rfl) (by kernel_rfl) (by kernel_rfl) (fun _ _ _ h => h) hHeld ?_
    try simp only [Act.put, List.setIfInBounds_toArray, List.set_cons_zero, List.set_cons_succ]
    refine rpass 14 rfl (by rfl) (by kernel_rfl) (by kernel_rfl) (by kernel_rfl) (fun _ _ _ h => h) hHeld ?_
    try simp only [Act.put, List.setIfInBounds_toArray, List.set_cons_zero, List.set_cons_succ]
    refine rpass 15 rfl (by rfl) (by kernel_rfl) (by kernel_rfl) (by kernel_rfl) (fun _ _ _ h => h) hHeld ?_
    try simp only [Act.put, List.setIfInBounds_toArray, List.set_cons_zero, List.set_cons_succ]
    refine rpass 16 rfl (by rfl) (by kernel_rfl) (by kernel_rfl) (by kernel_rfl) (fun _ _ _ h => h) hHeld ?_
    try simp only [Act.put, List.setIfInBounds_toArray, List.set_cons_zero, List.set_cons_succ]
    refine rpass 17 rfl (by rfl) (by kernel_rfl) (by kernel_rfl) (by kernel_rfl) (fun _ _ _ h => h) hHeld ?_
    try simp only [Act.put, List.setIfInBounds_toArray, List.set_cons_zero, List.set_cons_succ]
    refine rtake 18 rfl (by rfl) (by kernel_rfl) (by kernel_rfl) (by kernel_rfl) (fun _ _ _ h => h) hHeld (fun wx hwx => by go_simp; try with_reducible rfl) ?_
    try simp only [Act.put, List.setIfInBounds_toArray, List.set_cons_zero, List.set_cons_succ]
    refine rtake 19 rfl (by rfl) (by kernel_rfl) (by kernel_rfl) (by kernel_rfl) (fun _ _ _ h => h) hHeld (fun wx hwx => by go_simp; try with_reducible rfl) ?_
    try simp only [Act.put, List.setIfInBounds_toArray, List.set_cons_zero, List.set_cons_succ]
    refine rpass 20 rfl (by rfl) (by kernel_rfl) (by kernel_rfl) (by kernel_rfl) (fun _ _ _ h => h) hHeld ?_
    try simp only [Act.put, List.setIfInBounds_toArray, List.set_cons_zero, List.set_cons_succ]
    refine rpass 21 rfl (by rfl) (by kernel_rfl) (by kernel_rfl) (by kernel_rfl) (fun _ _ _ h => h) hHeld ?_
    try simp only [Act.put, List.setIfInBounds_toArray, List.set_cons_zero, List.set_cons_succ]
    refine rpass 22 rfl (by rfl) (by kernel_rfl) (by kernel_rfl) (by kernel_rfl) (fun _ _ _ h => h) hHeld ?_
    try simp only [Act.put, List.setIfInBounds_toArray, List.set_cons_zero, List.set_cons_succ]
    refine rpass 23 rfl (by rfl) (by kernel_rfl) (by kernel_rfl) (by kernel_rfl) (fun _ _ _ h => h) hHeld ?_
    try simp only [Act.put, List.setIfInBounds_toArray, List.set_cons_zero, List.set_cons_succ]
    refine rpass 24 rfl (by rfl) (by kernel_rfl) (by kernel_rfl) (by kernel_rfl) (fun _ _ _ h => h) hHeld ?_
    try simp only [Act.put, List.setIfInBounds_toArray, List.set_cons_zero, List.set_cons_succ]
    refine rpass 25 rfl (by rfl) (by kernel_rfl) (by kernel_rfl) (by kernel_rfl) (fun _ _ _ h => h) hHeld ?_
    try simp only [Act.put, List.setIfInBounds_toArray, List.set_cons_zero, List.set_cons_succ]
    refine rpass 26 rfl (by rfl) (by kernel_rfl) (by kernel_rfl) (by kernel_rfl) (fun _ _ _ h => h) hHeld ?_
    try simp only [Act.put, List.setIfInBounds_toArray, List.set_cons_zero, List.set_cons_succ]
    refine rtake 27 rfl (by rfl) (by kernel_rfl) (by kernel_rfl) (by kernel_rfl) (fun _ _ _ h => h) hHeld (fun wx hwx => by go_simp; try with_reducible rfl) ?_
    try simp only [Act.put, List.setIfInBounds_toArray, List.set_cons_zero, List.set_cons_succ]
    refine wpAnyH_done (by kernel_rfl) ?_ _
    replace hB := hB.below hbd
    replace hX := hX.below hbd
    replace ho := ho.next hbd
    clear hHeld hbd c0 c1 c4 c5 x0 x6 x9 x10
    have e1 : respB (xsOf ⟨me, dm, out, went, sq, ta⟩) m = false := by first | exact hno | simp [hno]
    have e2 : respD (xsOf ⟨me, dm, out, went, sq, ta⟩) m = 0 := resp_d e1
    have e3 : respS (xsOf ⟨me, dm, out, went, sq, ta⟩) m = xsOf ⟨me, dm, out, went, sq, ta⟩ := by unfold respS; rw [e1]; rfl
    replace e1 := hid e1
    replace e2 := hid e2
    replace e3 := hid e3
    clear hno
    go_wp2_with fail
    go_ret2
    exact ⟨by rw [e1.out, e2.out]; rfl, by rw [e3.out]; exact ⟨_, hB, _, rfl, rfl, by first | exact HQ.out | (intro h; first | rfl | cases h)⟩, ho⟩
  cases went
  case false =>
    have hno : respB (xsOf ⟨me, dm, out, false, sq, ta⟩) m = false := by unfold respB xsOf; cases out <;> simp
    go_upto_region 1 with fail
    change Code.wp Try.prog _ _ _ (w.alloc (Obj.cells (msK.enc m).toArray 34))
    generalize w.alloc (Obj.cells (msK.enc m).toArray 34) = W at *
    generalize w.heap.size = gx at *
    refine wp_region_held_drew (S := fun w' => Below W.drew.heap.size W.drew w') (by kernel_rfl) (Below.refl _ _) ?_
    intro hHeld
    have hbd := Below.drew (Below.refl W.heap.size W)
    generalize W.drew = WD at *
    have c0 : ∀ wx, Below WD.heap.size WD wx → wx.cell? ⟨g, 0, none⟩ = some (.int .u64 m.2.tc) := fun wx h => (hB.below (bnext hbd h)).cell 0 _ (by first | rfl | (rw [← ht0]; rfl))
    have c1 : ∀ wx, Below WD.heap.size WD wx → wx.cell? ⟨g, 1, none⟩ = some (.int .i64 m.2.tp) := fun wx h => (hB.below (bnext hbd h)).cell 1 _ (by first | rfl | (rw [← ht1]; rfl))
    have c4 : ∀ wx, Below WD.heap.size WD wx → wx.cell? ⟨g, 4, none⟩ = some (.bool false) := fun wx h => (hB.below (bnext hbd h)).cell 4 _ rfl
    have c5 : ∀ wx, Below WD.heap.size WD wx → wx.cell? ⟨g, 5, none⟩ = some (.int .i64 sq) := fun wx h => (hB.below (bnext hbd h)).cell 5 _ (by first | rfl | (rw [← hsq]; rfl))
    have x0 : ∀ wx, Below WD.heap.size WD wx → wx.cell? ⟨gx, 0, none⟩ = some (.int .i64 9) := fun wx h => (hX.below (bnext hbd h)).cell 0 _ (by first | rfl | (rw [← hty]; rfl))
    have x9 : ∀ wx, Below WD.heap.size WD wx → wx.cell? ⟨gx, 9, none⟩ = some (.int .u64 m.2.tc) := fun wx h => (hX.below (bnext hbd h)).cell 9 _ rfl
    have x10 : ∀ wx, Below WD.heap.size WD wx → wx.cell? ⟨gx, 10, none⟩ = some (.int .i64 m.2.tp) := fun wx h => (hX.below (bnext hbd h)).cell 10 _ rfl
    have x6 : ∀ wx, Below WD.heap.size WD wx → wx.cell? ⟨gx, 6, none⟩ = some (.int .i64 m.1.sq) := fun wx h => (hX.below (bnext hbd h)).cell 6 _ rfl
    refine rtake 0 rfl (by rfl) (by kernel_rfl) (by kernel_rfl) (by kernel_rfl) (fun _ _ _ h => h) hHeld (fun wx hwx => by go_simp; try with_reducible rfl) ?_
    try simp only [Act.put, List.setIfInBounds_toArray, List.set_cons_zero, List.set_cons_succ]
    refine rtake 1 rfl (by rfl) (by kernel_rfl) (by kernel_rfl) (by kernel_rfl) (fun _ _ _ h => h) hHeld (fun wx hwx => by go_simp; try with_reducible rfl) ?_
    try simp only [Act.put, List.setIfInBounds_toArray, List.set_cons_zero, List.set_cons_succ]
    refine rtake 2 rfl (by rfl) (by kernel_rfl) (by kernel_rfl) (by kernel_rfl) (fun _ _ _ h => h) hHeld (fun wx hwx => by go_simp; try with_reducible rfl) ?_
    try simp only [Act.put, List.setIfInBounds_toArray, List.set_cons_zero, List.set_cons_succ]
    refine rtake 3 rfl (by rfl) (by kernel_rfl) (by kernel_rfl) (by kernel_rfl) (fun _ _ _ h => h) hHeld (fun wx hwx => by go_simp; try with_reducible rfl) ?_
    try simp only [Act.put, List.setIfInBounds_toArray, List.set_cons_zero, List.set_cons_succ]
    refine rtake 4 rfl (by rfl) (by kernel_rfl) (by kernel_rfl) (by kernel_rfl) (fun _ _ _ h => h) hHeld (fun wx hwx => by go_simp; try with_reducible rfl) ?_
    try simp only [Act.put, List.setIfInBounds_toArray, List.set_cons_zero, List.set_cons_succ]
    refine rtake 5 rfl (by rfl) (by kernel_rfl) (by kernel_rfl) (by kernel_rfl) (fun _ _ _ h => h) hHeld (fun wx hwx => by go_simp; try with_reducible rfl) ?_
    try simp only [Act.put, List.setIfInBounds_toArray, List.set_cons_zero, List.set_cons_succ]
    refine rtake 6 rfl (by rfl) (by kernel_rfl) (by kernel_rfl) (by kernel_rfl) (fun _ _ _ h => h) hHeld (fun wx hwx => by go_simp; try with_reducible rfl) ?_
    try simp only [Act.put, List.setIfInBounds_toArray, List.set_cons_zero, List.set_cons_succ]
    refine rtake 7 rfl (by rfl) (by kernel_rfl) (by kernel_rfl) (by kernel_rfl) (fun _ _ _ h => h) hHeld (fun wx hwx => by go_simp; try with_reducible rfl) ?_
    try simp only [Act.put, List.setIfInBounds_toArray, List.set_cons_zero, List.set_cons_succ]
    refine rtake 8 rfl (by rfl) (by kernel_rfl) (by kernel_rfl) (by kernel_rfl) (fun _ _ _ h => h) hHeld (fun wx hwx => by go_simp; try with_reducible rfl) ?_
    try simp only [Act.put, List.setIfInBounds_toArray, List.set_cons_zero, List.set_cons_succ]
    refine rtake 9 rfl (by rfl) (by kernel_rfl) (by kernel_rfl) (by kernel_rfl) (fun _ _ _ h => h) hHeld (fun wx hwx => by go_simp; try with_reducible rfl) ?_
    try simp only [Act.put, List.setIfInBounds_toArray, List.set_cons_zero, List.set_cons_succ]
    refine rtake 10 rfl (by rfl) (by kernel_rfl) (by kernel_rfl) (by kernel_rfl) (fun _ _ _ h => h) hHeld (fun wx hwx => by go_simp; try with_reducible rfl) ?_
    try simp only [Act.put, List.setIfInBounds_toArray, List.set_cons_zero, List.set_cons_succ]
    refine rtake 11 rfl (by rfl) (by kernel_rfl) (by kernel_rfl) (by kernel_rfl) (fun _ _ _ h => h) hHeld (fun wx hwx => by go_simp; try with_reducible rfl) ?_
    try simp only [Act.put, List.setIfInBounds_toArray, List.set_cons_zero, List.set_cons_succ]
    refine rtake 12 rfl (by rfl) (by kernel_rfl) (by kernel_rfl) (by kernel_rfl) (fun _ _ _ h => h) hHeld (fun wx hwx => by go_simp; try with_reducible rfl) ?_
    try simp only [Act.put, List.setIfInBounds_toArray, List.set_cons_zero, List.set_cons_succ]
    refine rtake 13 rfl (by rfl) (by kernel_rfl) (by kernel_rfl) (by kernel_rfl) (fun _ _ _ h => h) hHeld (fun wx hwx => by go_simp; try with_reducible rfl) ?_
    try simp only [Act.put, List.setIfInBounds_toArray, List.set_cons_zero, List.set_cons_succ]
    refine rtake 14 rfl (by rfl) (by kernel_rfl) (by kernel_rfl) (by kernel_rfl) (fun _ _ _ h => h) hHeld (fun wx hwx => by go_simp; try with_reducible rfl) ?_
    try simp only [Act.put, List.setIfInBounds_toArray, List.set_cons_zero, List.set_cons_succ]
    refine rtake 15 rfl (by rfl) (by kernel_rfl) (by kernel_rfl) (by kernel_rfl) (fun _ _ _ h => h) hHeld (fun wx hwx => by go_simp; try with_reducible rfl) ?_
    try simp only [Act.put, List.setIfInBounds_toArray, List.set_cons_zero, List.set_cons_succ]
    refine rtake 16 rfl (by rfl) (by kernel_rfl) (by kernel_rfl) (by kernel_rfl) (fun _ _ _ h => h) hHeld (fun wx hwx => by go_simp; try with_reducible rfl) ?_
    try simp only [Act.put, List.setIfInBounds_toArray, List.set_cons_zero, List.set_cons_succ]
    refine rtake 17 rfl (by rfl) (by kernel_rfl) (by kernel_rfl) (by kernel_rfl) (fun _ _ _ h => h) hHeld (fun wx hwx => by go_simp; try with_reducible rfl) ?_
    try simp only [Act.put, List.setIfInBounds_toArray, List.set_cons_zero, List.set_cons_succ]
    refine rtake 18 rfl (by rfl) (by kernel_rfl) (by kernel_rfl) (by kernel_rfl) (fun _ _ _ h => h) hHeld (fun wx hwx => by go_simp; try with_reducible rfl) ?_
    try simp only [Act.put, List.setIfInBounds_toArray, List.set_cons_zero, List.set_cons_succ]
    refine rtake 19 rfl (by rfl) (by kernel_rfl) (by kernel_rfl) (by kernel_rfl) (fun _ _ _ h => h) hHeld (fun wx hwx => by go_simp; try with_reducible rfl) ?_
    try simp only [Act.put, List.setIfInBounds_toArray, List.set_cons_zero, List.set_cons_succ]
    refine rpass 20 rfl (by rfl) (by kernel_rfl) (by kernel_rfl) (by kernel_rfl) (fun _ _ _ h => h) hHeld ?_
    try simp only [Act.put, List.setIfInBounds_toArray, List.set_cons_zero, List.set_cons_succ]
    refine rpass 21 rfl (by rfl) (by kernel_rfl) (by kernel_rfl) (by kernel_rfl) (fun _ _ _ h => h) hHeld ?_
    try simp only [Act.put, List.setIfInBounds_toArray, List.set_cons_zero, List.set_cons_succ]
    refine rpass 22 rfl (by rfl) (by kernel_rfl) (by kernel_rfl) (by kernel_rfl) (fun _ _ _ h => h) hHeld ?_
    try simp only [Act.put, List.setIfInBounds_toArray, List.set_cons_zero, List.set_cons_succ]
    refine rpass 23 rfl (by rfl) (by kernel_rfl) (by kernel_rfl) (by kernel_rfl) (fun _ _ _ h => h) hHeld ?_
    try simp only [Act.put, List.setIfInBounds_toArray, List.set_cons_zero, List.set_cons_succ]
    refine rpass 24 rfl (by rfl) (by kernel_rfl) (by kernel_rfl) (by kernel_rfl) (fun _ _ _ h => h) hHeld ?_
    try simp only [Act.put, List.setIfInBounds_toArray, List.set_cons_zero, List.set_cons_succ]
    refine rpass 25 rfl (by rfl) (by kernel_rfl) (by kernel_rfl) (by kernel_rfl) (fun _ _ _ h => h) hHeld ?_
    try simp only [Act.put, List.setIfInBounds_toArray, List.set_cons_zero, List.set_cons_succ]
    refine rpass 26 rfl (by rfl) (by kernel_rfl) (by kernel_rfl) (by kernel_rfl) (fun _ _ _ h => h) hHeld ?_
    try simp only [Act.put, List.setIfInBounds_toArray, List.set_cons_zero, List.set_cons_succ]
    refine rtake 27 rfl (by rfl) (by kernel_rfl) (by kernel_rfl) (by kernel_rfl) (fun _ _ _ h => h) hHeld (fun wx hwx => by go_simp; try with_reducible rfl) ?_
    try simp only [Act.put, List.setIfInBounds_toArray, List.set_cons_zero, List.set_cons_succ]
    refine wpAnyH_done (by kernel_rfl) ?_ _
    replace hB := hB.below hbd
    replace hX := hX.below hbd
    replace ho := ho.next hbd
    clear hHeld hbd c0 c1 c4 c5 x0 x6 x9 x10
    have e1 : respB (xsOf ⟨me, dm, out, false, sq, ta⟩) m = false := by first | exact hno | simp [hno]
    have e2 : respD (xsOf ⟨me, dm, out, false, sq, ta⟩) m = 0 := resp_d e1
    have e3 : respS (xsOf ⟨me, dm, out, false, sq, ta⟩) m = xsOf ⟨me, dm, out, false, sq, ta⟩ := by unfold respS; rw [e1]; rfl
    replace e1 := hid e1
    replace e2 := hid e2
    replace e3 := hid e3
    clear hno
    go_wp2_with fail
    go_ret2
    exact ⟨by rw [e1.out, e2.out]; rfl, by rw [e3.out]; exact ⟨_, hB, _, rfl, rfl, by first | exact HQ.out | (intro h; first | rfl | cases h)⟩, ho⟩
  obtain rfl : out = true := hq rfl
  by_cases hsq : sq = m.1.sq
  case neg =>
    have n1 : (m.1.sq != sq) = true := by simp [Ne.symm hsq]
    have hno : respB (xsOf ⟨me, dm, true, true, sq, ta⟩) m = false := by unfold respB xsOf; simp [Ne.symm hsq]
    go_upto_region 1 with fail
    change Code.wp Try.prog _ _ _ (w.alloc (Obj.cells (msK.enc m).toArray 34))
    generalize w.alloc (Obj.cells (msK.enc m).toArray 34) = W at *
    generalize w.heap.size = gx at *
    refine wp_region_held_drew (S := fun w' => Below W.drew.heap.size W.drew w') (by kernel_rfl) (Below.refl _ _) ?_
    intro hHeld
    have hbd := Below.drew (Below.refl W.heap.size W)
    generalize W.drew = WD at *
    have c0 : ∀ wx, Below WD.heap.size WD wx → wx.cell? ⟨g, 0, none⟩ = some (.int .u64 m.2.tc) := fun wx h => (hB.below (bnext hbd h)).cell 0 _ (by first | rfl | (rw [← ht0]; rfl))
    have c1 : ∀ wx, Below WD.heap.size WD wx → wx.cell? ⟨g, 1, none⟩ = some (.int .i64 m.2.tp) := fun wx h => (hB.below (bnext hbd h)).cell 1 _ (by first | rfl | (rw [← ht1]; rfl))
    have c4 : ∀ wx, Below WD.heap.size WD wx → wx.cell? ⟨g, 4, none⟩ = some (.bool true) := fun wx h => (hB.below (bnext hbd h)).cell 4 _ rfl
    have c5 : ∀ wx, Below WD.heap.size WD wx → wx.cell? ⟨g, 5, none⟩ = some (.int .i64 sq) := fun wx h => (hB.below (bnext hbd h)).cell 5 _ (by first | rfl | (rw [← hsq]; rfl))
    have x0 : ∀ wx, Below WD.heap.size WD wx → wx.cell? ⟨gx, 0, none⟩ = some (.int .i64 9) := fun wx h => (hX.below (bnext hbd h)).cell 0 _ (by first | rfl | (rw [← hty]; rfl))
    have x9 : ∀ wx, Below WD.heap.size WD wx → wx.cell? ⟨gx, 9, none⟩ = some (.int .u64 m.2.tc) := fun wx h => (hX.below (bnext hbd h)).cell 9 _ rfl
    have x10 : ∀ wx, Below WD.heap.size WD wx → wx.cell? ⟨gx, 10, none⟩ = some (.int .i64 m.2.tp) := fun wx h => (hX.below (bnext hbd h)).cell 10 _ rfl
    have x6 : ∀ wx, Below WD.heap.size WD wx → wx.cell? ⟨gx, 6, none⟩ = some (.int .i64 m.1.sq) := fun wx h => (hX.below (bnext hbd h)).cell 6 _ rfl
    refine rtake 0 rfl (by rfl) (by kernel_rfl) (by kernel_rfl) (by kernel_rfl) (fun _ _ _ h => h) hHeld (fun wx hwx => by go_simp; try with_reducible rfl) ?_
    try simp only [Act.put, List.setIfInBounds_toArray, List.set_cons_zero, List.set_cons_succ]
    refine rtake 1 rfl (by rfl) (by kernel_rfl) (by kernel_rfl) (by kernel_rfl) (fun _ _ _ h => h) hHeld (fun wx hwx => by go_simp; try with_reducible rfl) ?_
    try simp only [Act.put, List.setIfInBounds_toArray, List.set_cons_zero, List.set_cons_succ]
    refine rtake 2 rfl (by rfl) (by kernel_rfl) (by kernel_rfl) (by kernel_rfl) (fun _ _ _ h => h) hHeld (fun wx hwx => by go_simp; try with_reducible rfl) ?_
    try simp only [Act.put, List.setIfInBounds_toArray, List.set_cons_zero, List.set_cons_succ]
    refine rtake 3 rfl (by rfl) (by kernel_rfl) (by kernel_rfl) (by kernel_rfl) (fun _ _ _ h => h) hHeld (fun wx hwx => by go_simp; try with_reducible rfl) ?_
    try simp only [Act.put, List.setIfInBounds_toArray, List.set_cons_zero, List.set_cons_succ]
    refine rtake 4 rfl (by rfl) (by kernel_rfl) (by kernel_rfl) (by kernel_rfl) (fun _ _ _ h => h) hHeld (fun wx hwx => by go_simp; try with_reducible rfl) ?_
    try simp only [Act.put, List.setIfInBounds_toArray, List.set_cons_zero, List.set_cons_succ]
    refine rtake 5 rfl (by rfl) (by kernel_rfl) (by kernel_rfl) (by kernel_rfl) (fun _ _ _ h => h) hHeld (fun wx hwx => by go_simp; try with_reducible rfl) ?_
    try simp only [Act.put, List.setIfInBounds_toArray, List.set_cons_zero, List.set_cons_succ]
    refine rtake 6 rfl (by rfl) (by kernel_rfl) (by kernel_rfl) (by kernel_rfl) (fun _ _ _ h => h) hHeld (fun wx hwx => by go_simp; try with_reducible rfl) ?_
    try simp only [Act.put, List.setIfInBounds_toArray, List.set_cons_zero, List.set_cons_succ]
    refine rtake 7 rfl (by rfl) (by kernel_rfl) (by kernel_rfl) (by kernel_rfl) (fun _ _ _ h => h) hHeld (fun wx hwx => by go_simp; try with_reducible rfl) ?_
    try simp only [Act.put, List.setIfInBounds_toArray, List.set_cons_zero, List.set_cons_succ]
    refine rtake 8 rfl (by rfl) (by kernel_rfl) (by kernel_rfl) (by kernel_rfl) (fun _ _ _ h => h) hHeld (fun wx hwx => by go_simp; try with_reducible rfl) ?_
    try simp only [Act.put, List.setIfInBounds_toArray, List.set_cons_zero, List.set_cons_succ]
    refine rtake 9 rfl (by rfl) (by kernel_rfl) (by kernel_rfl) (by kernel_rfl) (fun _ _ _ h => h) hHeld (fun wx hwx => by go_simp; try with_reducible rfl) ?_
    try simp only [Act.put, List.setIfInBounds_toArray, List.set_cons_zero, List.set_cons_succ]
    refine rtake 10 rfl (by rfl) (by kernel_rfl) (by kernel_rfl) (by kernel_rfl) (fun _ _ _ h => h) hHeld (fun wx hwx => by go_simp; try with_reducible rfl) ?_
    try simp only [Act.put, List.setIfInBounds_toArray, List.set_cons_zero, List.set_cons_succ]
    refine rtake 11 rfl (by rfl) (by kernel_rfl) (by kernel_rfl) (by kernel_rfl) (fun _ _ _ h => h) hHeld (fun wx hwx => by go_simp; try with_reducible rfl) ?_
    try simp only [Act.put, List.setIfInBounds_toArray, List.set_cons_zero, List.set_cons_succ]
    refine rtake 12 rfl (by rfl) (by kernel_rfl) (by kernel_rfl) (by kernel_rfl) (fun _ _ _ h => h) hHeld (fun wx hwx => by go_simp; try with_reducible rfl) ?_
    try simp only [Act.put, List.setIfInBounds_toArray, List.set_cons_zero, List.set_cons_succ]
    refine rtake 13 rfl (by rfl) (by kernel_rfl) (by kernel_rfl) (by kernel_rfl) (fun _ _ _ h => h) hHeld (fun wx hwx => by go_simp; try with_reducible rfl) ?_
    try simp only [Act.put, List.setIfInBounds_toArray, List.set_cons_zero, List.set_cons_succ]
    refine rtake 14 rfl (by rfl) (by kernel_rfl) (by kernel_rfl) (by kernel_rfl) (fun _ _ _ h => h) hHeld (fun wx hwx => by go_simp; try with_reducible rfl) ?_
    try simp only [Act.put, List.setIfInBounds_toArray, List.set_cons_zero, List.set_cons_succ]
    refine rtake 15 rfl (by rfl) (by kernel_rfl) (by kernel_rfl) (by kernel_rfl) (fun _ _ _ h => h) hHeld (fun wx hwx => by go_simp; try with_reducible rfl) ?_
    try simp only [Act.put, List.setIfInBounds_toArray, List.set_cons_zero, List.set_cons_succ]
    refine rtake 16 rfl (by rfl) (by kernel_rfl) (by kernel_rfl) (by kernel_rfl) (fun _ _ _ h => h) hHeld (fun wx hwx => by go_simp; try with_reducible rfl) ?_
    try simp only [Act.put, List.setIfInBounds_toArray, List.set_cons_zero, List.set_cons_succ]
    refine rtake 17 rfl (by rfl) (by kernel_rfl) (by kernel_rfl) (by kernel_rfl) (fun _ _ _ h => h) hHeld (fun wx hwx => by go_simp; try with_reducible rfl) ?_
    try simp only [Act.put, List.setIfInBounds_toArray, List.set_cons_zero, List.set_cons_succ]
    refine rtake 18 rfl (by rfl) (by kernel_rfl) (by kernel_rfl) (by kernel_rfl) (fun _ _ _ h => h) hHeld (fun wx hwx => by go_simp; try with_reducible rfl) ?_
    try simp only [Act.put, List.setIfInBounds_toArray, List.set_cons_zero, List.set_cons_succ]
    refine rtake 19 rfl (by rfl) (by kernel_rfl) (by kernel_rfl) (by kernel_rfl) (fun _ _ _ h => h) hHeld (fun wx hwx => by go_simp; try with_reducible rfl) ?_
    try simp only [Act.put, List.setIfInBounds_toArray, List.set_cons_zero, List.set_cons_succ]
    refine rtake 20 rfl (by rfl) (by kernel_rfl) (by kernel_rfl) (by kernel_rfl) (fun _ _ _ h => h) hHeld (fun wx hwx => by go_simp; try with_reducible rfl) ?_
    try simp only [Act.put, List.setIfInBounds_toArray, List.set_cons_zero, List.set_cons_succ]
    refine rtake 21 rfl (by rfl) (by kernel_rfl) (by kernel_rfl) (by kernel_rfl) (fun _ _ _ h => h) hHeld (fun wx hwx => by go_simp; try with_reducible rfl) ?_
    try simp only [Act.put, List.setIfInBounds_toArray, List.set_cons_zero, List.set_cons_succ]
    refine rtake 22 rfl (by rfl) (by kernel_rfl) (by kernel_rfl) (by kernel_rfl) (fun _ _ _ h => h) hHeld (fun wx hwx => by go_simp; try with_reducible rfl) ?_
    try simp only [Act.put, List.setIfInBounds_toArray, List.set_cons_zero, List.set_cons_succ]
    refine rtake 23 rfl (by rfl) (by kernel_rfl) (by kernel_rfl) (by kernel_rfl) (fun _ _ _ h => h) hHeld (fun wx hwx => by go_simp; try with_reducible rfl) ?_
    try simp only [Act.put, List.setIfInBounds_toArray, List.set_cons_zero, List.set_cons_succ]
    refine rtake 24 rfl (by rfl) (by kernel_rfl) (by kernel_rfl) (by kernel_rfl) (fun _ _ _ h => h) hHeld (fun wx hwx => by go_simp; try with_reducible rfl) ?_
    try simp only [Act.put, List.setIfInBounds_toArray, List.set_cons_zero, List.set_cons_succ]
    refine rtake 25 rfl (by rfl) (by kernel_rfl) (by kernel_rfl) (by kernel_rfl) (fun _ _ _ h => h) hHeld (fun wx hwx => by go_simp; try with_reducible rfl) ?_
    try simp only [Act.put, List.setIfInBounds_toArray, List.set_cons_zero, List.set_cons_succ]
    refine rtake 26 rfl (by rfl) (by kernel_rfl) (by kernel_rfl) (by kernel_rfl) (fun _ _ _ h => h) hHeld (fun wx hwx => by go_simp; try with_reducible rfl) ?_
    try simp only [Act.put, List.setIfInBounds_toArray, List.set_cons_zero, List.set_cons_succ]
    refine rtake 27 rfl (by rfl) (by kernel_rfl) (by kernel_rfl) (by kernel_rfl) (fun _ _ _ h => h) hHeld (fun wx hwx => by go_simp; try with_reducible rfl) ?_
    try simp only [Act.put, List.setIfInBounds_toArray, List.set_cons_zero, List.set_cons_succ]
    refine wpAnyH_done (by kernel_rfl) ?_ _
    replace hB := hB.below hbd
    replace hX := hX.below hbd
    replace ho := ho.next hbd
    clear hHeld hbd c0 c1 c4 c5 x0 x6 x9 x10
    have e1 : respB (xsOf ⟨me, dm, true, true, sq, ta⟩) m = false := by first | exact hno | simp [hno]
    have e2 : respD (xsOf ⟨me, dm, true, true, sq, ta⟩) m = 0 := resp_d e1
    have e3 : respS (xsOf ⟨me, dm, true, true, sq, ta⟩) m = xsOf ⟨me, dm, true, true, sq, ta⟩ := by unfold respS; rw [e1]; rfl
    replace e1 := hid e1
    replace e2 := hid e2
    replace e3 := hid e3
    clear hno
    go_wp2_with fail
    go_ret2
    exact ⟨by rw [e1.out, e2.out]; rfl, by rw [e3.out]; exact ⟨_, hB, _, rfl, rfl, by first | exact HQ.out | (intro h; first | rfl | cases h)⟩, ho⟩
  have e := resp_yes (x := xsOf ⟨me, dm, true, true, sq, ta⟩) (m := m) (s := sq) (t := ta) rfl hty (show m.2.tc = me.1 from ht0.symm) (show m.2.tp = me.2 from ht1.symm) hsq.symm
  obtain ⟨e1, e2, e3⟩ := e
  have dX : diffX m.2.st ta m.1.co = IntKind.i64.wrap (IntKind.i64.wrap (m.2.st - ta) - m.1.co / 65536) := by unfold diffX; rw [IntKind.wrap_i64, IntKind.wrap_i64]; unfold wrap64; rfl
  rw [dX] at e2
  clear dX
  replace e1 := hid e1
  replace e2 := hid e2
  replace e3 := hid e3
  go_upto_region 1 with fail
  change Code.wp Try.prog _ _ _ (w.alloc (Obj.cells (msK.enc m).toArray 34))
  generalize w.alloc (Obj.cells (msK.enc m).toArray 34) = W at *
  generalize w.heap.size = gx at *
  refine wp_region_held_drew (S := fun w' => Below W.drew.heap.size W.drew w') (by kernel_rfl) (Below.refl _ _) ?_
  intro hHeld
  have hbd := Below.drew (Below.refl W.heap.size W)
  generalize W.drew = WD at *
  have c0 : ∀ wx, Below WD.heap.size WD wx → wx.cell? ⟨g, 0, none⟩ = some (.int .u64 m.2.tc) := fun wx h => (hB.below (bnext hbd h)).cell 0 _ (by first | rfl | (rw [← ht0]; rfl))
  have c1 : ∀ wx, Below WD.heap.size WD wx → wx.cell? ⟨g, 1, none⟩ = some (.int .i64 m.2.tp) := fun wx h => (hB.below (bnext hbd h)).cell 1 _ (by first | rfl | (rw [← ht1]; rfl))
  have c4 : ∀ wx, Below WD.heap.size WD wx → wx.cell? ⟨g, 4, none⟩ = some (.bool true) := fun wx h => (hB.below (bnext hbd h)).cell 4 _ rfl
  have c5 : ∀ wx, Below WD.heap.size WD wx → wx.cell? ⟨g, 5, none⟩ = some (.int .i64 m.1.sq) := fun wx h => (hB.below (bnext hbd h)).cell 5 _ (by first | rfl | (rw [← hsq]; rfl))
  have x0 : ∀ wx, Below WD.heap.size WD wx → wx.cell? ⟨gx, 0, none⟩ = some (.int .i64 9) := fun wx h => (hX.below (bnext hbd h)).cell 0 _ (by first | rfl | (rw [← hty]; rfl))
  have x9 : ∀ wx, Below WD.heap.size WD wx → wx.cell? ⟨gx, 9, none⟩ = some (.int .u64 m.2.tc) := fun wx h => (hX.below (bnext hbd h)).cell 9 _ rfl
  have x10 : ∀ wx, Below WD.heap.size WD wx → wx.cell? ⟨gx, 10, none⟩ = some (.int .i64 m.2.tp) := fun wx h => (hX.below (bnext hbd h)).cell 10 _ rfl
  have x6 : ∀ wx, Below WD.heap.size WD wx → wx.cell? ⟨gx, 6, none⟩ = some (.int .i64 m.1.sq) := fun wx h => (hX.below (bnext hbd h)).cell 6 _ rfl
  refine rtake 0 rfl (by rfl) (by kernel_rfl) (by kernel_rfl) (by kernel_rfl) (fun _ _ _ h => h) hHeld (fun wx hwx => by go_simp; try with_reducible rfl) ?_
  try simp only [Act.put, List.setIfInBounds_toArray, List.set_cons_zero, List.set_cons_succ]
  refine rtake 1 rfl (by rfl) (by kernel_rfl) (by kernel_rfl) (by kernel_rfl) (fun _ _ _ h => h) hHeld (fun wx hwx => by go_simp; try with_reducible rfl) ?_
  try simp only [Act.put, List.setIfInBounds_toArray, List.set_cons_zero, List.set_cons_succ]
  refine rtake 2 rfl (by rfl) (by kernel_rfl) (by kernel_rfl) (by kernel_rfl) (fun _ _ _ h => h) hHeld (fun wx hwx => by go_simp; try with_reducible rfl) ?_
  try simp only [Act.put, List.setIfInBounds_toArray, List.set_cons_zero, List.set_cons_succ]
  refine rtake 3 rfl (by rfl) (by kernel_rfl) (by kernel_rfl) (by kernel_rfl) (fun _ _ _ h => h) hHeld (fun wx hwx => by go_simp; try with_reducible rfl) ?_
  try simp only [Act.put, List.setIfInBounds_toArray, List.set_cons_zero, List.set_cons_succ]
  refine rtake 4 rfl (by rfl) (by kernel_rfl) (by kernel_rfl) (by kernel_rfl) (fun _ _ _ h => h) hHeld (fun wx hwx => by go_simp; try with_reducible rfl) ?_
  try simp only [Act.put, List.setIfInBounds_toArray, List.set_cons_zero, List.set_cons_succ]
  refine rtake 5 rfl (by rfl) (by kernel_rfl) (by kernel_rfl) (by kernel_rfl) (fun _ _ _ h => h) hHeld (fun wx hwx => by go_simp; try with_reducible rfl) ?_
  try simp only [Act.put, List.setIfInBounds_toArray, List.set_cons_zero, List.set_cons_succ]
  refine rtake 6 rfl (by rfl) (by kernel_rfl) (by kernel_rfl) (by kernel_rfl) (fun _ _ _ h => h) hHeld (fun wx hwx => by go_simp; try with_reducible rfl) ?_
  try simp only [Act.put, List.setIfInBounds_toArray, List.set_cons_zero, List.set_cons_succ]
  refine rtake 7 rfl (by rfl) (by kernel_rfl) (by kernel_rfl) (by kernel_rfl) (fun _ _ _ h => h) hHeld (fun wx hwx => by go_simp; try with_reducible rfl) ?_
  try simp only [Act.put, List.setIfInBounds_toArray, List.set_cons_zero, List.set_cons_succ]
  refine rtake 8 rfl (by rfl) (by kernel_rfl) (by kernel_rfl) (by kernel_rfl) (fun _ _ _ h => h) hHeld (fun wx hwx => by go_simp; try with_reducible rfl) ?_
  try simp only [Act.put, List.setIfInBounds_toArray, List.set_cons_zero, List.set_cons_succ]
  refine rtake 9 rfl (by rfl) (by kernel_rfl) (by kernel_rfl) (by kernel_rfl) (fun _ _ _ h => h) hHeld (fun wx hwx => by go_simp; try with_reducible rfl) ?_
  try simp only [Act.put, List.setIfInBounds_toArray, List.set_cons_zero, List.set_cons_succ]
  refine rtake 10 rfl (by rfl) (by kernel_rfl) (by kernel_rfl) (by kernel_rfl) (fun _ _ _ h => h) hHeld (fun wx hwx => by go_simp; try with_reducible rfl) ?_
  try simp only [Act.put, List.setIfInBounds_toArray, List.set_cons_zero, List.set_cons_succ]
  refine rtake 11 rfl (by rfl) (by kernel_rfl) (by kernel_rfl) (by kernel_rfl) (fun _ _ _ h => h) hHeld (fun wx hwx => by go_simp; try with_reducible rfl) ?_
  try simp only [Act.put, List.setIfInBounds_toArray, List.set_cons_zero, List.set_cons_succ]
  refine rtake 12 rfl (by rfl) (by kernel_rfl) (by kernel_rfl) (by kernel_rfl) (fun _ _ _ h => h) hHeld (fun wx hwx => by go_simp; try with_reducible rfl) ?_
  try simp only [Act.put, List.setIfInBounds_toArray, List.set_cons_zero, List.set_cons_succ]
  refine rtake 13 rfl (by rfl) (by kernel_rfl) (by kernel_rfl) (by kernel_rfl) (fun _ _ _ h => h) hHeld (fun wx hwx => by go_simp; try with_reducible rfl) ?_
  try simp only [Act.put, List.setIfInBounds_toArray, List.set_cons_zero, List.set_cons_succ]
  refine rtake 14 rfl (by rfl) (by kernel_rfl) (by kernel_rfl) (by kernel_rfl) (fun _ _ _ h => h) hHeld (fun wx hwx => by go_simp; try with_reducible rfl) ?_
  try simp only [Act.put, List.setIfInBounds_toArray, List.set_cons_zero, List.set_cons_succ]
  refine rtake 15 rfl (by rfl) (by kernel_rfl) (by kernel_rfl) (by kernel_rfl) (fun _ _ _ h => h) hHeld (fun wx hwx => by go_simp; try with_reducible rfl) ?_
  try simp only [Act.put, List.setIfInBounds_toArray, List.set_cons_zero, List.set_cons_succ]
  refine rtake 16 rfl (by rfl) (by kernel_rfl) (by kernel_rfl) (by kernel_rfl) (fun _ _ _ h => h) hHeld (fun wx hwx => by go_simp; try with_reducible rfl) ?_
  try simp only [Act.put, List.setIfInBounds_toArray, List.set_cons_zero, List.set_cons_succ]
  refine rtake 17 rfl (by rfl) (by kernel_rfl) (by kernel_rfl) (by kernel_rfl) (fun _ _ _ h => h) hHeld (fun wx hwx => by go_simp; try with_reducible rfl) ?_
  try simp only [Act.put, List.setIfInBounds_toArray, List.set_cons_zero, List.set_cons_succ]
  refine rtake 18 rfl (by rfl) (by kernel_rfl) (by kernel_rfl) (by kernel_rfl) (fun _ _ _ h => h) hHeld (fun wx hwx => by go_simp; try with_reducible rfl) ?_
  try simp only [Act.put, List.setIfInBounds_toArray, List.set_cons_zero, List.set_cons_succ]
  refine rtake 19 rfl (by rfl) (by kernel_rfl) (by kernel_rfl) (by kernel_rfl) (fun _ _ _ h => h) hHeld (fun wx hwx => by go_simp; try with_reducible rfl) ?_
  try simp only [Act.put, List.setIfInBounds_toArray, List.set_cons_zero, List.set_cons_succ]
  refine rtake 20 rfl (by rfl) (by kernel_rfl) (by kernel_rfl) (by kernel_rfl) (fun _ _ _ h => h) hHeld (fun wx hwx => by go_simp; try with_reducible rfl) ?_
  try simp only [Act.put, List.setIfInBounds_toArray, List.set_cons_zero, List.set_cons_succ]
  refine rtake 21 rfl (by rfl) (by kernel_rfl) (by kernel_rfl) (by kernel_rfl) (fun _ _ _ h => h) hHeld (fun wx hwx => by go_simp; try with_reducible rfl) ?_
  try simp only [Act.put, List.setIfInBounds_toArray, List.set_cons_zero, List.set_cons_succ]
  refine rtake 22 rfl (by rfl) (by kernel_rfl) (by kernel_rfl) (by kernel_rfl) (fun _ _ _ h => h) hHeld (fun wx hwx => by go_simp; try with_reducible rfl) ?_
  try simp only [Act.put, List.setIfInBounds_toArray, List.set_cons_zero, List.set_cons_succ]
  refine rtake 23 rfl (by rfl) (by kernel_rfl) (by kernel_rfl) (by kernel_rfl) (fun _ _ _ h => h) hHeld (fun wx hwx => by go_simp; try with_reducible rfl) ?_
  try simp only [Act.put, List.setIfInBounds_toArray, List.set_cons_zero, List.set_cons_succ]
  refine rtake 24 rfl (by rfl) (by kernel_rfl) (by kernel_rfl) (by kernel_rfl) (fun _ _ _ h => h) hHeld (fun wx hwx => by go_simp; try with_reducible rfl) ?_
  try simp only [Act.put, List.setIfInBounds_toArray, List.set_cons_zero, List.set_cons_succ]
  refine rtake 25 rfl (by rfl) (by kernel_rfl) (by kernel_rfl) (by kernel_rfl) (fun _ _ _ h => h) hHeld (fun wx hwx => by go_simp; try with_reducible rfl) ?_
  try simp only [Act.put, List.setIfInBounds_toArray, List.set_cons_zero, List.set_cons_succ]
  refine rtake 26 rfl (by rfl) (by kernel_rfl) (by kernel_rfl) (by kernel_rfl) (fun _ _ _ h => h) hHeld (fun wx hwx => by go_simp; try with_reducible rfl) ?_
  try simp only [Act.put, List.setIfInBounds_toArray, List.set_cons_zero, List.set_cons_succ]
  refine rtake 27 rfl (by rfl) (by kernel_rfl) (by kernel_rfl) (by kernel_rfl) (fun _ _ _ h => h) hHeld (fun wx hwx => by go_simp; try with_reducible rfl) ?_
  try simp only [Act.put, List.setIfInBounds_toArray, List.set_cons_zero, List.set_cons_succ]
  refine wpAnyH_done (by kernel_rfl) ?_ _
  replace hB := hB.below hbd
  replace hX := hX.below hbd
  replace ho := ho.next hbd
  clear hHeld hbd c0 c1 c4 c5 x0 x6 x9 x10
  go_upto_region 3 with fail
  refine wp_region_held_drew (S := fun w' => Below WD.drew.heap.size WD.drew w') (by kernel_rfl) (Below.refl _ _) ?_
  intro hHeld
  have hbd := Below.drew (Below.refl WD.heap.size WD)
  generalize WD.drew = WE at *
  have x8 : ∀ wx, Below WE.heap.size WE wx → wx.cell? ⟨gx, 8, none⟩ = some (.int .i64 m.2.st) := fun wx h => (hX.below (bnext hbd h)).cell 8 _ rfl
  have x3 : ∀ wx, Below WE.heap.size WE wx → wx.cell? ⟨gx, 3, none⟩ = some (.int .i64 m.1.co) := fun wx h => (hX.below (bnext hbd h)).cell 3 _ rfl
  have c6 : ∀ wx, Below WE.heap.size WE wx → wx.cell? ⟨g, 6, none⟩ = some (.int .i64 ta) := fun wx h => (hB.below (bnext hbd h)).cell 6 _ rfl
  refine rtake 0 rfl (by rfl) (by kernel_rfl) (by kernel_rfl) (by kernel_rfl) (fun _ _ _ h => h) hHeld (fun wx hwx => by go_simp; try with_reducible rfl) ?_
  try simp only [Act.put, List.setIfInBounds_toArray, List.set_cons_zero, List.set_cons_succ]
  refine rtake 1 rfl (by rfl) (by kernel_rfl) (by kernel_rfl) (by kernel_rfl) (fun _ _ _ h => h) hHeld (fun wx hwx => by go_simp; try with_reducible rfl) ?_
  try simp only [Act.put, List.setIfInBounds_toArray, List.set_cons_zero, List.set_cons_succ]
  refine rtake 2 rfl (by rfl) (by kernel_rfl) (by kernel_rfl) (by kernel_rfl) (fun _ _ _ h => h) hHeld (fun wx hwx => by go_simp; try with_reducible rfl) ?_
  try simp only [Act.put, List.setIfInBounds_toArray, List.set_cons_zero, List.set_cons_succ]
  refine rtake 3 rfl (by rfl) (by kernel_rfl) (by kernel_rfl) (by kernel_rfl) (fun _ _ _ h => h) hHeld (fun wx hwx => by go_simp; try with_reducible rfl) ?_
  try simp only [Act.put, List.setIfInBounds_toArray, List.set_cons_zero, List.set_cons_succ]
  refine rtake 4 rfl (by rfl) (by kernel_rfl) (by kernel_rfl) (by kernel_rfl) (fun _ _ _ h => h) hHeld (fun wx hwx => by go_simp; try with_reducible rfl) ?_
  try simp only [Act.put, List.setIfInBounds_toArray, List.set_cons_zero, List.set_cons_succ]
  refine rtake 5 rfl (by rfl) (by kernel_rfl) (by kernel_rfl) (by kernel_rfl) (fun _ _ _ h => h) hHeld (fun wx hwx => by go_simp; try with_reducible rfl) ?_
  try simp only [Act.put, List.setIfInBounds_toArray, List.set_cons_zero, List.set_cons_succ]
  refine rtake 6 rfl (by rfl) (by kernel_rfl) (by kernel_rfl) (by kernel_rfl) (fun _ _ _ h => h) hHeld (fun wx hwx => by go_simp; try with_reducible rfl) ?_
  try simp only [Act.put, List.setIfInBounds_toArray, List.set_cons_zero, List.set_cons_succ]
  refine rtake 7 rfl (by rfl) (by kernel_rfl) (by kernel_rfl) (by kernel_rfl) (fun _ _ _ h => h) hHeld (fun wx hwx => by go_simp; try with_reducible rfl) ?_
  try simp only [Act.put, List.setIfInBounds_toArray, List.set_cons_zero, List.set_cons_succ]
  refine rtake 8 rfl (by rfl) (by kernel_rfl) (by kernel_rfl) (by kernel_rfl) (fun _ _ _ h => h) hHeld (fun wx hwx => by go_simp; try with_reducible rfl) ?_
  try simp only [Act.put, List.setIfInBounds_toArray, List.set_cons_zero, List.set_cons_succ]
  refine rcall 9 rfl (by kernel_rfl) (by rfl) (fun K' hK => ?_)
  go_simp
  refine (refFloor_any _ _ hm.2.2.1 hm.2.2.2).mono ?_
  rintro e wy ⟨rfl, rfl⟩
  refine hK.out _ _ hHeld ?_
  clear hK K'
  try simp only [Act.put, List.setIfInBounds_toArray, List.set_cons_zero, List.set_cons_succ]
  refine rtake 10 rfl (by rfl) (by kernel_rfl) (by kernel_rfl) (by kernel_rfl) (fun _ _ _ h => h) hHeld (fun wx hwx => by go_simp; try with_reducible rfl) ?_
  try simp only [Act.put, List.setIfInBounds_toArray, List.set_cons_zero, List.set_cons_succ]
  refine rtake 11 rfl (by rfl) (by kernel_rfl) (by kernel_rfl) (by kernel_rfl) (fun _ _ _ h => h) hHeld (fun wx hwx => by go_simp; try with_reducible rfl) ?_
  try simp only [Act.put, List.setIfInBounds_toArray, List.set_cons_zero, List.set_cons_succ]
  refine wpAnyH_done (by kernel_rfl) ?_ _
  replace hB := hB.below hbd
  replace ho := ho.next hbd
  clear hHeld hbd x8 x3 c6
  go_wp2_with fail
  refine (refClrX_any g _ WE ⟨_, hB, ⟨me, dm, true, true, sq, ta⟩, rfl, rfl, fun _ => rfl⟩).mono ?_
  rintro e w2 ⟨rfl, hA2, oq⟩
  go_wp2_with fail
  go_ret2
  exact ⟨by rw [e1.out, e2.out]; rfl, by rw [e3.out]; exact hA2, ho.trans oq⟩

set_option maxRecDepth 100000 in
set_option maxHeartbeats 8000000 in
theorem refAns_any (m : Hd × Bd) (me : Int × Int) (at' log : Int) (w : World) :
    Calls Try.prog 10 #[.agg (msK.enc m).toArray, .agg (prK.enc me).toArray, .int .i64 at', .int .i64 log] w fun e w' => e = .returned (.tuple #[.agg (msK.enc (answM m me at' log)).toArray, .bool (answB m at')]) ∧ Below w.heap.size w w' := by
  have z0 := bnew w (Obj.cells (msK.enc m).toArray 34)
  have hX := Box.new w (msK.enc m) 34
  have z1 := bnew (w.alloc (Obj.cells (msK.enc m).toArray 34)) (Obj.cells (prK.enc me).toArray 24)
  have hP := Box.new (w.alloc (Obj.cells (msK.enc m).toArray 34)) (prK.enc me) 24
  replace hX := hX.below z1
  have z2 := bnew ((w.alloc (Obj.cells (msK.enc m).toArray 34)).alloc (Obj.cells (prK.enc me).toArray 24)) (Obj.cells (msK.enc zeroM).toArray 34)
  have hN := Box.new ((w.alloc (Obj.cells (msK.enc m).toArray 34)).alloc (Obj.cells (prK.enc me).toArray 24)) (msK.enc zeroM) 34
  replace hX := hX.below z2
  replace hP := hP.below z2
  have hb := z0
  replace hb := bnext hb z1
  replace hb := bnext hb z2
  clear z0
  clear z1
  clear z2
  have s1 : (w.alloc (Obj.cells (msK.enc m).toArray 34)).heap.size = w.heap.size + 1 := by simp
  rw [s1] at hP
  have s2 : ((w.alloc (Obj.cells (msK.enc m).toArray 34)).alloc (Obj.cells (prK.enc me).toArray 24)).heap.size = w.heap.size + 1 + 1 := by simp
  rw [s2] at hN
  go_enter Try.func10, Try.ntmps10
  go_upto_region 1 with fail
  change Code.wp Try.prog _ _ _ (((w.alloc (Obj.cells (msK.enc m).toArray 34)).alloc (Obj.cells (prK.enc me).toArray 24)).alloc (Obj.cells (msK.enc zeroM).toArray 34))
  generalize (((w.alloc (Obj.cells (msK.enc m).toArray 34)).alloc (Obj.cells (prK.enc me).toArray 24)).alloc (Obj.cells (msK.enc zeroM).toArray 34)) = W at *
  clear s1
  clear s2
  generalize hG : w.heap.size = G at *
  rw [← hG] at hb
  have l_hX : w.heap.size ≤ G := by omega
  have l_hP : w.heap.size ≤ G + 1 := by omega
  have n_hX_hP : G ≠ G + 1 := by omega
  have l_hN : w.heap.size ≤ G + 1 + 1 := by omega
  have n_hX_hN : G ≠ G + 1 + 1 := by omega
  have n_hP_hN : G + 1 ≠ G + 1 + 1 := by omega
  have x0 : W.cell? ⟨G, 0, none⟩ = some (.int .i64 m.1.ty) := hX.cell 0 _ rfl
  have x1 : W.cell? ⟨G, 1, none⟩ = some (.int .i64 m.1.dm) := hX.cell 1 _ rfl
  have x3 : W.cell? ⟨G, 3, none⟩ = some (.int .i64 m.1.co) := hX.cell 3 _ rfl
  have x4 : W.cell? ⟨G, 4, none⟩ = some (.int .u64 m.1.sc) := hX.cell 4 _ rfl
  have x5 : W.cell? ⟨G, 5, none⟩ = some (.int .i64 m.1.sp) := hX.cell 5 _ rfl
  have x6 : W.cell? ⟨G, 6, none⟩ = some (.int .i64 m.1.sq) := hX.cell 6 _ rfl
  have p0 : W.cell? ⟨G + 1, 0, none⟩ = some (.int .u64 me.1) := hP.cell 0 _ rfl
  have p1 : W.cell? ⟨G + 1, 1, none⟩ = some (.int .i64 me.2) := hP.cell 1 _ rfl
  clear n_hX_hP n_hX_hN n_hP_hN l_hX l_hP hX hP
  by_cases hty : m.1.ty = 1
  case neg =>
    have n0 : (m.1.ty == 1) = false := beq_false_of_ne hty
    have e1 : answB m at' = false := by simp [answB, hty]
    have e2 : answM m me at' log = zeroM := by unfold answM; rw [e1]; rfl
    go_wp2_with (first | (guard_target =~ wpList _ _ _ (⟨some 18, _, _, _, _, _⟩ :: _) _ _; refine wpList_build_any (op := ⟨some 18, .build _ _, _, _, _, _⟩) (by rfl) _ _ (by rfl) _ (by rfl) (msK.enc zeroM).toArray (by kernel_rfl) ?_) | (guard_target =~ wpList _ _ _ (⟨none, _, _, _, _, _⟩ :: _) _ _; refine msT.store (op := ⟨none, .store _ _ _, _, _, _, _⟩) (by rfl) _ _ (by rfl) (G + 1 + 1) (zeroM) (zeroM) _ (by rfl) (by rfl) hN ?_))
    exact bodyPost_ret (v := .tuple #[.agg (msK.enc (zeroM)).toArray, .bool false]) (msT.result2 rfl _ _ (G + 1 + 1) _ _ _ rfl rfl (hN.rowK _)) rfl ⟨by rw [e1, e2], below_setRow hb (by omega) _⟩
  rw [hty] at x0
  cases hmay : mayB at'
  case false =>
    have e1 : answB m at' = false := by simp [answB, hmay]
    have e2 : answM m me at' log = zeroM := by unfold answM; rw [e1]; rfl
    go_wp2_with fail
    refine (refMay_any _ _).mono ?_
    rintro e w1 ⟨rfl, rfl⟩
    rw [hmay]
    go_wp2_with (first | (guard_target =~ wpList _ _ _ (⟨some 18, _, _, _, _, _⟩ :: _) _ _; refine wpList_build_any (op := ⟨some 18, .build _ _, _, _, _, _⟩) (by rfl) _ _ (by rfl) _ (by rfl) (msK.enc zeroM).toArray (by kernel_rfl) ?_) | (guard_target =~ wpList _ _ _ (⟨none, _, _, _, _, _⟩ :: _) _ _; refine msT.store (op := ⟨none, .store _ _ _, _, _, _, _⟩) (by rfl) _ _ (by rfl) (G + 1 + 1) (zeroM) (zeroM) _ (by rfl) (by rfl) hN ?_))
    exact bodyPost_ret (v := .tuple #[.agg (msK.enc (zeroM)).toArray, .bool false]) (msT.result2 rfl _ _ (G + 1 + 1) _ _ _ rfl rfl (hN.rowK _)) rfl ⟨by rw [e1, e2], below_setRow hb (by omega) _⟩
  have e1 : answB m at' = true := by simp [answB, hmay, hty]
  obtain ⟨m1, hm1⟩ : ∃ m1 : Hd × Bd, m1 = (⟨9, m.1.dm, 0, m.1.co, me.1, me.2, m.1.sq, log⟩, { bd0 with st := at', tc := m.1.sc, tp := m.1.sp }) := ⟨_, rfl⟩
  have e2 : answM m me at' log = m1 := by unfold answM; rw [e1, hm1]; rfl
  replace hm1 := hid hm1
  go_wp2_with fail
  refine (refMay_any _ _).mono ?_
  rintro e w1 ⟨rfl, rfl⟩
  rw [hmay]
  go_wp2_with (first | (guard_target =~ wpList _ _ _ (⟨some 30, _, _, _, _, _⟩ :: _) _ _; refine wpList_build_any (op := ⟨some 30, .build _ _, _, _, _, _⟩) (by rfl) _ _ (by rfl) _ (by rfl) (msK.enc m1).toArray (by rw [hm1.out]; kernel_rfl) ?_) | (guard_target =~ wpList _ _ _ (⟨none, _, _, _, _, _⟩ :: _) _ _; refine msT.store (op := ⟨none, .store _ _ _, _, _, _, _⟩) (by rfl) _ _ (by rfl) (G + 1 + 1) (m1) (zeroM) _ (by rfl) (by rfl) hN ?_))
  exact bodyPost_ret (v := .tuple #[.agg (msK.enc (m1)).toArray, .bool true]) (msT.result2 rfl _ _ (G + 1 + 1) _ _ _ rfl rfl (hN.rowK _)) rfl ⟨by rw [e1, e2], below_setRow hb (by omega) _⟩

end Go.Proofs.Ytnlmncpiccehjaa
