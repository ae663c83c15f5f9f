/- The document's own answers of chapter 16 (gen_seqref.py). -/
import Derived.Test.YtmcjbidfogoonaaSeq
import Derived.Test.YtmcjbidfogoonaaStampRef
import Derived.Test.YtmcjbidfogoonaaBuild
namespace Go.Proofs.Ytmcjbidfogoonaa
open Go.RowKit Go.Proofs
set_option maxRecDepth 50000
set_option linter.unusedVariables false
set_option linter.unusedSimpArgs false

/-- The document's match: two messages, a time, and whether they are held. -/
structure Mm where
  s : Hd × Bd
  f : Hd × Bd
  ta : Int
  hs : Bool
  hf : Bool
def mmL (q : Mm) : List Value := msK.enc q.s ++ msK.enc q.f ++ [.int .i64 q.ta, .bool q.hs, .bool q.hf]
def mmK : RowK Mm := ⟨mmL, 49, by decide, fun _ => rfl, by
  intro q v hv
  unfold mmL at hv
  rcases List.mem_append.1 hv with hv | hv
  · rcases List.mem_append.1 hv with hv | hv
    · exact msK.one _ v hv
    · exact msK.one _ v hv
  · simp only [List.mem_cons, List.not_mem_nil, or_false] at hv
    rcases hv with rfl | rfl | rfl <;> rfl⟩
def zeroMm : Mm := ⟨zeroM, zeroM, 0, false, false⟩
theorem mmT : StrT mmK 36 := ⟨⟨_, Try.underlying36, rfl⟩, by kernel_rfl⟩
def msOf (q : Mm) : Ms := ⟨if q.hs then some (q.s, q.ta) else none, if q.hf then some q.f else none⟩
/-- What its cells say. -/
def RM (xs : List Value) (m : Ms) : Prop := ∃ q : Mm, xs = mmK.enc q ∧ m = msOf q ∧ HdOk q.s.1 ∧ HdOk q.f.1
theorem zero_hd : HdOk hd0 := ⟨by decide, by decide, by decide, by decide⟩

set_option maxHeartbeats 800000 in
theorem refMod_any (v : Int) (w : World) : Calls Try.prog 21 #[.int .i64 v] w fun e w' => e = .returned (.int .i64 (v % 65536)) ∧ w = w' := by
  have hm : bits .and .i64 v 65535 = v % 65536 := and_mask v 16 (by decide)
  go_enter Try.func21, Try.ntmps21
  go_wp2
  go_ret
  exact ⟨rfl, rfl⟩
set_option maxHeartbeats 800000 in
theorem refNext_any (v : Int) (w : World) : Calls Try.prog 10 #[.int .i64 v] w fun e w' => e = .returned (.int .i64 (nextI v)) ∧ w = w' := by
  have h1 : wrap64 (v % 65536 + 1) = v % 65536 + 1 := by unfold wrap64; omega
  have h2 : nextI v = (v % 65536 + 1) % 65536 := by unfold nextI; omega
  go_enter Try.func10, Try.ntmps10
  go_wp2_with fail
  refine (refMod_any _ _).mono ?_
  rintro e w1 ⟨rfl, rfl⟩
  go_wp2_with fail
  refine (refMod_any _ _).mono ?_
  rintro e w1 ⟨rfl, rfl⟩
  go_wp2_with fail
  go_ret
  exact ⟨ret_int rfl, rfl⟩
set_option maxHeartbeats 1600000 in
theorem refNewer_any (a b : Int) (w : World) : Calls Try.prog 12 #[.int .i64 a, .int .i64 b] w fun e w' => e = .returned (.bool (newerB a b)) ∧ w = w' := by
  have h1 : wrap64 (a % 65536 - b % 65536) = a % 65536 - b % 65536 := by unfold wrap64; omega
  have h2 : newerB a b = decide (1 ≤ (a % 65536 - b % 65536) % 65536 ∧ (a % 65536 - b % 65536) % 65536 ≤ 32767) := by unfold newerB; rw [decide_eq_decide]; omega
  go_enter Try.func12, Try.ntmps12
  go_wp2_with fail
  refine (refMod_any _ _).mono ?_
  rintro e w1 ⟨rfl, rfl⟩
  go_wp2_with fail
  refine (refMod_any _ _).mono ?_
  rintro e w1 ⟨rfl, rfl⟩
  go_wp2_with fail
  refine (refMod_any _ _).mono ?_
  rintro e w1 ⟨rfl, rfl⟩
  generalize (a % 65536 - b % 65536) % 65536 = d at *
  by_cases h3 : 1 ≤ d
  · go_wp2_with fail
    go_ret
    exact ⟨ret_bool (by rw [h2]; simp [h3]), rfl⟩
  · go_wp2_with fail
    go_ret
    exact ⟨ret_bool (by rw [decide_eq_false (by omega : ¬ 1 ≤ d)]; rfl), rfl⟩
set_option maxHeartbeats 800000 in
theorem refDiff_any (a s c : Int) (w : World) (h0 : -9223372036854775808 ≤ c) (h1 : c ≤ 9223372036854775807) : Calls Try.prog 26 #[.int .i64 a, .int .i64 s, .int .i64 c] w fun e w' => e = .returned (.int .i64 (diffS a s c)) ∧ w = w' := by
  go_enter Try.func26, Try.ntmps26
  go_wp2_with fail
  refine (refFloor_any _ _ h0 h1).mono ?_
  rintro e w1 ⟨rfl, rfl⟩
  go_wp2_with fail
  go_ret
  exact ⟨rfl, rfl⟩
theorem addI_in (a b : Int) : -9223372036854775808 ≤ addI a b ∧ addI a b ≤ 9223372036854775807 := by unfold addI; omega

set_option maxRecDepth 100000 in
set_option maxHeartbeats 8000000 in
theorem refSync_any (g : Nat) (m : Ms) (x : Hd × Bd) (at' : Int) (w : World) (hA : ObAt 36 RM w g m) (hx : HdOk x.1) :
    Calls Try.prog 17 #[.pointer (some ⟨g, 0, none⟩), .agg (msK.enc x).toArray, .int .i64 at'] w fun e w' => e = .returned (.tuple #[.int .i64 (syncD m x at'), .bool (syncB m x)]) ∧ ObAt 36 RM w' g (syncS m x at') ∧ Only g w w' := by
  obtain ⟨xs, hB, q, rfl, rfl, hqs, hqf⟩ := hA
  have hgl := hB.lt
  have hb := bnew w (Obj.cells (msK.enc x).toArray 34)
  have hX := Box.new w (msK.enc x) 34
  replace hB := hB.below hb
  have ho := Only.of_below g hb
  have hne : g ≠ w.heap.size := by omega
  go_enter Try.func17, Try.ntmps17
  go_upto_region 1 with fail
  change Code.wp Try.prog _ _ _ (w.alloc (Obj.cells (msK.enc x).toArray 34))
  generalize w.alloc (Obj.cells (msK.enc x).toArray 34) = W at *
  generalize w.heap.size = gx at *
  have x0 : W.cell? ⟨gx, 0, none⟩ = some (.int .i64 x.1.ty) := hX.cell 0 _ rfl
  by_cases hty : x.1.ty = 0
  case neg =>
    have hn : (x.1.ty == 0) = false := beq_false_of_ne hty
    have e1 : syncS (msOf q) x at' = msOf q := by simp [syncS, hty]
    have e2 : syncD (msOf q) x at' = 0 := by simp [syncD, hty]
    have e3 : syncB (msOf q) x = false := by simp [syncB, hty]
    go_wp2_with fail
    go_ret2
    exact ⟨by first | (rw [e2, e3]; rfl) | rfl, ⟨_, hB, q, rfl, e1, hqs, hqf⟩, ho⟩
  rw [hty] at x0
  have x2 : W.cell? ⟨gx, 2, none⟩ = some (.int .i64 x.1.fl) := hX.cell 2 _ rfl
  by_cases h2 : twoB x.1.fl = false
  · have h2b : bits .and .i64 x.1.fl 512 = 0 := by simpa [twoB] using h2
    obtain ⟨e1, e2, e3⟩ := sync_one (m := msOf q) (at' := at') hty h2
    have x8 : W.cell? ⟨gx, 8, none⟩ = some (.int .i64 x.2.st) := hX.cell 8 _ rfl
    have x3 : W.cell? ⟨gx, 3, none⟩ = some (.int .i64 x.1.co) := hX.cell 3 _ rfl
    go_wp2_with fail
    refine (refDiff_any _ _ _ _ hx.2.2.1 hx.2.2.2).mono ?_
    rintro e w1 ⟨rfl, rfl⟩
    go_wp2_with fail
    go_ret2
    exact ⟨by first | (rw [e2, e3]; rfl) | rfl, ⟨_, hB, q, rfl, e1, hqs, hqf⟩, ho⟩
  have h2t : twoB x.1.fl = true := by cases h : twoB x.1.fl; exact absurd h h2; rfl
  have h2b : (bits .and .i64 x.1.fl 512 == 0) = false := by simpa [twoB] using h2t
  cases hfl : q.hf
  · skip
    go_upto_region 5 with fail
    clear x0 x2
    refine wp_region_held_drew (S := fun w' => Below W.drew.heap.size W.drew w') (by kernel_rfl) (Below.refl _ _) ?_
    intro hHeld
    have hbd := Below.drew (Below.refl W.heap.size W)
    generalize W.drew = WD at *
    have cF : ∀ wx, Below WD.heap.size WD wx → wx.cell? ⟨g, 48, none⟩ = some (.bool false) := fun wx h => (hB.below (bnext hbd h)).cell 48 _ (by first | rfl | (rw [← hfl]; rfl))
    have cS : ∀ wx, Below WD.heap.size WD wx → wx.cell? ⟨g, 29, none⟩ = some (.int .i64 q.f.1.sq) := fun wx h => (hB.below (bnext hbd h)).cell 29 _ rfl
    have cC : ∀ wx, Below WD.heap.size WD wx → wx.cell? ⟨g, 27, none⟩ = some (.int .u64 q.f.1.sc) := fun wx h => (hB.below (bnext hbd h)).cell 27 _ rfl
    have cP : ∀ wx, Below WD.heap.size WD wx → wx.cell? ⟨g, 28, none⟩ = some (.int .i64 q.f.1.sp) := fun wx h => (hB.below (bnext hbd h)).cell 28 _ rfl
    have x6 : ∀ wx, Below WD.heap.size WD wx → wx.cell? ⟨gx, 6, none⟩ = some (.int .i64 x.1.sq) := fun wx h => (hX.below (bnext hbd h)).cell 6 _ rfl
    have x4 : ∀ wx, Below WD.heap.size WD wx → wx.cell? ⟨gx, 4, none⟩ = some (.int .u64 x.1.sc) := fun wx h => (hX.below (bnext hbd h)).cell 4 _ rfl
    have x5 : ∀ wx, Below WD.heap.size WD wx → wx.cell? ⟨gx, 5, none⟩ = some (.int .i64 x.1.sp) := fun wx h => (hX.below (bnext hbd h)).cell 5 _ rfl
    refine rtake 0 rfl (by rfl) (by kernel_rfl) (by kernel_rfl) (by kernel_rfl) (fun _ _ _ h => h) hHeld (fun wx hwx => by go_simp; try with_reducible rfl) ?_
    try simp only [Act.put, List.setIfInBounds_toArray, List.set_cons_zero, List.set_cons_succ]
    refine rtake 1 rfl (by rfl) (by kernel_rfl) (by kernel_rfl) (by kernel_rfl) (fun _ _ _ h => h) hHeld (fun wx hwx => by go_simp; try with_reducible rfl) ?_
    try simp only [Act.put, List.setIfInBounds_toArray, List.set_cons_zero, List.set_cons_succ]
    refine rtake 2 rfl (by rfl) (by kernel_rfl) (by kernel_rfl) (by kernel_rfl) (fun _ _ _ h => h) hHeld (fun wx hwx => by go_simp; try with_reducible rfl) ?_
    try simp only [Act.put, List.setIfInBounds_toArray, List.set_cons_zero, List.set_cons_succ]
    refine rtake 3 rfl (by rfl) (by kernel_rfl) (by kernel_rfl) (by kernel_rfl) (fun _ _ _ h => h) hHeld (fun wx hwx => by go_simp; try with_reducible rfl) ?_
    try simp only [Act.put, List.setIfInBounds_toArray, List.set_cons_zero, List.set_cons_succ]
    refine rtake 4 rfl (by rfl) (by kernel_rfl) (by kernel_rfl) (by kernel_rfl) (fun _ _ _ h => h) hHeld (fun wx hwx => by go_simp; try with_reducible rfl) ?_
    try simp only [Act.put, List.setIfInBounds_toArray, List.set_cons_zero, List.set_cons_succ]
    refine rpass 5 rfl (by rfl) (by kernel_rfl) (by kernel_rfl) (by kernel_rfl) (fun _ _ _ h => h) hHeld ?_
    try simp only [Act.put, List.setIfInBounds_toArray, List.set_cons_zero, List.set_cons_succ]
    refine rpass 6 rfl (by rfl) (by kernel_rfl) (by kernel_rfl) (by kernel_rfl) (fun _ _ _ h => h) hHeld ?_
    try simp only [Act.put, List.setIfInBounds_toArray, List.set_cons_zero, List.set_cons_succ]
    refine rpass 7 rfl (by rfl) (by kernel_rfl) (by kernel_rfl) (by kernel_rfl) (fun _ _ _ h => h) hHeld ?_
    try simp only [Act.put, List.setIfInBounds_toArray, List.set_cons_zero, List.set_cons_succ]
    refine rpass 8 rfl (by rfl) (by kernel_rfl) (by kernel_rfl) (by kernel_rfl) (fun _ _ _ h => h) hHeld ?_
    try simp only [Act.put, List.setIfInBounds_toArray, List.set_cons_zero, List.set_cons_succ]
    refine rpass 9 rfl (by rfl) (by kernel_rfl) (by kernel_rfl) (by kernel_rfl) (fun _ _ _ h => h) hHeld ?_
    try simp only [Act.put, List.setIfInBounds_toArray, List.set_cons_zero, List.set_cons_succ]
    refine rpass 10 rfl (by rfl) (by kernel_rfl) (by kernel_rfl) (by kernel_rfl) (fun _ _ _ h => h) hHeld ?_
    try simp only [Act.put, List.setIfInBounds_toArray, List.set_cons_zero, List.set_cons_succ]
    refine rpass 11 rfl (by rfl) (by kernel_rfl) (by kernel_rfl) (by kernel_rfl) (fun _ _ _ h => h) hHeld ?_
    try simp only [Act.put, List.setIfInBounds_toArray, List.set_cons_zero, List.set_cons_succ]
    refine rpass 12 rfl (by rfl) (by kernel_rfl) (by kernel_rfl) (by kernel_rfl) (fun _ _ _ h => h) hHeld ?_
    try simp only [Act.put, List.setIfInBounds_toArray, List.set_cons_zero, List.set_cons_succ]
    refine rtake 13 rfl (by rfl) (by kernel_rfl) (by kernel_rfl) (by kernel_rfl) (fun _ _ _ h => h) hHeld (fun wx hwx => by go_simp; try with_reducible rfl) ?_
    try simp only [Act.put, List.setIfInBounds_toArray, List.set_cons_zero, List.set_cons_succ]
    refine rtake 14 rfl (by rfl) (by kernel_rfl) (by kernel_rfl) (by kernel_rfl) (fun _ _ _ h => h) hHeld (fun wx hwx => by go_simp; try with_reducible rfl) ?_
    try simp only [Act.put, List.setIfInBounds_toArray, List.set_cons_zero, List.set_cons_succ]
    refine rpass 15 rfl (by rfl) (by kernel_rfl) (by kernel_rfl) (by kernel_rfl) (fun _ _ _ h => h) hHeld ?_
    try simp only [Act.put, List.setIfInBounds_toArray, List.set_cons_zero, List.set_cons_succ]
    refine rpass 16 rfl (by rfl) (by kernel_rfl) (by kernel_rfl) (by kernel_rfl) (fun _ _ _ h => h) hHeld ?_
    try simp only [Act.put, List.setIfInBounds_toArray, List.set_cons_zero, List.set_cons_succ]
    refine rpass 17 rfl (by rfl) (by kernel_rfl) (by kernel_rfl) (by kernel_rfl) (fun _ _ _ h => h) hHeld ?_
    try simp only [Act.put, List.setIfInBounds_toArray, List.set_cons_zero, List.set_cons_succ]
    refine rpass 18 rfl (by rfl) (by kernel_rfl) (by kernel_rfl) (by kernel_rfl) (fun _ _ _ h => h) hHeld ?_
    try simp only [Act.put, List.setIfInBounds_toArray, List.set_cons_zero, List.set_cons_succ]
    refine rpass 19 rfl (by rfl) (by kernel_rfl) (by kernel_rfl) (by kernel_rfl) (fun _ _ _ h => h) hHeld ?_
    try simp only [Act.put, List.setIfInBounds_toArray, List.set_cons_zero, List.set_cons_succ]
    refine rpass 20 rfl (by rfl) (by kernel_rfl) (by kernel_rfl) (by kernel_rfl) (fun _ _ _ h => h) hHeld ?_
    try simp only [Act.put, List.setIfInBounds_toArray, List.set_cons_zero, List.set_cons_succ]
    refine rpass 21 rfl (by rfl) (by kernel_rfl) (by kernel_rfl) (by kernel_rfl) (fun _ _ _ h => h) hHeld ?_
    try simp only [Act.put, List.setIfInBounds_toArray, List.set_cons_zero, List.set_cons_succ]
    refine rpass 22 rfl (by rfl) (by kernel_rfl) (by kernel_rfl) (by kernel_rfl) (fun _ _ _ h => h) hHeld ?_
    try simp only [Act.put, List.setIfInBounds_toArray, List.set_cons_zero, List.set_cons_succ]
    refine rtake 23 rfl (by rfl) (by kernel_rfl) (by kernel_rfl) (by kernel_rfl) (fun _ _ _ h => h) hHeld (fun wx hwx => by go_simp; try with_reducible rfl) ?_
    try simp only [Act.put, List.setIfInBounds_toArray, List.set_cons_zero, List.set_cons_succ]
    obtain ⟨e1, e2, e3⟩ := (sync_none (at' := at') hty h2t (m := msOf q) (by simp [msOf, hfl]))
    refine wpAnyH_done (by kernel_rfl) ?_ _
    replace hB := hB.below hbd
    replace hX := hX.below hbd
    replace ho := ho.next hbd
    clear hHeld hbd cF cS cC cP x6 x4 x5
    go_upto_region 10 with (first | (guard_target =~ wpList _ _ _ (⟨some 66, _, _, _, _, _⟩ :: _) _ _; refine msT.load (op := ⟨some 66, .load _ _, _, _, _, _⟩) (by rfl) _ (by rfl) gx 0 (by rfl) (x) hX.rangeK ?_) | (guard_target =~ wpList _ _ _ (⟨none, _, _, _, _, _⟩ :: _) _ _; refine msT.store_mid (op := ⟨none, .store _ _ _, _, _, _, _⟩) (by rfl) _ _ (by rfl) g 0 x _ _ (by rfl) (by rfl) hB (by rw [mmK.len]; decide) ?_))
    have hB1 := Box.mid (msK.enc x) (msK.enc q.s) [] (msK.enc q.f ++ [.int .i64 q.ta, .bool q.hs, .bool q.hf]) WD rfl hB
    replace hX := Box.cells_other (Ne.symm hne) (msK.enc x) 0 WD hX
    replace ho := Only.cells (msK.enc x) 0 WD ho
    change Code.wp Try.prog _ _ _ (WD.setCells g 0 (msK.enc x))
    replace hB1 : Box (WD.setCells g 0 (msK.enc x)) g (mmK.enc { q with s := x }) 36 := hB1
    generalize WD.setCells g 0 (msK.enc x) = W2 at *
    have c46 := hB1.cell 46 _ rfl
    have f46 := hB1.free 46
    have c47 := hB1.cell 47 _ rfl
    have f47 := hB1.free 47
    have hB2 : Box ((W2.setCell ⟨g, 46, none⟩ (.int .i64 at')).setCell ⟨g, 47, none⟩ (.bool true)) g (mmK.enc { q with s := x, ta := at', hs := true }) 36 := (hB1.set 46 (.int .i64 at')).set 47 (.bool true)
    have ho2 := (ho.cell 46 (.int .i64 at')).cell 47 (.bool true)
    go_wp2_with fail
    go_ret2
    exact ⟨by first | (rw [e2, e3]; rfl) | rfl, ⟨_, hB2, _, rfl, by first | exact e1.trans (by simp [msOf]) | simp [msOf], hx, hqf⟩, ho2⟩
  · skip
    by_cases h6 : q.f.1.sq = x.1.sq
    case neg =>
      have hm : matchB q.f x = false := by simp [matchB, h6]
      have n6 : (q.f.1.sq == x.1.sq) = false := beq_false_of_ne h6
      go_upto_region 5 with fail
      clear x0 x2
      refine wp_region_held_drew (S := fun w' => Below W.drew.heap.size W.drew w') (by kernel_rfl) (Below.refl _ _) ?_
      intro hHeld
      have hbd := Below.drew (Below.refl W.heap.size W)
      generalize W.drew = WD at *
      have cF : ∀ wx, Below WD.heap.size WD wx → wx.cell? ⟨g, 48, none⟩ = some (.bool true) := fun wx h => (hB.below (bnext hbd h)).cell 48 _ (by first | rfl | (rw [← hfl]; rfl))
      have cS : ∀ wx, Below WD.heap.size WD wx → wx.cell? ⟨g, 29, none⟩ = some (.int .i64 q.f.1.sq) := fun wx h => (hB.below (bnext hbd h)).cell 29 _ rfl
      have cC : ∀ wx, Below WD.heap.size WD wx → wx.cell? ⟨g, 27, none⟩ = some (.int .u64 q.f.1.sc) := fun wx h => (hB.below (bnext hbd h)).cell 27 _ rfl
      have cP : ∀ wx, Below WD.heap.size WD wx → wx.cell? ⟨g, 28, none⟩ = some (.int .i64 q.f.1.sp) := fun wx h => (hB.below (bnext hbd h)).cell 28 _ rfl
      have x6 : ∀ wx, Below WD.heap.size WD wx → wx.cell? ⟨gx, 6, none⟩ = some (.int .i64 x.1.sq) := fun wx h => (hX.below (bnext hbd h)).cell 6 _ rfl
      have x4 : ∀ wx, Below WD.heap.size WD wx → wx.cell? ⟨gx, 4, none⟩ = some (.int .u64 x.1.sc) := fun wx h => (hX.below (bnext hbd h)).cell 4 _ rfl
      have x5 : ∀ wx, Below WD.heap.size WD wx → wx.cell? ⟨gx, 5, none⟩ = some (.int .i64 x.1.sp) := fun wx h => (hX.below (bnext hbd h)).cell 5 _ rfl
      refine rtake 0 rfl (by rfl) (by kernel_rfl) (by kernel_rfl) (by kernel_rfl) (fun _ _ _ h => h) hHeld (fun wx hwx => by go_simp; try with_reducible rfl) ?_
      try simp only [Act.put, List.setIfInBounds_toArray, List.set_cons_zero, List.set_cons_succ]
      refine rtake 1 rfl (by rfl) (by kernel_rfl) (by kernel_rfl) (by kernel_rfl) (fun _ _ _ h => h) hHeld (fun wx hwx => by go_simp; try with_reducible rfl) ?_
      try simp only [Act.put, List.setIfInBounds_toArray, List.set_cons_zero, List.set_cons_succ]
      refine rtake 2 rfl (by rfl) (by kernel_rfl) (by kernel_rfl) (by kernel_rfl) (fun _ _ _ h => h) hHeld (fun wx hwx => by go_simp; try with_reducible rfl) ?_
      try simp only [Act.put, List.setIfInBounds_toArray, List.set_cons_zero, List.set_cons_succ]
      refine rtake 3 rfl (by rfl) (by kernel_rfl) (by kernel_rfl) (by kernel_rfl) (fun _ _ _ h => h) hHeld (fun wx hwx => by go_simp; try with_reducible rfl) ?_
      try simp only [Act.put, List.setIfInBounds_toArray, List.set_cons_zero, List.set_cons_succ]
      refine rtake 4 rfl (by rfl) (by kernel_rfl) (by kernel_rfl) (by kernel_rfl) (fun _ _ _ h => h) hHeld (fun wx hwx => by go_simp; try with_reducible rfl) ?_
      try simp only [Act.put, List.setIfInBounds_toArray, List.set_cons_zero, List.set_cons_succ]
      refine rtake 5 rfl (by rfl) (by kernel_rfl) (by kernel_rfl) (by kernel_rfl) (fun _ _ _ h => h) hHeld (fun wx hwx => by go_simp; try with_reducible rfl) ?_
      try simp only [Act.put, List.setIfInBounds_toArray, List.set_cons_zero, List.set_cons_succ]
      refine rtake 6 rfl (by rfl) (by kernel_rfl) (by kernel_rfl) (by kernel_rfl) (fun _ _ _ h => h) hHeld (fun wx hwx => by go_simp; try with_reducible rfl) ?_
      try simp only [Act.put, List.setIfInBounds_toArray, List.set_cons_zero, List.set_cons_succ]
      refine rtake 7 rfl (by rfl) (by kernel_rfl) (by kernel_rfl) (by kernel_rfl) (fun _ _ _ h => h) hHeld (fun wx hwx => by go_simp; try with_reducible rfl) ?_
      try simp only [Act.put, List.setIfInBounds_toArray, List.set_cons_zero, List.set_cons_succ]
      refine rtake 8 rfl (by rfl) (by kernel_rfl) (by kernel_rfl) (by kernel_rfl) (fun _ _ _ h => h) hHeld (fun wx hwx => by go_simp; try with_reducible rfl) ?_
      try simp only [Act.put, List.setIfInBounds_toArray, List.set_cons_zero, List.set_cons_succ]
      refine rtake 9 rfl (by rfl) (by kernel_rfl) (by kernel_rfl) (by kernel_rfl) (fun _ _ _ h => h) hHeld (fun wx hwx => by go_simp; try with_reducible rfl) ?_
      try simp only [Act.put, List.setIfInBounds_toArray, List.set_cons_zero, List.set_cons_succ]
      refine rtake 10 rfl (by rfl) (by kernel_rfl) (by kernel_rfl) (by kernel_rfl) (fun _ _ _ h => h) hHeld (fun wx hwx => by go_simp; try with_reducible rfl) ?_
      try simp only [Act.put, List.setIfInBounds_toArray, List.set_cons_zero, List.set_cons_succ]
      refine rtake 11 rfl (by rfl) (by kernel_rfl) (by kernel_rfl) (by kernel_rfl) (fun _ _ _ h => h) hHeld (fun wx hwx => by go_simp; try with_reducible rfl) ?_
      try simp only [Act.put, List.setIfInBounds_toArray, List.set_cons_zero, List.set_cons_succ]
      refine rtake 12 rfl (by rfl) (by kernel_rfl) (by kernel_rfl) (by kernel_rfl) (fun _ _ _ h => h) hHeld (fun wx hwx => by go_simp; try with_reducible rfl) ?_
      try simp only [Act.put, List.setIfInBounds_toArray, List.set_cons_zero, List.set_cons_succ]
      refine rtake 13 rfl (by rfl) (by kernel_rfl) (by kernel_rfl) (by kernel_rfl) (fun _ _ _ h => h) hHeld (fun wx hwx => by go_simp; try with_reducible rfl) ?_
      try simp only [Act.put, List.setIfInBounds_toArray, List.set_cons_zero, List.set_cons_succ]
      refine rtake 14 rfl (by rfl) (by kernel_rfl) (by kernel_rfl) (by kernel_rfl) (fun _ _ _ h => h) hHeld (fun wx hwx => by go_simp; try with_reducible rfl) ?_
      try simp only [Act.put, List.setIfInBounds_toArray, List.set_cons_zero, List.set_cons_succ]
      refine rpass 15 rfl (by rfl) (by kernel_rfl) (by kernel_rfl) (by kernel_rfl) (fun _ _ _ h => h) hHeld ?_
      try simp only [Act.put, List.setIfInBounds_toArray, List.set_cons_zero, List.set_cons_succ]
      refine rpass 16 rfl (by rfl) (by kernel_rfl) (by kernel_rfl) (by kernel_rfl) (fun _ _ _ h => h) hHeld ?_
      try simp only [Act.put, List.setIfInBounds_toArray, List.set_cons_zero, List.set_cons_succ]
      refine rpass 17 rfl (by rfl) (by kernel_rfl) (by kernel_rfl) (by kernel_rfl) (fun _ _ _ h => h) hHeld ?_
      try simp only [Act.put, List.setIfInBounds_toArray, List.set_cons_zero, List.set_cons_succ]
      refine rpass 18 rfl (by rfl) (by kernel_rfl) (by kernel_rfl) (by kernel_rfl) (fun _ _ _ h => h) hHeld ?_
      try simp only [Act.put, List.setIfInBounds_toArray, List.set_cons_zero, List.set_cons_succ]
      refine rpass 19 rfl (by rfl) (by kernel_rfl) (by kernel_rfl) (by kernel_rfl) (fun _ _ _ h => h) hHeld ?_
      try simp only [Act.put, List.setIfInBounds_toArray, List.set_cons_zero, List.set_cons_succ]
      refine rpass 20 rfl (by rfl) (by kernel_rfl) (by kernel_rfl) (by kernel_rfl) (fun _ _ _ h => h) hHeld ?_
      try simp only [Act.put, List.setIfInBounds_toArray, List.set_cons_zero, List.set_cons_succ]
      refine rpass 21 rfl (by rfl) (by kernel_rfl) (by kernel_rfl) (by kernel_rfl) (fun _ _ _ h => h) hHeld ?_
      try simp only [Act.put, List.setIfInBounds_toArray, List.set_cons_zero, List.set_cons_succ]
      refine rpass 22 rfl (by rfl) (by kernel_rfl) (by kernel_rfl) (by kernel_rfl) (fun _ _ _ h => h) hHeld ?_
      try simp only [Act.put, List.setIfInBounds_toArray, List.set_cons_zero, List.set_cons_succ]
      refine rtake 23 rfl (by rfl) (by kernel_rfl) (by kernel_rfl) (by kernel_rfl) (fun _ _ _ h => h) hHeld (fun wx hwx => by go_simp; try with_reducible rfl) ?_
      try simp only [Act.put, List.setIfInBounds_toArray, List.set_cons_zero, List.set_cons_succ]
      obtain ⟨e1, e2, e3⟩ := (sync_miss (at' := at') (y := q.f) hty h2t (m := msOf q) (by simp [msOf, hfl]) hm)
      refine wpAnyH_done (by kernel_rfl) ?_ _
      replace hB := hB.below hbd
      replace hX := hX.below hbd
      replace ho := ho.next hbd
      clear hHeld hbd cF cS cC cP x6 x4 x5
      go_upto_region 10 with (first | (guard_target =~ wpList _ _ _ (⟨some 66, _, _, _, _, _⟩ :: _) _ _; refine msT.load (op := ⟨some 66, .load _ _, _, _, _, _⟩) (by rfl) _ (by rfl) gx 0 (by rfl) (x) hX.rangeK ?_) | (guard_target =~ wpList _ _ _ (⟨none, _, _, _, _, _⟩ :: _) _ _; refine msT.store_mid (op := ⟨none, .store _ _ _, _, _, _, _⟩) (by rfl) _ _ (by rfl) g 0 x _ _ (by rfl) (by rfl) hB (by rw [mmK.len]; decide) ?_))
      have hB1 := Box.mid (msK.enc x) (msK.enc q.s) [] (msK.enc q.f ++ [.int .i64 q.ta, .bool q.hs, .bool q.hf]) WD rfl hB
      replace hX := Box.cells_other (Ne.symm hne) (msK.enc x) 0 WD hX
      replace ho := Only.cells (msK.enc x) 0 WD ho
      change Code.wp Try.prog _ _ _ (WD.setCells g 0 (msK.enc x))
      replace hB1 : Box (WD.setCells g 0 (msK.enc x)) g (mmK.enc { q with s := x }) 36 := hB1
      generalize WD.setCells g 0 (msK.enc x) = W2 at *
      have c46 := hB1.cell 46 _ rfl
      have f46 := hB1.free 46
      have c47 := hB1.cell 47 _ rfl
      have f47 := hB1.free 47
      have hB2 : Box ((W2.setCell ⟨g, 46, none⟩ (.int .i64 at')).setCell ⟨g, 47, none⟩ (.bool true)) g (mmK.enc { q with s := x, ta := at', hs := true }) 36 := (hB1.set 46 (.int .i64 at')).set 47 (.bool true)
      have ho2 := (ho.cell 46 (.int .i64 at')).cell 47 (.bool true)
      go_wp2_with fail
      go_ret2
      exact ⟨by first | (rw [e2, e3]; rfl) | rfl, ⟨_, hB2, _, rfl, by first | exact e1.trans (by simp [msOf]) | simp [msOf], hx, hqf⟩, ho2⟩
    by_cases h4 : q.f.1.sc = x.1.sc
    case neg =>
      have hm : matchB q.f x = false := by simp [matchB, h4]
      have n4 : (q.f.1.sc == x.1.sc) = false := beq_false_of_ne h4
      go_upto_region 5 with fail
      clear x0 x2
      refine wp_region_held_drew (S := fun w' => Below W.drew.heap.size W.drew w') (by kernel_rfl) (Below.refl _ _) ?_
      intro hHeld
      have hbd := Below.drew (Below.refl W.heap.size W)
      generalize W.drew = WD at *
      have cF : ∀ wx, Below WD.heap.size WD wx → wx.cell? ⟨g, 48, none⟩ = some (.bool true) := fun wx h => (hB.below (bnext hbd h)).cell 48 _ (by first | rfl | (rw [← hfl]; rfl))
      have cS : ∀ wx, Below WD.heap.size WD wx → wx.cell? ⟨g, 29, none⟩ = some (.int .i64 q.f.1.sq) := fun wx h => (hB.below (bnext hbd h)).cell 29 _ rfl
      have cC : ∀ wx, Below WD.heap.size WD wx → wx.cell? ⟨g, 27, none⟩ = some (.int .u64 q.f.1.sc) := fun wx h => (hB.below (bnext hbd h)).cell 27 _ rfl
      have cP : ∀ wx, Below WD.heap.size WD wx → wx.cell? ⟨g, 28, none⟩ = some (.int .i64 q.f.1.sp) := fun wx h => (hB.below (bnext hbd h)).cell 28 _ rfl
      have x6 : ∀ wx, Below WD.heap.size WD wx → wx.cell? ⟨gx, 6, none⟩ = some (.int .i64 x.1.sq) := fun wx h => (hX.below (bnext hbd h)).cell 6 _ rfl
      have x4 : ∀ wx, Below WD.heap.size WD wx → wx.cell? ⟨gx, 4, none⟩ = some (.int .u64 x.1.sc) := fun wx h => (hX.below (bnext hbd h)).cell 4 _ rfl
      have x5 : ∀ wx, Below WD.heap.size WD wx → wx.cell? ⟨gx, 5, none⟩ = some (.int .i64 x.1.sp) := fun wx h => (hX.below (bnext hbd h)).cell 5 _ rfl
      rw [h6] at cS
      refine rtake 0 rfl (by rfl) (by kernel_rfl) (by kernel_rfl) (by kernel_rfl) (fun _ _ _ h => h) hHeld (fun wx hwx => by go_simp; try with_reducible rfl) ?_
      try simp only [Act.put, List.setIfInBounds_toArray, List.set_cons_zero, List.set_cons_succ]
      refine rtake 1 rfl (by rfl) (by kernel_rfl) (by kernel_rfl) (by kernel_rfl) (fun _ _ _ h => h) hHeld (fun wx hwx => by go_simp; try with_reducible rfl) ?_
      try simp only [Act.put, List.setIfInBounds_toArray, List.set_cons_zero, List.set_cons_succ]
      refine rtake 2 rfl (by rfl) (by kernel_rfl) (by kernel_rfl) (by kernel_rfl) (fun _ _ _ h => h) hHeld (fun wx hwx => by go_simp; try with_reducible rfl) ?_
      try simp only [Act.put, List.setIfInBounds_toArray, List.set_cons_zero, List.set_cons_succ]
      refine rtake 3 rfl (by rfl) (by kernel_rfl) (by kernel_rfl) (by kernel_rfl) (fun _ _ _ h => h) hHeld (fun wx hwx => by go_simp; try with_reducible rfl) ?_
      try simp only [Act.put, List.setIfInBounds_toArray, List.set_cons_zero, List.set_cons_succ]
      refine rtake 4 rfl (by rfl) (by kernel_rfl) (by kernel_rfl) (by kernel_rfl) (fun _ _ _ h => h) hHeld (fun wx hwx => by go_simp; try with_reducible rfl) ?_
      try simp only [Act.put, List.setIfInBounds_toArray, List.set_cons_zero, List.set_cons_succ]
      refine rtake 5 rfl (by rfl) (by kernel_rfl) (by kernel_rfl) (by kernel_rfl) (fun _ _ _ h => h) hHeld (fun wx hwx => by go_simp; try with_reducible rfl) ?_
      try simp only [Act.put, List.setIfInBounds_toArray, List.set_cons_zero, List.set_cons_succ]
      refine rtake 6 rfl (by rfl) (by kernel_rfl) (by kernel_rfl) (by kernel_rfl) (fun _ _ _ h => h) hHeld (fun wx hwx => by go_simp; try with_reducible rfl) ?_
      try simp only [Act.put, List.setIfInBounds_toArray, List.set_cons_zero, List.set_cons_succ]
      refine rtake 7 rfl (by rfl) (by kernel_rfl) (by kernel_rfl) (by kernel_rfl) (fun _ _ _ h => h) hHeld (fun wx hwx => by go_simp; try with_reducible rfl) ?_
      try simp only [Act.put, List.setIfInBounds_toArray, List.set_cons_zero, List.set_cons_succ]
      refine rtake 8 rfl (by rfl) (by kernel_rfl) (by kernel_rfl) (by kernel_rfl) (fun _ _ _ h => h) hHeld (fun wx hwx => by go_simp; try with_reducible rfl) ?_
      try simp only [Act.put, List.setIfInBounds_toArray, List.set_cons_zero, List.set_cons_succ]
      refine rtake 9 rfl (by rfl) (by kernel_rfl) (by kernel_rfl) (by kernel_rfl) (fun _ _ _ h => h) hHeld (fun wx hwx => by go_simp; try with_reducible rfl) ?_
      try simp only [Act.put, List.setIfInBounds_toArray, List.set_cons_zero, List.set_cons_succ]
      refine rtake 10 rfl (by rfl) (by kernel_rfl) (by kernel_rfl) (by kernel_rfl) (fun _ _ _ h => h) hHeld (fun wx hwx => by go_simp; try with_reducible rfl) ?_
      try simp only [Act.put, List.setIfInBounds_toArray, List.set_cons_zero, List.set_cons_succ]
      refine rtake 11 rfl (by rfl) (by kernel_rfl) (by kernel_rfl) (by kernel_rfl) (fun _ _ _ h => h) hHeld (fun wx hwx => by go_simp; try with_reducible rfl) ?_
      try simp only [Act.put, List.setIfInBounds_toArray, List.set_cons_zero, List.set_cons_succ]
      refine rtake 12 rfl (by rfl) (by kernel_rfl) (by kernel_rfl) (by kernel_rfl) (fun _ _ _ h => h) hHeld (fun wx hwx => by go_simp; try with_reducible rfl) ?_
      try simp only [Act.put, List.setIfInBounds_toArray, List.set_cons_zero, List.set_cons_succ]
      refine rtake 13 rfl (by rfl) (by kernel_rfl) (by kernel_rfl) (by kernel_rfl) (fun _ _ _ h => h) hHeld (fun wx hwx => by go_simp; try with_reducible rfl) ?_
      try simp only [Act.put, List.setIfInBounds_toArray, List.set_cons_zero, List.set_cons_succ]
      refine rtake 14 rfl (by rfl) (by kernel_rfl) (by kernel_rfl) (by kernel_rfl) (fun _ _ _ h => h) hHeld (fun wx hwx => by go_simp; try with_reducible rfl) ?_
      try simp only [Act.put, List.setIfInBounds_toArray, List.set_cons_zero, List.set_cons_succ]
      refine rtake 15 rfl (by rfl) (by kernel_rfl) (by kernel_rfl) (by kernel_rfl) (fun _ _ _ h => h) hHeld (fun wx hwx => by go_simp; try with_reducible rfl) ?_
      try simp only [Act.put, List.setIfInBounds_toArray, List.set_cons_zero, List.set_cons_succ]
      refine rtake 16 rfl (by rfl) (by kernel_rfl) (by kernel_rfl) (by kernel_rfl) (fun _ _ _ h => h) hHeld (fun wx hwx => by go_simp; try with_reducible rfl) ?_
      try simp only [Act.put, List.setIfInBounds_toArray, List.set_cons_zero, List.set_cons_succ]
      refine rtake 17 rfl (by rfl) (by kernel_rfl) (by kernel_rfl) (by kernel_rfl) (fun _ _ _ h => h) hHeld (fun wx hwx => by go_simp; try with_reducible rfl) ?_
      try simp only [Act.put, List.setIfInBounds_toArray, List.set_cons_zero, List.set_cons_succ]
      refine rtake 18 rfl (by rfl) (by kernel_rfl) (by kernel_rfl) (by kernel_rfl) (fun _ _ _ h => h) hHeld (fun wx hwx => by go_simp; try with_reducible rfl) ?_
      try simp only [Act.put, List.setIfInBounds_toArray, List.set_cons_zero, List.set_cons_succ]
      refine rtake 19 rfl (by rfl) (by kernel_rfl) (by kernel_rfl) (by kernel_rfl) (fun _ _ _ h => h) hHeld (fun wx hwx => by go_simp; try with_reducible rfl) ?_
      try simp only [Act.put, List.setIfInBounds_toArray, List.set_cons_zero, List.set_cons_succ]
      refine rtake 20 rfl (by rfl) (by kernel_rfl) (by kernel_rfl) (by kernel_rfl) (fun _ _ _ h => h) hHeld (fun wx hwx => by go_simp; try with_reducible rfl) ?_
      try simp only [Act.put, List.setIfInBounds_toArray, List.set_cons_zero, List.set_cons_succ]
      refine rtake 21 rfl (by rfl) (by kernel_rfl) (by kernel_rfl) (by kernel_rfl) (fun _ _ _ h => h) hHeld (fun wx hwx => by go_simp; try with_reducible rfl) ?_
      try simp only [Act.put, List.setIfInBounds_toArray, List.set_cons_zero, List.set_cons_succ]
      refine rtake 22 rfl (by rfl) (by kernel_rfl) (by kernel_rfl) (by kernel_rfl) (fun _ _ _ h => h) hHeld (fun wx hwx => by go_simp; try with_reducible rfl) ?_
      try simp only [Act.put, List.setIfInBounds_toArray, List.set_cons_zero, List.set_cons_succ]
      refine rtake 23 rfl (by rfl) (by kernel_rfl) (by kernel_rfl) (by kernel_rfl) (fun _ _ _ h => h) hHeld (fun wx hwx => by go_simp; try with_reducible rfl) ?_
      try simp only [Act.put, List.setIfInBounds_toArray, List.set_cons_zero, List.set_cons_succ]
      obtain ⟨e1, e2, e3⟩ := (sync_miss (at' := at') (y := q.f) hty h2t (m := msOf q) (by simp [msOf, hfl]) hm)
      refine wpAnyH_done (by kernel_rfl) ?_ _
      replace hB := hB.below hbd
      replace hX := hX.below hbd
      replace ho := ho.next hbd
      clear hHeld hbd cF cS cC cP x6 x4 x5
      go_upto_region 10 with (first | (guard_target =~ wpList _ _ _ (⟨some 66, _, _, _, _, _⟩ :: _) _ _; refine msT.load (op := ⟨some 66, .load _ _, _, _, _, _⟩) (by rfl) _ (by rfl) gx 0 (by rfl) (x) hX.rangeK ?_) | (guard_target =~ wpList _ _ _ (⟨none, _, _, _, _, _⟩ :: _) _ _; refine msT.store_mid (op := ⟨none, .store _ _ _, _, _, _, _⟩) (by rfl) _ _ (by rfl) g 0 x _ _ (by rfl) (by rfl) hB (by rw [mmK.len]; decide) ?_))
      have hB1 := Box.mid (msK.enc x) (msK.enc q.s) [] (msK.enc q.f ++ [.int .i64 q.ta, .bool q.hs, .bool q.hf]) WD rfl hB
      replace hX := Box.cells_other (Ne.symm hne) (msK.enc x) 0 WD hX
      replace ho := Only.cells (msK.enc x) 0 WD ho
      change Code.wp Try.prog _ _ _ (WD.setCells g 0 (msK.enc x))
      replace hB1 : Box (WD.setCells g 0 (msK.enc x)) g (mmK.enc { q with s := x }) 36 := hB1
      generalize WD.setCells g 0 (msK.enc x) = W2 at *
      have c46 := hB1.cell 46 _ rfl
      have f46 := hB1.free 46
      have c47 := hB1.cell 47 _ rfl
      have f47 := hB1.free 47
      have hB2 : Box ((W2.setCell ⟨g, 46, none⟩ (.int .i64 at')).setCell ⟨g, 47, none⟩ (.bool true)) g (mmK.enc { q with s := x, ta := at', hs := true }) 36 := (hB1.set 46 (.int .i64 at')).set 47 (.bool true)
      have ho2 := (ho.cell 46 (.int .i64 at')).cell 47 (.bool true)
      go_wp2_with fail
      go_ret2
      exact ⟨by first | (rw [e2, e3]; rfl) | rfl, ⟨_, hB2, _, rfl, by first | exact e1.trans (by simp [msOf]) | simp [msOf], hx, hqf⟩, ho2⟩
    by_cases h5 : q.f.1.sp = x.1.sp
    case neg =>
      have hm : matchB q.f x = false := by simp [matchB, h5]
      have n5 : (q.f.1.sp == x.1.sp) = false := beq_false_of_ne h5
      go_upto_region 5 with fail
      clear x0 x2
      refine wp_region_held_drew (S := fun w' => Below W.drew.heap.size W.drew w') (by kernel_rfl) (Below.refl _ _) ?_
      intro hHeld
      have hbd := Below.drew (Below.refl W.heap.size W)
      generalize W.drew = WD at *
      have cF : ∀ wx, Below WD.heap.size WD wx → wx.cell? ⟨g, 48, none⟩ = some (.bool true) := fun wx h => (hB.below (bnext hbd h)).cell 48 _ (by first | rfl | (rw [← hfl]; rfl))
      have cS : ∀ wx, Below WD.heap.size WD wx → wx.cell? ⟨g, 29, none⟩ = some (.int .i64 q.f.1.sq) := fun wx h => (hB.below (bnext hbd h)).cell 29 _ rfl
      have cC : ∀ wx, Below WD.heap.size WD wx → wx.cell? ⟨g, 27, none⟩ = some (.int .u64 q.f.1.sc) := fun wx h => (hB.below (bnext hbd h)).cell 27 _ rfl
      have cP : ∀ wx, Below WD.heap.size WD wx → wx.cell? ⟨g, 28, none⟩ = some (.int .i64 q.f.1.sp) := fun wx h => (hB.below (bnext hbd h)).cell 28 _ rfl
      have x6 : ∀ wx, Below WD.heap.size WD wx → wx.cell? ⟨gx, 6, none⟩ = some (.int .i64 x.1.sq) := fun wx h => (hX.below (bnext hbd h)).cell 6 _ rfl
      have x4 : ∀ wx, Below WD.heap.size WD wx → wx.cell? ⟨gx, 4, none⟩ = some (.int .u64 x.1.sc) := fun wx h => (hX.below (bnext hbd h)).cell 4 _ rfl
      have x5 : ∀ wx, Below WD.heap.size WD wx → wx.cell? ⟨gx, 5, none⟩ = some (.int .i64 x.1.sp) := fun wx h => (hX.below (bnext hbd h)).cell 5 _ rfl
      rw [h6] at cS
      rw [h4] at cC
      refine rtake 0 rfl (by rfl) (by kernel_rfl) (by kernel_rfl) (by kernel_rfl) (fun _ _ _ h => h) hHeld (fun wx hwx => by go_simp; try with_reducible rfl) ?_
      try simp only [Act.put, List.setIfInBounds_toArray, List.set_cons_zero, List.set_cons_succ]
      refine rtake 1 rfl (by rfl) (by kernel_rfl) (by kernel_rfl) (by kernel_rfl) (fun _ _ _ h => h) hHeld (fun wx hwx => by go_simp; try with_reducible rfl) ?_
      try simp only [Act.put, List.setIfInBounds_toArray, List.set_cons_zero, List.set_cons_succ]
      refine rtake 2 rfl (by rfl) (by kernel_rfl) (by kernel_rfl) (by kernel_rfl) (fun _ _ _ h => h) hHeld (fun wx hwx => by go_simp; try with_reducible rfl) ?_
      try simp only [Act.put, List.setIfInBounds_toArray, List.set_cons_zero, List.set_cons_succ]
      refine rtake 3 rfl (by rfl) (by kernel_rfl) (by kernel_rfl) (by kernel_rfl) (fun _ _ _ h => h) hHeld (fun wx hwx => by go_simp; try with_reducible rfl) ?_
      try simp only [Act.put, List.setIfInBounds_toArray, List.set_cons_zero, List.set_cons_succ]
      refine rtake 4 rfl (by rfl) (by kernel_rfl) (by kernel_rfl) (by kernel_rfl) (fun _ _ _ h => h) hHeld (fun wx hwx => by go_simp; try with_reducible rfl) ?_
      try simp only [Act.put, List.setIfInBounds_toArray, List.set_cons_zero, List.set_cons_succ]
      refine rtake 5 rfl (by rfl) (by kernel_rfl) (by kernel_rfl) (by kernel_rfl) (fun _ _ _ h => h) hHeld (fun wx hwx => by go_simp; try with_reducible rfl) ?_
      try simp only [Act.put, List.setIfInBounds_toArray, List.set_cons_zero, List.set_cons_succ]
      refine rtake 6 rfl (by rfl) (by kernel_rfl) (by kernel_rfl) (by kernel_rfl) (fun _ _ _ h => h) hHeld (fun wx hwx => by go_simp; try with_reducible rfl) ?_
      try simp only [Act.put, List.setIfInBounds_toArray, List.set_cons_zero, List.set_cons_succ]
      refine rtake 7 rfl (by rfl) (by kernel_rfl) (by kernel_rfl) (by kernel_rfl) (fun _ _ _ h => h) hHeld (fun wx hwx => by go_simp; try with_reducible rfl) ?_
      try simp only [Act.put, List.setIfInBounds_toArray, List.set_cons_zero, List.set_cons_succ]
      refine rtake 8 rfl (by rfl) (by kernel_rfl) (by kernel_rfl) (by kernel_rfl) (fun _ _ _ h => h) hHeld (fun wx hwx => by go_simp; try with_reducible rfl) ?_
      try simp only [Act.put, List.setIfInBounds_toArray, List.set_cons_zero, List.set_cons_succ]
      refine rtake 9 rfl (by rfl) (by kernel_rfl) (by kernel_rfl) (by kernel_rfl) (fun _ _ _ h => h) hHeld (fun wx hwx => by go_simp; try with_reducible rfl) ?_
      try simp only [Act.put, List.setIfInBounds_toArray, List.set_cons_zero, List.set_cons_succ]
      refine rtake 10 rfl (by rfl) (by kernel_rfl) (by kernel_rfl) (by kernel_rfl) (fun _ _ _ h => h) hHeld (fun wx hwx => by go_simp; try with_reducible rfl) ?_
      try simp only [Act.put, List.setIfInBounds_toArray, List.set_cons_zero, List.set_cons_succ]
      refine rtake 11 rfl (by rfl) (by kernel_rfl) (by kernel_rfl) (by kernel_rfl) (fun _ _ _ h => h) hHeld (fun wx hwx => by go_simp; try with_reducible rfl) ?_
      try simp only [Act.put, List.setIfInBounds_toArray, List.set_cons_zero, List.set_cons_succ]
      refine rtake 12 rfl (by rfl) (by kernel_rfl) (by kernel_rfl) (by kernel_rfl) (fun _ _ _ h => h) hHeld (fun wx hwx => by go_simp; try with_reducible rfl) ?_
      try simp only [Act.put, List.setIfInBounds_toArray, List.set_cons_zero, List.set_cons_succ]
      refine rtake 13 rfl (by rfl) (by kernel_rfl) (by kernel_rfl) (by kernel_rfl) (fun _ _ _ h => h) hHeld (fun wx hwx => by go_simp; try with_reducible rfl) ?_
      try simp only [Act.put, List.setIfInBounds_toArray, List.set_cons_zero, List.set_cons_succ]
      refine rtake 14 rfl (by rfl) (by kernel_rfl) (by kernel_rfl) (by kernel_rfl) (fun _ _ _ h => h) hHeld (fun wx hwx => by go_simp; try with_reducible rfl) ?_
      try simp only [Act.put, List.setIfInBounds_toArray, List.set_cons_zero, List.set_cons_succ]
      refine rtake 15 rfl (by rfl) (by kernel_rfl) (by kernel_rfl) (by kernel_rfl) (fun _ _ _ h => h) hHeld (fun wx hwx => by go_simp; try with_reducible rfl) ?_
      try simp only [Act.put, List.setIfInBounds_toArray, List.set_cons_zero, List.set_cons_succ]
      refine rtake 16 rfl (by rfl) (by kernel_rfl) (by kernel_rfl) (by kernel_rfl) (fun _ _ _ h => h) hHeld (fun wx hwx => by go_simp; try with_reducible rfl) ?_
      try simp only [Act.put, List.setIfInBounds_toArray, List.set_cons_zero, List.set_cons_succ]
      refine rtake 17 rfl (by rfl) (by kernel_rfl) (by kernel_rfl) (by kernel_rfl) (fun _ _ _ h => h) hHeld (fun wx hwx => by go_simp; try with_reducible rfl) ?_
      try simp only [Act.put, List.setIfInBounds_toArray, List.set_cons_zero, List.set_cons_succ]
      refine rtake 18 rfl (by rfl) (by kernel_rfl) (by kernel_rfl) (by kernel_rfl) (fun _ _ _ h => h) hHeld (fun wx hwx => by go_simp; try with_reducible rfl) ?_
      try simp only [Act.put, List.setIfInBounds_toArray, List.set_cons_zero, List.set_cons_succ]
      refine rtake 19 rfl (by rfl) (by kernel_rfl) (by kernel_rfl) (by kernel_rfl) (fun _ _ _ h => h) hHeld (fun wx hwx => by go_simp; try with_reducible rfl) ?_
      try simp only [Act.put, List.setIfInBounds_toArray, List.set_cons_zero, List.set_cons_succ]
      refine rtake 20 rfl (by rfl) (by kernel_rfl) (by kernel_rfl) (by kernel_rfl) (fun _ _ _ h => h) hHeld (fun wx hwx => by go_simp; try with_reducible rfl) ?_
      try simp only [Act.put, List.setIfInBounds_toArray, List.set_cons_zero, List.set_cons_succ]
      refine rtake 21 rfl (by rfl) (by kernel_rfl) (by kernel_rfl) (by kernel_rfl) (fun _ _ _ h => h) hHeld (fun wx hwx => by go_simp; try with_reducible rfl) ?_
      try simp only [Act.put, List.setIfInBounds_toArray, List.set_cons_zero, List.set_cons_succ]
      refine rtake 22 rfl (by rfl) (by kernel_rfl) (by kernel_rfl) (by kernel_rfl) (fun _ _ _ h => h) hHeld (fun wx hwx => by go_simp; try with_reducible rfl) ?_
      try simp only [Act.put, List.setIfInBounds_toArray, List.set_cons_zero, List.set_cons_succ]
      refine rtake 23 rfl (by rfl) (by kernel_rfl) (by kernel_rfl) (by kernel_rfl) (fun _ _ _ h => h) hHeld (fun wx hwx => by go_simp; try with_reducible rfl) ?_
      try simp only [Act.put, List.setIfInBounds_toArray, List.set_cons_zero, List.set_cons_succ]
      obtain ⟨e1, e2, e3⟩ := (sync_miss (at' := at') (y := q.f) hty h2t (m := msOf q) (by simp [msOf, hfl]) hm)
      refine wpAnyH_done (by kernel_rfl) ?_ _
      replace hB := hB.below hbd
      replace hX := hX.below hbd
      replace ho := ho.next hbd
      clear hHeld hbd cF cS cC cP x6 x4 x5
      go_upto_region 10 with (first | (guard_target =~ wpList _ _ _ (⟨some 66, _, _, _, _, _⟩ :: _) _ _; refine msT.load (op := ⟨some 66, .load _ _, _, _, _, _⟩) (by rfl) _ (by rfl) gx 0 (by rfl) (x) hX.rangeK ?_) | (guard_target =~ wpList _ _ _ (⟨none, _, _, _, _, _⟩ :: _) _ _; refine msT.store_mid (op := ⟨none, .store _ _ _, _, _, _, _⟩) (by rfl) _ _ (by rfl) g 0 x _ _ (by rfl) (by rfl) hB (by rw [mmK.len]; decide) ?_))
      have hB1 := Box.mid (msK.enc x) (msK.enc q.s) [] (msK.enc q.f ++ [.int .i64 q.ta, .bool q.hs, .bool q.hf]) WD rfl hB
      replace hX := Box.cells_other (Ne.symm hne) (msK.enc x) 0 WD hX
      replace ho := Only.cells (msK.enc x) 0 WD ho
      change Code.wp Try.prog _ _ _ (WD.setCells g 0 (msK.enc x))
      replace hB1 : Box (WD.setCells g 0 (msK.enc x)) g (mmK.enc { q with s := x }) 36 := hB1
      generalize WD.setCells g 0 (msK.enc x) = W2 at *
      have c46 := hB1.cell 46 _ rfl
      have f46 := hB1.free 46
      have c47 := hB1.cell 47 _ rfl
      have f47 := hB1.free 47
      have hB2 : Box ((W2.setCell ⟨g, 46, none⟩ (.int .i64 at')).setCell ⟨g, 47, none⟩ (.bool true)) g (mmK.enc { q with s := x, ta := at', hs := true }) 36 := (hB1.set 46 (.int .i64 at')).set 47 (.bool true)
      have ho2 := (ho.cell 46 (.int .i64 at')).cell 47 (.bool true)
      go_wp2_with fail
      go_ret2
      exact ⟨by first | (rw [e2, e3]; rfl) | rfl, ⟨_, hB2, _, rfl, by first | exact e1.trans (by simp [msOf]) | simp [msOf], hx, hqf⟩, ho2⟩
    have hm : matchB q.f x = true := by simp [matchB, h6, h4, h5]
    go_upto_region 5 with fail
    clear x0 x2
    refine wp_region_held_drew (S := fun w' => Below W.drew.heap.size W.drew w') (by kernel_rfl) (Below.refl _ _) ?_
    intro hHeld
    have hbd := Below.drew (Below.refl W.heap.size W)
    generalize W.drew = WD at *
    have cF : ∀ wx, Below WD.heap.size WD wx → wx.cell? ⟨g, 48, none⟩ = some (.bool true) := fun wx h => (hB.below (bnext hbd h)).cell 48 _ (by first | rfl | (rw [← hfl]; rfl))
    have cS : ∀ wx, Below WD.heap.size WD wx → wx.cell? ⟨g, 29, none⟩ = some (.int .i64 q.f.1.sq) := fun wx h => (hB.below (bnext hbd h)).cell 29 _ rfl
    have cC : ∀ wx, Below WD.heap.size WD wx → wx.cell? ⟨g, 27, none⟩ = some (.int .u64 q.f.1.sc) := fun wx h => (hB.below (bnext hbd h)).cell 27 _ rfl
    have cP : ∀ wx, Below WD.heap.size WD wx → wx.cell? ⟨g, 28, none⟩ = some (.int .i64 q.f.1.sp) := fun wx h => (hB.below (bnext hbd h)).cell 28 _ rfl
    have x6 : ∀ wx, Below WD.heap.size WD wx → wx.cell? ⟨gx, 6, none⟩ = some (.int .i64 x.1.sq) := fun wx h => (hX.below (bnext hbd h)).cell 6 _ rfl
    have x4 : ∀ wx, Below WD.heap.size WD wx → wx.cell? ⟨gx, 4, none⟩ = some (.int .u64 x.1.sc) := fun wx h => (hX.below (bnext hbd h)).cell 4 _ rfl
    have x5 : ∀ wx, Below WD.heap.size WD wx → wx.cell? ⟨gx, 5, none⟩ = some (.int .i64 x.1.sp) := fun wx h => (hX.below (bnext hbd h)).cell 5 _ rfl
    rw [h6] at cS
    rw [h4] at cC
    rw [h5] at cP
    refine rtake 0 rfl (by rfl) (by kernel_rfl) (by kernel_rfl) (by kernel_rfl) (fun _ _ _ h => h) hHeld (fun wx hwx => by go_simp; try with_reducible rfl) ?_
    try simp only [Act.put, List.setIfInBounds_toArray, List.set_cons_zero, List.set_cons_succ]
    refine rtake 1 rfl (by rfl) (by kernel_rfl) (by kernel_rfl) (by kernel_rfl) (fun _ _ _ h => h) hHeld (fun wx hwx => by go_simp; try with_reducible rfl) ?_
    try simp only [Act.put, List.setIfInBounds_toArray, List.set_cons_zero, List.set_cons_succ]
    refine rtake 2 rfl (by rfl) (by kernel_rfl) (by kernel_rfl) (by kernel_rfl) (fun _ _ _ h => h) hHeld (fun wx hwx => by go_simp; try with_reducible rfl) ?_
    try simp only [Act.put, List.setIfInBounds_toArray, List.set_cons_zero, List.set_cons_succ]
    refine rtake 3 rfl (by rfl) (by kernel_rfl) (by kernel_rfl) (by kernel_rfl) (fun _ _ _ h => h) hHeld (fun wx hwx => by go_simp; try with_reducible rfl) ?_
    try simp only [Act.put, List.setIfInBounds_toArray, List.set_cons_zero, List.set_cons_succ]
    refine rtake 4 rfl (by rfl) (by kernel_rfl) (by kernel_rfl) (by kernel_rfl) (fun _ _ _ h => h) hHeld (fun wx hwx => by go_simp; try with_reducible rfl) ?_
    try simp only [Act.put, List.setIfInBounds_toArray, List.set_cons_zero, List.set_cons_succ]
    refine rtake 5 rfl (by rfl) (by kernel_rfl) (by kernel_rfl) (by kernel_rfl) (fun _ _ _ h => h) hHeld (fun wx hwx => by go_simp; try with_reducible rfl) ?_
    try simp only [Act.put, List.setIfInBounds_toArray, List.set_cons_zero, List.set_cons_succ]
    refine rtake 6 rfl (by rfl) (by kernel_rfl) (by kernel_rfl) (by kernel_rfl) (fun _ _ _ h => h) hHeld (fun wx hwx => by go_simp; try with_reducible rfl) ?_
    try simp only [Act.put, List.setIfInBounds_toArray, List.set_cons_zero, List.set_cons_succ]
    refine rtake 7 rfl (by rfl) (by kernel_rfl) (by kernel_rfl) (by kernel_rfl) (fun _ _ _ h => h) hHeld (fun wx hwx => by go_simp; try with_reducible rfl) ?_
    try simp only [Act.put, List.setIfInBounds_toArray, List.set_cons_zero, List.set_cons_succ]
    refine rtake 8 rfl (by rfl) (by kernel_rfl) (by kernel_rfl) (by kernel_rfl) (fun _ _ _ h => h) hHeld (fun wx hwx => by go_simp; try with_reducible rfl) ?_
    try simp only [Act.put, List.setIfInBounds_toArray, List.set_cons_zero, List.set_cons_succ]
    refine rtake 9 rfl (by rfl) (by kernel_rfl) (by kernel_rfl) (by kernel_rfl) (fun _ _ _ h => h) hHeld (fun wx hwx => by go_simp; try with_reducible rfl) ?_
    try simp only [Act.put, List.setIfInBounds_toArray, List.set_cons_zero, List.set_cons_succ]
    refine rtake 10 rfl (by rfl) (by kernel_rfl) (by kernel_rfl) (by kernel_rfl) (fun _ _ _ h => h) hHeld (fun wx hwx => by go_simp; try with_reducible rfl) ?_
    try simp only [Act.put, List.setIfInBounds_toArray, List.set_cons_zero, List.set_cons_succ]
    refine rtake 11 rfl (by rfl) (by kernel_rfl) (by kernel_rfl) (by kernel_rfl) (fun _ _ _ h => h) hHeld (fun wx hwx => by go_simp; try with_reducible rfl) ?_
    try simp only [Act.put, List.setIfInBounds_toArray, List.set_cons_zero, List.set_cons_succ]
    refine rtake 12 rfl (by rfl) (by kernel_rfl) (by kernel_rfl) (by kernel_rfl) (fun _ _ _ h => h) hHeld (fun wx hwx => by go_simp; try with_reducible rfl) ?_
    try simp only [Act.put, List.setIfInBounds_toArray, List.set_cons_zero, List.set_cons_succ]
    refine rtake 13 rfl (by rfl) (by kernel_rfl) (by kernel_rfl) (by kernel_rfl) (fun _ _ _ h => h) hHeld (fun wx hwx => by go_simp; try with_reducible rfl) ?_
    try simp only [Act.put, List.setIfInBounds_toArray, List.set_cons_zero, List.set_cons_succ]
    refine rtake 14 rfl (by rfl) (by kernel_rfl) (by kernel_rfl) (by kernel_rfl) (fun _ _ _ h => h) hHeld (fun wx hwx => by go_simp; try with_reducible rfl) ?_
    try simp only [Act.put, List.setIfInBounds_toArray, List.set_cons_zero, List.set_cons_succ]
    refine rtake 15 rfl (by rfl) (by kernel_rfl) (by kernel_rfl) (by kernel_rfl) (fun _ _ _ h => h) hHeld (fun wx hwx => by go_simp; try with_reducible rfl) ?_
    try simp only [Act.put, List.setIfInBounds_toArray, List.set_cons_zero, List.set_cons_succ]
    refine rtake 16 rfl (by rfl) (by kernel_rfl) (by kernel_rfl) (by kernel_rfl) (fun _ _ _ h => h) hHeld (fun wx hwx => by go_simp; try with_reducible rfl) ?_
    try simp only [Act.put, List.setIfInBounds_toArray, List.set_cons_zero, List.set_cons_succ]
    refine rtake 17 rfl (by rfl) (by kernel_rfl) (by kernel_rfl) (by kernel_rfl) (fun _ _ _ h => h) hHeld (fun wx hwx => by go_simp; try with_reducible rfl) ?_
    try simp only [Act.put, List.setIfInBounds_toArray, List.set_cons_zero, List.set_cons_succ]
    refine rtake 18 rfl (by rfl) (by kernel_rfl) (by kernel_rfl) (by kernel_rfl) (fun _ _ _ h => h) hHeld (fun wx hwx => by go_simp; try with_reducible rfl) ?_
    try simp only [Act.put, List.setIfInBounds_toArray, List.set_cons_zero, List.set_cons_succ]
    refine rtake 19 rfl (by rfl) (by kernel_rfl) (by kernel_rfl) (by kernel_rfl) (fun _ _ _ h => h) hHeld (fun wx hwx => by go_simp; try with_reducible rfl) ?_
    try simp only [Act.put, List.setIfInBounds_toArray, List.set_cons_zero, List.set_cons_succ]
    refine rtake 20 rfl (by rfl) (by kernel_rfl) (by kernel_rfl) (by kernel_rfl) (fun _ _ _ h => h) hHeld (fun wx hwx => by go_simp; try with_reducible rfl) ?_
    try simp only [Act.put, List.setIfInBounds_toArray, List.set_cons_zero, List.set_cons_succ]
    refine rtake 21 rfl (by rfl) (by kernel_rfl) (by kernel_rfl) (by kernel_rfl) (fun _ _ _ h => h) hHeld (fun wx hwx => by go_simp; try with_reducible rfl) ?_
    try simp only [Act.put, List.setIfInBounds_toArray, List.set_cons_zero, List.set_cons_succ]
    refine rtake 22 rfl (by rfl) (by kernel_rfl) (by kernel_rfl) (by kernel_rfl) (fun _ _ _ h => h) hHeld (fun wx hwx => by go_simp; try with_reducible rfl) ?_
    try simp only [Act.put, List.setIfInBounds_toArray, List.set_cons_zero, List.set_cons_succ]
    refine rtake 23 rfl (by rfl) (by kernel_rfl) (by kernel_rfl) (by kernel_rfl) (fun _ _ _ h => h) hHeld (fun wx hwx => by go_simp; try with_reducible rfl) ?_
    try simp only [Act.put, List.setIfInBounds_toArray, List.set_cons_zero, List.set_cons_succ]
    obtain ⟨e1, e2, e3⟩ := (sync_hit (at' := at') (y := q.f) hty h2t (m := msOf q) (by simp [msOf, hfl]) hm)
    refine wpAnyH_done (by kernel_rfl) ?_ _
    replace hB := hB.below hbd
    replace hX := hX.below hbd
    replace ho := ho.next hbd
    clear hHeld hbd cF cS cC cP x6 x4 x5
    go_upto_region 6 with fail
    refine wp_region_held_drew (S := fun w' => Below WD.drew.heap.size WD.drew w') (by kernel_rfl) (Below.refl _ _) ?_
    intro hHeld
    have hbd := Below.drew (Below.refl WD.heap.size WD)
    generalize WD.drew = WE at *
    have x3 : ∀ wx, Below WE.heap.size WE wx → wx.cell? ⟨gx, 3, none⟩ = some (.int .i64 x.1.co) := fun wx h => (hX.below (bnext hbd h)).cell 3 _ rfl
    have cO : ∀ wx, Below WE.heap.size WE wx → wx.cell? ⟨g, 26, none⟩ = some (.int .i64 q.f.1.co) := fun wx h => (hB.below (bnext hbd h)).cell 26 _ rfl
    have cT : ∀ wx, Below WE.heap.size WE wx → wx.cell? ⟨g, 31, none⟩ = some (.int .i64 q.f.2.st) := fun wx h => (hB.below (bnext hbd h)).cell 31 _ rfl
    refine rtake 0 rfl (by rfl) (by kernel_rfl) (by kernel_rfl) (by kernel_rfl) (fun _ _ _ h => h) hHeld (fun wx hwx => by go_simp; try with_reducible rfl) ?_
    try simp only [Act.put, List.setIfInBounds_toArray, List.set_cons_zero, List.set_cons_succ]
    refine rtake 1 rfl (by rfl) (by kernel_rfl) (by kernel_rfl) (by kernel_rfl) (fun _ _ _ h => h) hHeld (fun wx hwx => by go_simp; try with_reducible rfl) ?_
    try simp only [Act.put, List.setIfInBounds_toArray, List.set_cons_zero, List.set_cons_succ]
    refine rtake 2 rfl (by rfl) (by kernel_rfl) (by kernel_rfl) (by kernel_rfl) (fun _ _ _ h => h) hHeld (fun wx hwx => by go_simp; try with_reducible rfl) ?_
    try simp only [Act.put, List.setIfInBounds_toArray, List.set_cons_zero, List.set_cons_succ]
    refine rtake 3 rfl (by rfl) (by kernel_rfl) (by kernel_rfl) (by kernel_rfl) (fun _ _ _ h => h) hHeld (fun wx hwx => by go_simp; try with_reducible rfl) ?_
    try simp only [Act.put, List.setIfInBounds_toArray, List.set_cons_zero, List.set_cons_succ]
    refine rtake 4 rfl (by rfl) (by kernel_rfl) (by kernel_rfl) (by kernel_rfl) (fun _ _ _ h => h) hHeld (fun wx hwx => by go_simp; try with_reducible rfl) ?_
    try simp only [Act.put, List.setIfInBounds_toArray, List.set_cons_zero, List.set_cons_succ]
    refine rtake 5 rfl (by rfl) (by kernel_rfl) (by kernel_rfl) (by kernel_rfl) (fun _ _ _ h => h) hHeld (fun wx hwx => by go_simp; try with_reducible rfl) ?_
    try simp only [Act.put, List.setIfInBounds_toArray, List.set_cons_zero, List.set_cons_succ]
    refine rtake 6 rfl (by rfl) (by kernel_rfl) (by kernel_rfl) (by kernel_rfl) (fun _ _ _ h => h) hHeld (fun wx hwx => by go_simp; try with_reducible rfl) ?_
    try simp only [Act.put, List.setIfInBounds_toArray, List.set_cons_zero, List.set_cons_succ]
    refine rtake 7 rfl (by rfl) (by kernel_rfl) (by kernel_rfl) (by kernel_rfl) (fun _ _ _ h => h) hHeld (fun wx hwx => by go_simp; try with_reducible rfl) ?_
    try simp only [Act.put, List.setIfInBounds_toArray, List.set_cons_zero, List.set_cons_succ]
    refine rtake 8 rfl (by rfl) (by kernel_rfl) (by kernel_rfl) (by kernel_rfl) (fun _ _ _ h => h) hHeld (fun wx hwx => by go_simp; try with_reducible rfl) ?_
    try simp only [Act.put, List.setIfInBounds_toArray, List.set_cons_zero, List.set_cons_succ]
    refine rtake 9 rfl (by rfl) (by kernel_rfl) (by kernel_rfl) (by kernel_rfl) (fun _ _ _ h => h) hHeld (fun wx hwx => by go_simp; try with_reducible rfl) ?_
    try simp only [Act.put, List.setIfInBounds_toArray, List.set_cons_zero, List.set_cons_succ]
    refine rtake 10 rfl (by rfl) (by kernel_rfl) (by kernel_rfl) (by kernel_rfl) (fun _ _ _ h => h) hHeld (fun wx hwx => by go_simp; try with_reducible rfl) ?_
    try simp only [Act.put, List.setIfInBounds_toArray, List.set_cons_zero, List.set_cons_succ]
    refine rtake 11 rfl (by rfl) (by kernel_rfl) (by kernel_rfl) (by kernel_rfl) (fun _ _ _ h => h) hHeld (fun wx hwx => by go_simp; try with_reducible rfl) ?_
    try simp only [Act.put, List.setIfInBounds_toArray, List.set_cons_zero, List.set_cons_succ]
    refine rtake 12 rfl (by rfl) (by kernel_rfl) (by kernel_rfl) (by kernel_rfl) (fun _ _ _ h => h) hHeld (fun wx hwx => by go_simp; try with_reducible rfl) ?_
    try simp only [Act.put, List.setIfInBounds_toArray, List.set_cons_zero, List.set_cons_succ]
    refine rcall 13 rfl (by kernel_rfl) (by rfl) (fun K' hK => ?_)
    go_simp
    refine (refAdd_any _ _ _ hx.2.2.1 hx.2.2.2 hqf.2.2.1 hqf.2.2.2).mono ?_
    rintro e wy ⟨rfl, rfl⟩
    refine hK.out _ _ hHeld ?_
    clear hK K'
    try simp only [Act.put, List.setIfInBounds_toArray, List.set_cons_zero, List.set_cons_succ]
    refine rcall 14 rfl (by kernel_rfl) (by rfl) (fun K' hK => ?_)
    go_simp
    refine (refDiff_any _ _ _ _ (addI_in _ _).1 (addI_in _ _).2).mono ?_
    rintro e wy ⟨rfl, rfl⟩
    refine hK.out _ _ hHeld ?_
    clear hK K'
    try simp only [Act.put, List.setIfInBounds_toArray, List.set_cons_zero, List.set_cons_succ]
    refine rtake 15 rfl (by rfl) (by kernel_rfl) (by kernel_rfl) (by kernel_rfl) (fun _ _ _ h => h) hHeld (fun wx hwx => by go_simp; try with_reducible rfl) ?_
    try simp only [Act.put, List.setIfInBounds_toArray, List.set_cons_zero, List.set_cons_succ]
    refine wpAnyH_done (by kernel_rfl) ?_ _
    replace hB := hB.below hbd
    replace ho := ho.next hbd
    clear hHeld hbd x3 cO cT
    go_wp2_with (first | (guard_target =~ wpList _ _ _ (⟨some 62, _, _, _, _, _⟩ :: _) _ _; refine wpList_build_any (op := ⟨some 62, .build _ _, _, _, _, _⟩) (by rfl) _ _ (by rfl) _ (by rfl) (mmK.enc zeroMm).toArray (by kernel_rfl) ?_) | (guard_target =~ wpList _ _ _ (⟨none, _, _, _, _, _⟩ :: _) _ _; refine mmT.store (op := ⟨none, .store _ _ _, _, _, _, _⟩) (by rfl) _ _ (by rfl) g zeroMm q _ (by rfl) (by rfl) hB ?_))
    go_ret2
    exact ⟨by first | (rw [e2, e3]; rfl) | rfl, ⟨_, hB.rowK (mmK.enc zeroMm), zeroMm, rfl, e1, zero_hd, zero_hd⟩, ho.row _⟩

set_option maxRecDepth 100000 in
set_option maxHeartbeats 8000000 in
theorem refFollow_any (g : Nat) (m : Ms) (x : Hd × Bd) (w : World) (hA : ObAt 36 RM w g m) (hx : HdOk x.1) :
    Calls Try.prog 19 #[.pointer (some ⟨g, 0, none⟩), .agg (msK.enc x).toArray] w fun e w' => e = .returned (.tuple #[.int .i64 (follD m x), .bool (follB m x)]) ∧ ObAt 36 RM w' g (follS m x) ∧ Only g w w' := by
  obtain ⟨xs, hB, q, rfl, rfl, hqs, hqf⟩ := hA
  have hgl := hB.lt
  have hb := bnew w (Obj.cells (msK.enc x).toArray 34)
  have hX := Box.new w (msK.enc x) 34
  replace hB := hB.below hb
  have ho := Only.of_below g hb
  have hne : g ≠ w.heap.size := by omega
  go_enter Try.func19, Try.ntmps19
  go_upto_region 1 with fail
  change Code.wp Try.prog _ _ _ (w.alloc (Obj.cells (msK.enc x).toArray 34))
  generalize w.alloc (Obj.cells (msK.enc x).toArray 34) = W at *
  generalize w.heap.size = gx at *
  have x0 : W.cell? ⟨gx, 0, none⟩ = some (.int .i64 x.1.ty) := hX.cell 0 _ rfl
  by_cases hty : x.1.ty = 8
  case neg =>
    have hn : (x.1.ty == 8) = false := beq_false_of_ne hty
    have e1 : follS (msOf q) x = msOf q := by simp [follS, hty]
    have e2 : follD (msOf q) x = 0 := by simp [follD, hty]
    have e3 : follB (msOf q) x = false := by simp [follB, hty]
    go_wp2_with fail
    go_ret2
    exact ⟨by first | (rw [e2, e3]; rfl) | rfl, ⟨_, hB, q, rfl, e1, hqs, hqf⟩, ho⟩
  rw [hty] at x0
  cases hfl : q.hs
  · skip
    go_upto_region 3 with fail
    clear x0
    refine wp_region_held_drew (S := fun w' => Below W.drew.heap.size W.drew w') (by kernel_rfl) (Below.refl _ _) ?_
    intro hHeld
    have hbd := Below.drew (Below.refl W.heap.size W)
    generalize W.drew = WD at *
    have cF : ∀ wx, Below WD.heap.size WD wx → wx.cell? ⟨g, 47, none⟩ = some (.bool false) := fun wx h => (hB.below (bnext hbd h)).cell 47 _ (by first | rfl | (rw [← hfl]; rfl))
    have cS : ∀ wx, Below WD.heap.size WD wx → wx.cell? ⟨g, 6, none⟩ = some (.int .i64 q.s.1.sq) := fun wx h => (hB.below (bnext hbd h)).cell 6 _ rfl
    have cC : ∀ wx, Below WD.heap.size WD wx → wx.cell? ⟨g, 4, none⟩ = some (.int .u64 q.s.1.sc) := fun wx h => (hB.below (bnext hbd h)).cell 4 _ rfl
    have cP : ∀ wx, Below WD.heap.size WD wx → wx.cell? ⟨g, 5, none⟩ = some (.int .i64 q.s.1.sp) := fun wx h => (hB.below (bnext hbd h)).cell 5 _ rfl
    have x6 : ∀ wx, Below WD.heap.size WD wx → wx.cell? ⟨gx, 6, none⟩ = some (.int .i64 x.1.sq) := fun wx h => (hX.below (bnext hbd h)).cell 6 _ rfl
    have x4 : ∀ wx, Below WD.heap.size WD wx → wx.cell? ⟨gx, 4, none⟩ = some (.int .u64 x.1.sc) := fun wx h => (hX.below (bnext hbd h)).cell 4 _ rfl
    have x5 : ∀ wx, Below WD.heap.size WD wx → wx.cell? ⟨gx, 5, none⟩ = some (.int .i64 x.1.sp) := fun wx h => (hX.below (bnext hbd h)).cell 5 _ rfl
    refine rtake 0 rfl (by rfl) (by kernel_rfl) (by kernel_rfl) (by kernel_rfl) (fun _ _ _ h => h) hHeld (fun wx hwx => by go_simp; try with_reducible rfl) ?_
    try simp only [Act.put, List.setIfInBounds_toArray, List.set_cons_zero, List.set_cons_succ]
    refine rtake 1 rfl (by rfl) (by kernel_rfl) (by kernel_rfl) (by kernel_rfl) (fun _ _ _ h => h) hHeld (fun wx hwx => by go_simp; try with_reducible rfl) ?_
    try simp only [Act.put, List.setIfInBounds_toArray, List.set_cons_zero, List.set_cons_succ]
    refine rtake 2 rfl (by rfl) (by kernel_rfl) (by kernel_rfl) (by kernel_rfl) (fun _ _ _ h => h) hHeld (fun wx hwx => by go_simp; try with_reducible rfl) ?_
    try simp only [Act.put, List.setIfInBounds_toArray, List.set_cons_zero, List.set_cons_succ]
    refine rtake 3 rfl (by rfl) (by kernel_rfl) (by kernel_rfl) (by kernel_rfl) (fun _ _ _ h => h) hHeld (fun wx hwx => by go_simp; try with_reducible rfl) ?_
    try simp only [Act.put, List.setIfInBounds_toArray, List.set_cons_zero, List.set_cons_succ]
    refine rtake 4 rfl (by rfl) (by kernel_rfl) (by kernel_rfl) (by kernel_rfl) (fun _ _ _ h => h) hHeld (fun wx hwx => by go_simp; try with_reducible rfl) ?_
    try simp only [Act.put, List.setIfInBounds_toArray, List.set_cons_zero, List.set_cons_succ]
    refine rpass 5 rfl (by rfl) (by kernel_rfl) (by kernel_rfl) (by kernel_rfl) (fun _ _ _ h => h) hHeld ?_
    try simp only [Act.put, List.setIfInBounds_toArray, List.set_cons_zero, List.set_cons_succ]
    refine rpass 6 rfl (by rfl) (by kernel_rfl) (by kernel_rfl) (by kernel_rfl) (fun _ _ _ h => h) hHeld ?_
    try simp only [Act.put, List.setIfInBounds_toArray, List.set_cons_zero, List.set_cons_succ]
    refine rpass 7 rfl (by rfl) (by kernel_rfl) (by kernel_rfl) (by kernel_rfl) (fun _ _ _ h => h) hHeld ?_
    try simp only [Act.put, List.setIfInBounds_toArray, List.set_cons_zero, List.set_cons_succ]
    refine rpass 8 rfl (by rfl) (by kernel_rfl) (by kernel_rfl) (by kernel_rfl) (fun _ _ _ h => h) hHeld ?_
    try simp only [Act.put, List.setIfInBounds_toArray, List.set_cons_zero, List.set_cons_succ]
    refine rpass 9 rfl (by rfl) (by kernel_rfl) (by kernel_rfl) (by kernel_rfl) (fun _ _ _ h => h) hHeld ?_
    try simp only [Act.put, List.setIfInBounds_toArray, List.set_cons_zero, List.set_cons_succ]
    refine rpass 10 rfl (by rfl) (by kernel_rfl) (by kernel_rfl) (by kernel_rfl) (fun _ _ _ h => h) hHeld ?_
    try simp only [Act.put, List.setIfInBounds_toArray, List.set_cons_zero, List.set_cons_succ]
    refine rpass 11 rfl (by rfl) (by kernel_rfl) (by kernel_rfl) (by kernel_rfl) (fun _ _ _ h => h) hHeld ?_
    try simp only [Act.put, List.setIfInBounds_toArray, List.set_cons_zero, List.set_cons_succ]
    refine rpass 12 rfl (by rfl) (by kernel_rfl) (by kernel_rfl) (by kernel_rfl) (fun _ _ _ h => h) hHeld ?_
    try simp only [Act.put, List.setIfInBounds_toArray, List.set_cons_zero, List.set_cons_succ]
    refine rtake 13 rfl (by rfl) (by kernel_rfl) (by kernel_rfl) (by kernel_rfl) (fun _ _ _ h => h) hHeld (fun wx hwx => by go_simp; try with_reducible rfl) ?_
    try simp only [Act.put, List.setIfInBounds_toArray, List.set_cons_zero, List.set_cons_succ]
    refine rtake 14 rfl (by rfl) (by kernel_rfl) (by kernel_rfl) (by kernel_rfl) (fun _ _ _ h => h) hHeld (fun wx hwx => by go_simp; try with_reducible rfl) ?_
    try simp only [Act.put, List.setIfInBounds_toArray, List.set_cons_zero, List.set_cons_succ]
    refine rpass 15 rfl (by rfl) (by kernel_rfl) (by kernel_rfl) (by kernel_rfl) (fun _ _ _ h => h) hHeld ?_
    try simp only [Act.put, List.setIfInBounds_toArray, List.set_cons_zero, List.set_cons_succ]
    refine rpass 16 rfl (by rfl) (by kernel_rfl) (by kernel_rfl) (by kernel_rfl) (fun _ _ _ h => h) hHeld ?_
    try simp only [Act.put, List.setIfInBounds_toArray, List.set_cons_zero, List.set_cons_succ]
    refine rpass 17 rfl (by rfl) (by kernel_rfl) (by kernel_rfl) (by kernel_rfl) (fun _ _ _ h => h) hHeld ?_
    try simp only [Act.put, List.setIfInBounds_toArray, List.set_cons_zero, List.set_cons_succ]
    refine rpass 18 rfl (by rfl) (by kernel_rfl) (by kernel_rfl) (by kernel_rfl) (fun _ _ _ h => h) hHeld ?_
    try simp only [Act.put, List.setIfInBounds_toArray, List.set_cons_zero, List.set_cons_succ]
    refine rpass 19 rfl (by rfl) (by kernel_rfl) (by kernel_rfl) (by kernel_rfl) (fun _ _ _ h => h) hHeld ?_
    try simp only [Act.put, List.setIfInBounds_toArray, List.set_cons_zero, List.set_cons_succ]
    refine rpass 20 rfl (by rfl) (by kernel_rfl) (by kernel_rfl) (by kernel_rfl) (fun _ _ _ h => h) hHeld ?_
    try simp only [Act.put, List.setIfInBounds_toArray, List.set_cons_zero, List.set_cons_succ]
    refine rpass 21 rfl (by rfl) (by kernel_rfl) (by kernel_rfl) (by kernel_rfl) (fun _ _ _ h => h) hHeld ?_
    try simp only [Act.put, List.setIfInBounds_toArray, List.set_cons_zero, List.set_cons_succ]
    refine rpass 22 rfl (by rfl) (by kernel_rfl) (by kernel_rfl) (by kernel_rfl) (fun _ _ _ h => h) hHeld ?_
    try simp only [Act.put, List.setIfInBounds_toArray, List.set_cons_zero, List.set_cons_succ]
    refine rtake 23 rfl (by rfl) (by kernel_rfl) (by kernel_rfl) (by kernel_rfl) (fun _ _ _ h => h) hHeld (fun wx hwx => by go_simp; try with_reducible rfl) ?_
    try simp only [Act.put, List.setIfInBounds_toArray, List.set_cons_zero, List.set_cons_succ]
    obtain ⟨e1, e2, e3⟩ := (foll_none hty (m := msOf q) (by simp [msOf, hfl]))
    refine wpAnyH_done (by kernel_rfl) ?_ _
    replace hB := hB.below hbd
    replace hX := hX.below hbd
    replace ho := ho.next hbd
    clear hHeld hbd cF cS cC cP x6 x4 x5
    go_upto_region 8 with (first | (guard_target =~ wpList _ _ _ (⟨some 54, _, _, _, _, _⟩ :: _) _ _; refine msT.load (op := ⟨some 54, .load _ _, _, _, _, _⟩) (by rfl) _ (by rfl) gx 0 (by rfl) (x) hX.rangeK ?_) | (guard_target =~ wpList _ _ _ (⟨none, _, _, _, _, _⟩ :: _) _ _; refine msT.store_mid (op := ⟨none, .store _ _ _, _, _, _, _⟩) (by rfl) _ _ (by rfl) g 23 x _ _ (by rfl) (by rfl) hB (by rw [mmK.len]; decide) ?_))
    have hB1 := Box.mid (msK.enc x) (msK.enc q.f) (msK.enc q.s) [.int .i64 q.ta, .bool q.hs, .bool q.hf] WD rfl hB
    replace hX := Box.cells_other (Ne.symm hne) (msK.enc x) 23 WD hX
    replace ho := Only.cells (msK.enc x) 23 WD ho
    change Code.wp Try.prog _ _ _ (WD.setCells g 23 (msK.enc x))
    replace hB1 : Box (WD.setCells g 23 (msK.enc x)) g (mmK.enc { q with f := x }) 36 := hB1
    generalize WD.setCells g 23 (msK.enc x) = W2 at *
    have c48 := hB1.cell 48 _ rfl
    have f48 := hB1.free 48
    have hB2 : Box (W2.setCell ⟨g, 48, none⟩ (.bool true)) g (mmK.enc { q with f := x, hf := true }) 36 := hB1.set 48 (.bool true)
    have ho2 := ho.cell 48 (.bool true)
    go_wp2_with fail
    go_ret2
    exact ⟨by first | (rw [e2, e3]; rfl) | rfl, ⟨_, hB2, _, rfl, by first | exact e1.trans (by simp [msOf]) | simp [msOf], hqs, hx⟩, ho2⟩
  · skip
    by_cases h6 : q.s.1.sq = x.1.sq
    case neg =>
      have hm : matchB q.s x = false := by simp [matchB, h6]
      have n6 : (q.s.1.sq == x.1.sq) = false := beq_false_of_ne h6
      go_upto_region 3 with fail
      clear x0
      refine wp_region_held_drew (S := fun w' => Below W.drew.heap.size W.drew w') (by kernel_rfl) (Below.refl _ _) ?_
      intro hHeld
      have hbd := Below.drew (Below.refl W.heap.size W)
      generalize W.drew = WD at *
      have cF : ∀ wx, Below WD.heap.size WD wx → wx.cell? ⟨g, 47, none⟩ = some (.bool true) := fun wx h => (hB.below (bnext hbd h)).cell 47 _ (by first | rfl | (rw [← hfl]; rfl))
      have cS : ∀ wx, Below WD.heap.size WD wx → wx.cell? ⟨g, 6, none⟩ = some (.int .i64 q.s.1.sq) := fun wx h => (hB.below (bnext hbd h)).cell 6 _ rfl
      have cC : ∀ wx, Below WD.heap.size WD wx → wx.cell? ⟨g, 4, none⟩ = some (.int .u64 q.s.1.sc) := fun wx h => (hB.below (bnext hbd h)).cell 4 _ rfl
      have cP : ∀ wx, Below WD.heap.size WD wx → wx.cell? ⟨g, 5, none⟩ = some (.int .i64 q.s.1.sp) := fun wx h => (hB.below (bnext hbd h)).cell 5 _ rfl
      have x6 : ∀ wx, Below WD.heap.size WD wx → wx.cell? ⟨gx, 6, none⟩ = some (.int .i64 x.1.sq) := fun wx h => (hX.below (bnext hbd h)).cell 6 _ rfl
      have x4 : ∀ wx, Below WD.heap.size WD wx → wx.cell? ⟨gx, 4, none⟩ = some (.int .u64 x.1.sc) := fun wx h => (hX.below (bnext hbd h)).cell 4 _ rfl
      have x5 : ∀ wx, Below WD.heap.size WD wx → wx.cell? ⟨gx, 5, none⟩ = some (.int .i64 x.1.sp) := fun wx h => (hX.below (bnext hbd h)).cell 5 _ rfl
      refine rtake 0 rfl (by rfl) (by kernel_rfl) (by kernel_rfl) (by kernel_rfl) (fun _ _ _ h => h) hHeld (fun wx hwx => by go_simp; try with_reducible rfl) ?_
      try simp only [Act.put, List.setIfInBounds_toArray, List.set_cons_zero, List.set_cons_succ]
      refine rtake 1 rfl (by rfl) (by kernel_rfl) (by kernel_rfl) (by kernel_rfl) (fun _ _ _ h => h) hHeld (fun wx hwx => by go_simp; try with_reducible rfl) ?_
      try simp only [Act.put, List.setIfInBounds_toArray, List.set_cons_zero, List.set_cons_succ]
      refine rtake 2 rfl (by rfl) (by kernel_rfl) (by kernel_rfl) (by kernel_rfl) (fun _ _ _ h => h) hHeld (fun wx hwx => by go_simp; try with_reducible rfl) ?_
      try simp only [Act.put, List.setIfInBounds_toArray, List.set_cons_zero, List.set_cons_succ]
      refine rtake 3 rfl (by rfl) (by kernel_rfl) (by kernel_rfl) (by kernel_rfl) (fun _ _ _ h => h) hHeld (fun wx hwx => by go_simp; try with_reducible rfl) ?_
      try simp only [Act.put, List.setIfInBounds_toArray, List.set_cons_zero, List.set_cons_succ]
      refine rtake 4 rfl (by rfl) (by kernel_rfl) (by kernel_rfl) (by kernel_rfl) (fun _ _ _ h => h) hHeld (fun wx hwx => by go_simp; try with_reducible rfl) ?_
      try simp only [Act.put, List.setIfInBounds_toArray, List.set_cons_zero, List.set_cons_succ]
      refine rtake 5 rfl (by rfl) (by kernel_rfl) (by kernel_rfl) (by kernel_rfl) (fun _ _ _ h => h) hHeld (fun wx hwx => by go_simp; try with_reducible rfl) ?_
      try simp only [Act.put, List.setIfInBounds_toArray, List.set_cons_zero, List.set_cons_succ]
      refine rtake 6 rfl (by rfl) (by kernel_rfl) (by kernel_rfl) (by kernel_rfl) (fun _ _ _ h => h) hHeld (fun wx hwx => by go_simp; try with_reducible rfl) ?_
      try simp only [Act.put, List.setIfInBounds_toArray, List.set_cons_zero, List.set_cons_succ]
      refine rtake 7 rfl (by rfl) (by kernel_rfl) (by kernel_rfl) (by kernel_rfl) (fun _ _ _ h => h) hHeld (fun wx hwx => by go_simp; try with_reducible rfl) ?_
      try simp only [Act.put, List.setIfInBounds_toArray, List.set_cons_zero, List.set_cons_succ]
      refine rtake 8 rfl (by rfl) (by kernel_rfl) (by kernel_rfl) (by kernel_rfl) (fun _ _ _ h => h) hHeld (fun wx hwx => by go_simp; try with_reducible rfl) ?_
      try simp only [Act.put, List.setIfInBounds_toArray, List.set_cons_zero, List.set_cons_succ]
      refine rtake 9 rfl (by rfl) (by kernel_rfl) (by kernel_rfl) (by kernel_rfl) (fun _ _ _ h => h) hHeld (fun wx hwx => by go_simp; try with_reducible rfl) ?_
      try simp only [Act.put, List.setIfInBounds_toArray, List.set_cons_zero, List.set_cons_succ]
      refine rtake 10 rfl (by rfl) (by kernel_rfl) (by kernel_rfl) (by kernel_rfl) (fun _ _ _ h => h) hHeld (fun wx hwx => by go_simp; try with_reducible rfl) ?_
      try simp only [Act.put, List.setIfInBounds_toArray, List.set_cons_zero, List.set_cons_succ]
      refine rtake 11 rfl (by rfl) (by kernel_rfl) (by kernel_rfl) (by kernel_rfl) (fun _ _ _ h => h) hHeld (fun wx hwx => by go_simp; try with_reducible rfl) ?_
      try simp only [Act.put, List.setIfInBounds_toArray, List.set_cons_zero, List.set_cons_succ]
      refine rtake 12 rfl (by rfl) (by kernel_rfl) (by kernel_rfl) (by kernel_rfl) (fun _ _ _ h => h) hHeld (fun wx hwx => by go_simp; try with_reducible rfl) ?_
      try simp only [Act.put, List.setIfInBounds_toArray, List.set_cons_zero, List.set_cons_succ]
      refine rtake 13 rfl (by rfl) (by kernel_rfl) (by kernel_rfl) (by kernel_rfl) (fun _ _ _ h => h) hHeld (fun wx hwx => by go_simp; try with_reducible rfl) ?_
      try simp only [Act.put, List.setIfInBounds_toArray, List.set_cons_zero, List.set_cons_succ]
      refine rtake 14 rfl (by rfl) (by kernel_rfl) (by kernel_rfl) (by kernel_rfl) (fun _ _ _ h => h) hHeld (fun wx hwx => by go_simp; try with_reducible rfl) ?_
      try simp only [Act.put, List.setIfInBounds_toArray, List.set_cons_zero, List.set_cons_succ]
      refine rpass 15 rfl (by rfl) (by kernel_rfl) (by kernel_rfl) (by kernel_rfl) (fun _ _ _ h => h) hHeld ?_
      try simp only [Act.put, List.setIfInBounds_toArray, List.set_cons_zero, List.set_cons_succ]
      refine rpass 16 rfl (by rfl) (by kernel_rfl) (by kernel_rfl) (by kernel_rfl) (fun _ _ _ h => h) hHeld ?_
      try simp only [Act.put, List.setIfInBounds_toArray, List.set_cons_zero, List.set_cons_succ]
      refine rpass 17 rfl (by rfl) (by kernel_rfl) (by kernel_rfl) (by kernel_rfl) (fun _ _ _ h => h) hHeld ?_
      try simp only [Act.put, List.setIfInBounds_toArray, List.set_cons_zero, List.set_cons_succ]
      refine rpass 18 rfl (by rfl) (by kernel_rfl) (by kernel_rfl) (by kernel_rfl) (fun _ _ _ h => h) hHeld ?_
      try simp only [Act.put, List.setIfInBounds_toArray, List.set_cons_zero, List.set_cons_succ]
      refine rpass 19 rfl (by rfl) (by kernel_rfl) (by kernel_rfl) (by kernel_rfl) (fun _ _ _ h => h) hHeld ?_
      try simp only [Act.put, List.setIfInBounds_toArray, List.set_cons_zero, List.set_cons_succ]
      refine rpass 20 rfl (by rfl) (by kernel_rfl) (by kernel_rfl) (by kernel_rfl) (fun _ _ _ h => h) hHeld ?_
      try simp only [Act.put, List.setIfInBounds_toArray, List.set_cons_zero, List.set_cons_succ]
      refine rpass 21 rfl (by rfl) (by kernel_rfl) (by kernel_rfl) (by kernel_rfl) (fun _ _ _ h => h) hHeld ?_
      try simp only [Act.put, List.setIfInBounds_toArray, List.set_cons_zero, List.set_cons_succ]
      refine rpass 22 rfl (by rfl) (by kernel_rfl) (by kernel_rfl) (by kernel_rfl) (fun _ _ _ h => h) hHeld ?_
      try simp only [Act.put, List.setIfInBounds_toArray, List.set_cons_zero, List.set_cons_succ]
      refine rtake 23 rfl (by rfl) (by kernel_rfl) (by kernel_rfl) (by kernel_rfl) (fun _ _ _ h => h) hHeld (fun wx hwx => by go_simp; try with_reducible rfl) ?_
      try simp only [Act.put, List.setIfInBounds_toArray, List.set_cons_zero, List.set_cons_succ]
      obtain ⟨e1, e2, e3⟩ := (foll_miss (y := q.s) (t := q.ta) hty (m := msOf q) (by simp [msOf, hfl]) hm)
      refine wpAnyH_done (by kernel_rfl) ?_ _
      replace hB := hB.below hbd
      replace hX := hX.below hbd
      replace ho := ho.next hbd
      clear hHeld hbd cF cS cC cP x6 x4 x5
      go_upto_region 8 with (first | (guard_target =~ wpList _ _ _ (⟨some 54, _, _, _, _, _⟩ :: _) _ _; refine msT.load (op := ⟨some 54, .load _ _, _, _, _, _⟩) (by rfl) _ (by rfl) gx 0 (by rfl) (x) hX.rangeK ?_) | (guard_target =~ wpList _ _ _ (⟨none, _, _, _, _, _⟩ :: _) _ _; refine msT.store_mid (op := ⟨none, .store _ _ _, _, _, _, _⟩) (by rfl) _ _ (by rfl) g 23 x _ _ (by rfl) (by rfl) hB (by rw [mmK.len]; decide) ?_))
      have hB1 := Box.mid (msK.enc x) (msK.enc q.f) (msK.enc q.s) [.int .i64 q.ta, .bool q.hs, .bool q.hf] WD rfl hB
      replace hX := Box.cells_other (Ne.symm hne) (msK.enc x) 23 WD hX
      replace ho := Only.cells (msK.enc x) 23 WD ho
      change Code.wp Try.prog _ _ _ (WD.setCells g 23 (msK.enc x))
      replace hB1 : Box (WD.setCells g 23 (msK.enc x)) g (mmK.enc { q with f := x }) 36 := hB1
      generalize WD.setCells g 23 (msK.enc x) = W2 at *
      have c48 := hB1.cell 48 _ rfl
      have f48 := hB1.free 48
      have hB2 : Box (W2.setCell ⟨g, 48, none⟩ (.bool true)) g (mmK.enc { q with f := x, hf := true }) 36 := hB1.set 48 (.bool true)
      have ho2 := ho.cell 48 (.bool true)
      go_wp2_with fail
      go_ret2
      exact ⟨by first | (rw [e2, e3]; rfl) | rfl, ⟨_, hB2, _, rfl, by first | exact e1.trans (by simp [msOf]) | simp [msOf], hqs, hx⟩, ho2⟩
    by_cases h4 : q.s.1.sc = x.1.sc
    case neg =>
      have hm : matchB q.s x = false := by simp [matchB, h4]
      have n4 : (q.s.1.sc == x.1.sc) = false := beq_false_of_ne h4
      go_upto_region 3 with fail
      clear x0
      refine wp_region_held_drew (S := fun w' => Below W.drew.heap.size W.drew w') (by kernel_rfl) (Below.refl _ _) ?_
      intro hHeld
      have hbd := Below.drew (Below.refl W.heap.size W)
      generalize W.drew = WD at *
      have cF : ∀ wx, Below WD.heap.size WD wx → wx.cell? ⟨g, 47, none⟩ = some (.bool true) := fun wx h => (hB.below (bnext hbd h)).cell 47 _ (by first | rfl | (rw [← hfl]; rfl))
      have cS : ∀ wx, Below WD.heap.size WD wx → wx.cell? ⟨g, 6, none⟩ = some (.int .i64 q.s.1.sq) := fun wx h => (hB.below (bnext hbd h)).cell 6 _ rfl
      have cC : ∀ wx, Below WD.heap.size WD wx → wx.cell? ⟨g, 4, none⟩ = some (.int .u64 q.s.1.sc) := fun wx h => (hB.below (bnext hbd h)).cell 4 _ rfl
      have cP : ∀ wx, Below WD.heap.size WD wx → wx.cell? ⟨g, 5, none⟩ = some (.int .i64 q.s.1.sp) := fun wx h => (hB.below (bnext hbd h)).cell 5 _ rfl
      have x6 : ∀ wx, Below WD.heap.size WD wx → wx.cell? ⟨gx, 6, none⟩ = some (.int .i64 x.1.sq) := fun wx h => (hX.below (bnext hbd h)).cell 6 _ rfl
      have x4 : ∀ wx, Below WD.heap.size WD wx → wx.cell? ⟨gx, 4, none⟩ = some (.int .u64 x.1.sc) := fun wx h => (hX.below (bnext hbd h)).cell 4 _ rfl
      have x5 : ∀ wx, Below WD.heap.size WD wx → wx.cell? ⟨gx, 5, none⟩ = some (.int .i64 x.1.sp) := fun wx h => (hX.below (bnext hbd h)).cell 5 _ rfl
      rw [h6] at cS
      refine rtake 0 rfl (by rfl) (by kernel_rfl) (by kernel_rfl) (by kernel_rfl) (fun _ _ _ h => h) hHeld (fun wx hwx => by go_simp; try with_reducible rfl) ?_
      try simp only [Act.put, List.setIfInBounds_toArray, List.set_cons_zero, List.set_cons_succ]
      refine rtake 1 rfl (by rfl) (by kernel_rfl) (by kernel_rfl) (by kernel_rfl) (fun _ _ _ h => h) hHeld (fun wx hwx => by go_simp; try with_reducible rfl) ?_
      try simp only [Act.put, List.setIfInBounds_toArray, List.set_cons_zero, List.set_cons_succ]
      refine rtake 2 rfl (by rfl) (by kernel_rfl) (by kernel_rfl) (by kernel_rfl) (fun _ _ _ h => h) hHeld (fun wx hwx => by go_simp; try with_reducible rfl) ?_
      try simp only [Act.put, List.setIfInBounds_toArray, List.set_cons_zero, List.set_cons_succ]
      refine rtake 3 rfl (by rfl) (by kernel_rfl) (by kernel_rfl) (by kernel_rfl) (fun _ _ _ h => h) hHeld (fun wx hwx => by go_simp; try with_reducible rfl) ?_
      try simp only [Act.put, List.setIfInBounds_toArray, List.set_cons_zero, List.set_cons_succ]
      refine rtake 4 rfl (by rfl) (by kernel_rfl) (by kernel_rfl) (by kernel_rfl) (fun _ _ _ h => h) hHeld (fun wx hwx => by go_simp; try with_reducible rfl) ?_
      try simp only [Act.put, List.setIfInBounds_toArray, List.set_cons_zero, List.set_cons_succ]
      refine rtake 5 rfl (by rfl) (by kernel_rfl) (by kernel_rfl) (by kernel_rfl) (fun _ _ _ h => h) hHeld (fun wx hwx => by go_simp; try with_reducible rfl) ?_
      try simp only [Act.put, List.setIfInBounds_toArray, List.set_cons_zero, List.set_cons_succ]
      refine rtake 6 rfl (by rfl) (by kernel_rfl) (by kernel_rfl) (by kernel_rfl) (fun _ _ _ h => h) hHeld (fun wx hwx => by go_simp; try with_reducible rfl) ?_
      try simp only [Act.put, List.setIfInBounds_toArray, List.set_cons_zero, List.set_cons_succ]
      refine rtake 7 rfl (by rfl) (by kernel_rfl) (by kernel_rfl) (by kernel_rfl) (fun _ _ _ h => h) hHeld (fun wx hwx => by go_simp; try with_reducible rfl) ?_
      try simp only [Act.put, List.setIfInBounds_toArray, List.set_cons_zero, List.set_cons_succ]
      refine rtake 8 rfl (by rfl) (by kernel_rfl) (by kernel_rfl) (by kernel_rfl) (fun _ _ _ h => h) hHeld (fun wx hwx => by go_simp; try with_reducible rfl) ?_
      try simp only [Act.put, List.setIfInBounds_toArray, List.set_cons_zero, List.set_cons_succ]
      refine rtake 9 rfl (by rfl) (by kernel_rfl) (by kernel_rfl) (by kernel_rfl) (fun _ _ _ h => h) hHeld (fun wx hwx => by go_simp; try with_reducible rfl) ?_
      try simp only [Act.put, List.setIfInBounds_toArray, List.set_cons_zero, List.set_cons_succ]
      refine rtake 10 rfl (by rfl) (by kernel_rfl) (by kernel_rfl) (by kernel_rfl) (fun _ _ _ h => h) hHeld (fun wx hwx => by go_simp; try with_reducible rfl) ?_
      try simp only [Act.put, List.setIfInBounds_toArray, List.set_cons_zero, List.set_cons_succ]
      refine rtake 11 rfl (by rfl) (by kernel_rfl) (by kernel_rfl) (by kernel_rfl) (fun _ _ _ h => h) hHeld (fun wx hwx => by go_simp; try with_reducible rfl) ?_
      try simp only [Act.put, List.setIfInBounds_toArray, List.set_cons_zero, List.set_cons_succ]
      refine rtake 12 rfl (by rfl) (by kernel_rfl) (by kernel_rfl) (by kernel_rfl) (fun _ _ _ h => h) hHeld (fun wx hwx => by go_simp; try with_reducible rfl) ?_
      try simp only [Act.put, List.setIfInBounds_toArray, List.set_cons_zero, List.set_cons_succ]
      refine rtake 13 rfl (by rfl) (by kernel_rfl) (by kernel_rfl) (by kernel_rfl) (fun _ _ _ h => h) hHeld (fun wx hwx => by go_simp; try with_reducible rfl) ?_
      try simp only [Act.put, List.setIfInBounds_toArray, List.set_cons_zero, List.set_cons_succ]
      refine rtake 14 rfl (by rfl) (by kernel_rfl) (by kernel_rfl) (by kernel_rfl) (fun _ _ _ h => h) hHeld (fun wx hwx => by go_simp; try with_reducible rfl) ?_
      try simp only [Act.put, List.setIfInBounds_toArray, List.set_cons_zero, List.set_cons_succ]
      refine rtake 15 rfl (by rfl) (by kernel_rfl) (by kernel_rfl) (by kernel_rfl) (fun _ _ _ h => h) hHeld (fun wx hwx => by go_simp; try with_reducible rfl) ?_
      try simp only [Act.put, List.setIfInBounds_toArray, List.set_cons_zero, List.set_cons_succ]
      refine rtake 16 rfl (by rfl) (by kernel_rfl) (by kernel_rfl) (by kernel_rfl) (fun _ _ _ h => h) hHeld (fun wx hwx => by go_simp; try with_reducible rfl) ?_
      try simp only [Act.put, List.setIfInBounds_toArray, List.set_cons_zero, List.set_cons_succ]
      refine rtake 17 rfl (by rfl) (by kernel_rfl) (by kernel_rfl) (by kernel_rfl) (fun _ _ _ h => h) hHeld (fun wx hwx => by go_simp; try with_reducible rfl) ?_
      try simp only [Act.put, List.setIfInBounds_toArray, List.set_cons_zero, List.set_cons_succ]
      refine rtake 18 rfl (by rfl) (by kernel_rfl) (by kernel_rfl) (by kernel_rfl) (fun _ _ _ h => h) hHeld (fun wx hwx => by go_simp; try with_reducible rfl) ?_
      try simp only [Act.put, List.setIfInBounds_toArray, List.set_cons_zero, List.set_cons_succ]
      refine rtake 19 rfl (by rfl) (by kernel_rfl) (by kernel_rfl) (by kernel_rfl) (fun _ _ _ h => h) hHeld (fun wx hwx => by go_simp; try with_reducible rfl) ?_
      try simp only [Act.put, List.setIfInBounds_toArray, List.set_cons_zero, List.set_cons_succ]
      refine rtake 20 rfl (by rfl) (by kernel_rfl) (by kernel_rfl) (by kernel_rfl) (fun _ _ _ h => h) hHeld (fun wx hwx => by go_simp; try with_reducible rfl) ?_
      try simp only [Act.put, List.setIfInBounds_toArray, List.set_cons_zero, List.set_cons_succ]
      refine rtake 21 rfl (by rfl) (by kernel_rfl) (by kernel_rfl) (by kernel_rfl) (fun _ _ _ h => h) hHeld (fun wx hwx => by go_simp; try with_reducible rfl) ?_
      try simp only [Act.put, List.setIfInBounds_toArray, List.set_cons_zero, List.set_cons_succ]
      refine rtake 22 rfl (by rfl) (by kernel_rfl) (by kernel_rfl) (by kernel_rfl) (fun _ _ _ h => h) hHeld (fun wx hwx => by go_simp; try with_reducible rfl) ?_
      try simp only [Act.put, List.setIfInBounds_toArray, List.set_cons_zero, List.set_cons_succ]
      refine rtake 23 rfl (by rfl) (by kernel_rfl) (by kernel_rfl) (by kernel_rfl) (fun _ _ _ h => h) hHeld (fun wx hwx => by go_simp; try with_reducible rfl) ?_
      try simp only [Act.put, List.setIfInBounds_toArray, List.set_cons_zero, List.set_cons_succ]
      obtain ⟨e1, e2, e3⟩ := (foll_miss (y := q.s) (t := q.ta) hty (m := msOf q) (by simp [msOf, hfl]) hm)
      refine wpAnyH_done (by kernel_rfl) ?_ _
      replace hB := hB.below hbd
      replace hX := hX.below hbd
      replace ho := ho.next hbd
      clear hHeld hbd cF cS cC cP x6 x4 x5
      go_upto_region 8 with (first | (guard_target =~ wpList _ _ _ (⟨some 54, _, _, _, _, _⟩ :: _) _ _; refine msT.load (op := ⟨some 54, .load _ _, _, _, _, _⟩) (by rfl) _ (by rfl) gx 0 (by rfl) (x) hX.rangeK ?_) | (guard_target =~ wpList _ _ _ (⟨none, _, _, _, _, _⟩ :: _) _ _; refine msT.store_mid (op := ⟨none, .store _ _ _, _, _, _, _⟩) (by rfl) _ _ (by rfl) g 23 x _ _ (by rfl) (by rfl) hB (by rw [mmK.len]; decide) ?_))
      have hB1 := Box.mid (msK.enc x) (msK.enc q.f) (msK.enc q.s) [.int .i64 q.ta, .bool q.hs, .bool q.hf] WD rfl hB
      replace hX := Box.cells_other (Ne.symm hne) (msK.enc x) 23 WD hX
      replace ho := Only.cells (msK.enc x) 23 WD ho
      change Code.wp Try.prog _ _ _ (WD.setCells g 23 (msK.enc x))
      replace hB1 : Box (WD.setCells g 23 (msK.enc x)) g (mmK.enc { q with f := x }) 36 := hB1
      generalize WD.setCells g 23 (msK.enc x) = W2 at *
      have c48 := hB1.cell 48 _ rfl
      have f48 := hB1.free 48
      have hB2 : Box (W2.setCell ⟨g, 48, none⟩ (.bool true)) g (mmK.enc { q with f := x, hf := true }) 36 := hB1.set 48 (.bool true)
      have ho2 := ho.cell 48 (.bool true)
      go_wp2_with fail
      go_ret2
      exact ⟨by first | (rw [e2, e3]; rfl) | rfl, ⟨_, hB2, _, rfl, by first | exact e1.trans (by simp [msOf]) | simp [msOf], hqs, hx⟩, ho2⟩
    by_cases h5 : q.s.1.sp = x.1.sp
    case neg =>
      have hm : matchB q.s x = false := by simp [matchB, h5]
      have n5 : (q.s.1.sp == x.1.sp) = false := beq_false_of_ne h5
      go_upto_region 3 with fail
      clear x0
      refine wp_region_held_drew (S := fun w' => Below W.drew.heap.size W.drew w') (by kernel_rfl) (Below.refl _ _) ?_
      intro hHeld
      have hbd := Below.drew (Below.refl W.heap.size W)
      generalize W.drew = WD at *
      have cF : ∀ wx, Below WD.heap.size WD wx → wx.cell? ⟨g, 47, none⟩ = some (.bool true) := fun wx h => (hB.below (bnext hbd h)).cell 47 _ (by first | rfl | (rw [← hfl]; rfl))
      have cS : ∀ wx, Below WD.heap.size WD wx → wx.cell? ⟨g, 6, none⟩ = some (.int .i64 q.s.1.sq) := fun wx h => (hB.below (bnext hbd h)).cell 6 _ rfl
      have cC : ∀ wx, Below WD.heap.size WD wx → wx.cell? ⟨g, 4, none⟩ = some (.int .u64 q.s.1.sc) := fun wx h => (hB.below (bnext hbd h)).cell 4 _ rfl
      have cP : ∀ wx, Below WD.heap.size WD wx → wx.cell? ⟨g, 5, none⟩ = some (.int .i64 q.s.1.sp) := fun wx h => (hB.below (bnext hbd h)).cell 5 _ rfl
      have x6 : ∀ wx, Below WD.heap.size WD wx → wx.cell? ⟨gx, 6, none⟩ = some (.int .i64 x.1.sq) := fun wx h => (hX.below (bnext hbd h)).cell 6 _ rfl
      have x4 : ∀ wx, Below WD.heap.size WD wx → wx.cell? ⟨gx, 4, none⟩ = some (.int .u64 x.1.sc) := fun wx h => (hX.below (bnext hbd h)).cell 4 _ rfl
      have x5 : ∀ wx, Below WD.heap.size WD wx → wx.cell? ⟨gx, 5, none⟩ = some (.int .i64 x.1.sp) := fun wx h => (hX.below (bnext hbd h)).cell 5 _ rfl
      rw [h6] at cS
      rw [h4] at cC
      refine rtake 0 rfl (by rfl) (by kernel_rfl) (by kernel_rfl) (by kernel_rfl) (fun _ _ _ h => h) hHeld (fun wx hwx => by go_simp; try with_reducible rfl) ?_
      try simp only [Act.put, List.setIfInBounds_toArray, List.set_cons_zero, List.set_cons_succ]
      refine rtake 1 rfl (by rfl) (by kernel_rfl) (by kernel_rfl) (by kernel_rfl) (fun _ _ _ h => h) hHeld (fun wx hwx => by go_simp; try with_reducible rfl) ?_
      try simp only [Act.put, List.setIfInBounds_toArray, List.set_cons_zero, List.set_cons_succ]
      refine rtake 2 rfl (by rfl) (by kernel_rfl) (by kernel_rfl) (by kernel_rfl) (fun _ _ _ h => h) hHeld (fun wx hwx => by go_simp; try with_reducible rfl) ?_
      try simp only [Act.put, List.setIfInBounds_toArray, List.set_cons_zero, List.set_cons_succ]
      refine rtake 3 rfl (by rfl) (by kernel_rfl) (by kernel_rfl) (by kernel_rfl) (fun _ _ _ h => h) hHeld (fun wx hwx => by go_simp; try with_reducible rfl) ?_
      try simp only [Act.put, List.setIfInBounds_toArray, List.set_cons_zero, List.set_cons_succ]
      refine rtake 4 rfl (by rfl) (by kernel_rfl) (by kernel_rfl) (by kernel_rfl) (fun _ _ _ h => h) hHeld (fun wx hwx => by go_simp; try with_reducible rfl) ?_
      try simp only [Act.put, List.setIfInBounds_toArray, List.set_cons_zero, List.set_cons_succ]
      refine rtake 5 rfl (by rfl) (by kernel_rfl) (by kernel_rfl) (by kernel_rfl) (fun _ _ _ h => h) hHeld (fun wx hwx => by go_simp; try with_reducible rfl) ?_
      try simp only [Act.put, List.setIfInBounds_toArray, List.set_cons_zero, List.set_cons_succ]
      refine rtake 6 rfl (by rfl) (by kernel_rfl) (by kernel_rfl) (by kernel_rfl) (fun _ _ _ h => h) hHeld (fun wx hwx => by go_simp; try with_reducible rfl) ?_
      try simp only [Act.put, List.setIfInBounds_toArray, List.set_cons_zero, List.set_cons_succ]
      refine rtake 7 rfl (by rfl) (by kernel_rfl) (by kernel_rfl) (by kernel_rfl) (fun _ _ _ h => h) hHeld (fun wx hwx => by go_simp; try with_reducible rfl) ?_
      try simp only [Act.put, List.setIfInBounds_toArray, List.set_cons_zero, List.set_cons_succ]
      refine rtake 8 rfl (by rfl) (by kernel_rfl) (by kernel_rfl) (by kernel_rfl) (fun _ _ _ h => h) hHeld (fun wx hwx => by go_simp; try with_reducible rfl) ?_
      try simp only [Act.put, List.setIfInBounds_toArray, List.set_cons_zero, List.set_cons_succ]
      refine rtake 9 rfl (by rfl) (by kernel_rfl) (by kernel_rfl) (by kernel_rfl) (fun _ _ _ h => h) hHeld (fun wx hwx => by go_simp; try with_reducible rfl) ?_
      try simp only [Act.put, List.setIfInBounds_toArray, List.set_cons_zero, List.set_cons_succ]
      refine rtake 10 rfl (by rfl) (by kernel_rfl) (by kernel_rfl) (by kernel_rfl) (fun _ _ _ h => h) hHeld (fun wx hwx => by go_simp; try with_reducible rfl) ?_
      try simp only [Act.put, List.setIfInBounds_toArray, List.set_cons_zero, List.set_cons_succ]
      refine rtake 11 rfl (by rfl) (by kernel_rfl) (by kernel_rfl) (by kernel_rfl) (fun _ _ _ h => h) hHeld (fun wx hwx => by go_simp; try with_reducible rfl) ?_
      try simp only [Act.put, List.setIfInBounds_toArray, List.set_cons_zero, List.set_cons_succ]
      refine rtake 12 rfl (by rfl) (by kernel_rfl) (by kernel_rfl) (by kernel_rfl) (fun _ _ _ h => h) hHeld (fun wx hwx => by go_simp; try with_reducible rfl) ?_
      try simp only [Act.put, List.setIfInBounds_toArray, List.set_cons_zero, List.set_cons_succ]
      refine rtake 13 rfl (by rfl) (by kernel_rfl) (by kernel_rfl) (by kernel_rfl) (fun _ _ _ h => h) hHeld (fun wx hwx => by go_simp; try with_reducible rfl) ?_
      try simp only [Act.put, List.setIfInBounds_toArray, List.set_cons_zero, List.set_cons_succ]
      refine rtake 14 rfl (by rfl) (by kernel_rfl) (by kernel_rfl) (by kernel_rfl) (fun _ _ _ h => h) hHeld (fun wx hwx => by go_simp; try with_reducible rfl) ?_
      try simp only [Act.put, List.setIfInBounds_toArray, List.set_cons_zero, List.set_cons_succ]
      refine rtake 15 rfl (by rfl) (by kernel_rfl) (by kernel_rfl) (by kernel_rfl) (fun _ _ _ h => h) hHeld (fun wx hwx => by go_simp; try with_reducible rfl) ?_
      try simp only [Act.put, List.setIfInBounds_toArray, List.set_cons_zero, List.set_cons_succ]
      refine rtake 16 rfl (by rfl) (by kernel_rfl) (by kernel_rfl) (by kernel_rfl) (fun _ _ _ h => h) hHeld (fun wx hwx => by go_simp; try with_reducible rfl) ?_
      try simp only [Act.put, List.setIfInBounds_toArray, List.set_cons_zero, List.set_cons_succ]
      refine rtake 17 rfl (by rfl) (by kernel_rfl) (by kernel_rfl) (by kernel_rfl) (fun _ _ _ h => h) hHeld (fun wx hwx => by go_simp; try with_reducible rfl) ?_
      try simp only [Act.put, List.setIfInBounds_toArray, List.set_cons_zero, List.set_cons_succ]
      refine rtake 18 rfl (by rfl) (by kernel_rfl) (by kernel_rfl) (by kernel_rfl) (fun _ _ _ h => h) hHeld (fun wx hwx => by go_simp; try with_reducible rfl) ?_
      try simp only [Act.put, List.setIfInBounds_toArray, List.set_cons_zero, List.set_cons_succ]
      refine rtake 19 rfl (by rfl) (by kernel_rfl) (by kernel_rfl) (by kernel_rfl) (fun _ _ _ h => h) hHeld (fun wx hwx => by go_simp; try with_reducible rfl) ?_
      try simp only [Act.put, List.setIfInBounds_toArray, List.set_cons_zero, List.set_cons_succ]
      refine rtake 20 rfl (by rfl) (by kernel_rfl) (by kernel_rfl) (by kernel_rfl) (fun _ _ _ h => h) hHeld (fun wx hwx => by go_simp; try with_reducible rfl) ?_
      try simp only [Act.put, List.setIfInBounds_toArray, List.set_cons_zero, List.set_cons_succ]
      refine rtake 21 rfl (by rfl) (by kernel_rfl) (by kernel_rfl) (by kernel_rfl) (fun _ _ _ h => h) hHeld (fun wx hwx => by go_simp; try with_reducible rfl) ?_
      try simp only [Act.put, List.setIfInBounds_toArray, List.set_cons_zero, List.set_cons_succ]
      refine rtake 22 rfl (by rfl) (by kernel_rfl) (by kernel_rfl) (by kernel_rfl) (fun _ _ _ h => h) hHeld (fun wx hwx => by go_simp; try with_reducible rfl) ?_
      try simp only [Act.put, List.setIfInBounds_toArray, List.set_cons_zero, List.set_cons_succ]
      refine rtake 23 rfl (by rfl) (by kernel_rfl) (by kernel_rfl) (by kernel_rfl) (fun _ _ _ h => h) hHeld (fun wx hwx => by go_simp; try with_reducible rfl) ?_
      try simp only [Act.put, List.setIfInBounds_toArray, List.set_cons_zero, List.set_cons_succ]
      obtain ⟨e1, e2, e3⟩ := (foll_miss (y := q.s) (t := q.ta) hty (m := msOf q) (by simp [msOf, hfl]) hm)
      refine wpAnyH_done (by kernel_rfl) ?_ _
      replace hB := hB.below hbd
      replace hX := hX.below hbd
      replace ho := ho.next hbd
      clear hHeld hbd cF cS cC cP x6 x4 x5
      go_upto_region 8 with (first | (guard_target =~ wpList _ _ _ (⟨some 54, _, _, _, _, _⟩ :: _) _ _; refine msT.load (op := ⟨some 54, .load _ _, _, _, _, _⟩) (by rfl) _ (by rfl) gx 0 (by rfl) (x) hX.rangeK ?_) | (guard_target =~ wpList _ _ _ (⟨none, _, _, _, _, _⟩ :: _) _ _; refine msT.store_mid (op := ⟨none, .store _ _ _, _, _, _, _⟩) (by rfl) _ _ (by rfl) g 23 x _ _ (by rfl) (by rfl) hB (by rw [mmK.len]; decide) ?_))
      have hB1 := Box.mid (msK.enc x) (msK.enc q.f) (msK.enc q.s) [.int .i64 q.ta, .bool q.hs, .bool q.hf] WD rfl hB
      replace hX := Box.cells_other (Ne.symm hne) (msK.enc x) 23 WD hX
      replace ho := Only.cells (msK.enc x) 23 WD ho
      change Code.wp Try.prog _ _ _ (WD.setCells g 23 (msK.enc x))
      replace hB1 : Box (WD.setCells g 23 (msK.enc x)) g (mmK.enc { q with f := x }) 36 := hB1
      generalize WD.setCells g 23 (msK.enc x) = W2 at *
      have c48 := hB1.cell 48 _ rfl
      have f48 := hB1.free 48
      have hB2 : Box (W2.setCell ⟨g, 48, none⟩ (.bool true)) g (mmK.enc { q with f := x, hf := true }) 36 := hB1.set 48 (.bool true)
      have ho2 := ho.cell 48 (.bool true)
      go_wp2_with fail
      go_ret2
      exact ⟨by first | (rw [e2, e3]; rfl) | rfl, ⟨_, hB2, _, rfl, by first | exact e1.trans (by simp [msOf]) | simp [msOf], hqs, hx⟩, ho2⟩
    have hm : matchB q.s x = true := by simp [matchB, h6, h4, h5]
    go_upto_region 3 with fail
    clear x0
    refine wp_region_held_drew (S := fun w' => Below W.drew.heap.size W.drew w') (by kernel_rfl) (Below.refl _ _) ?_
    intro hHeld
    have hbd := Below.drew (Below.refl W.heap.size W)
    generalize W.drew = WD at *
    have cF : ∀ wx, Below WD.heap.size WD wx → wx.cell? ⟨g, 47, none⟩ = some (.bool true) := fun wx h => (hB.below (bnext hbd h)).cell 47 _ (by first | rfl | (rw [← hfl]; rfl))
    have cS : ∀ wx, Below WD.heap.size WD wx → wx.cell? ⟨g, 6, none⟩ = some (.int .i64 q.s.1.sq) := fun wx h => (hB.below (bnext hbd h)).cell 6 _ rfl
    have cC : ∀ wx, Below WD.heap.size WD wx → wx.cell? ⟨g, 4, none⟩ = some (.int .u64 q.s.1.sc) := fun wx h => (hB.below (bnext hbd h)).cell 4 _ rfl
    have cP : ∀ wx, Below WD.heap.size WD wx → wx.cell? ⟨g, 5, none⟩ = some (.int .i64 q.s.1.sp) := fun wx h => (hB.below (bnext hbd h)).cell 5 _ rfl
    have x6 : ∀ wx, Below WD.heap.size WD wx → wx.cell? ⟨gx, 6, none⟩ = some (.int .i64 x.1.sq) := fun wx h => (hX.below (bnext hbd h)).cell 6 _ rfl
    have x4 : ∀ wx, Below WD.heap.size WD wx → wx.cell? ⟨gx, 4, none⟩ = some (.int .u64 x.1.sc) := fun wx h => (hX.below (bnext hbd h)).cell 4 _ rfl
    have x5 : ∀ wx, Below WD.heap.size WD wx → wx.cell? ⟨gx, 5, none⟩ = some (.int .i64 x.1.sp) := fun wx h => (hX.below (bnext hbd h)).cell 5 _ rfl
    rw [h6] at cS
    rw [h4] at cC
    rw [h5] at cP
    refine rtake 0 rfl (by rfl) (by kernel_rfl) (by kernel_rfl) (by kernel_rfl) (fun _ _ _ h => h) hHeld (fun wx hwx => by go_simp; try with_reducible rfl) ?_
    try simp only [Act.put, List.setIfInBounds_toArray, List.set_cons_zero, List.set_cons_succ]
    refine rtake 1 rfl (by rfl) (by kernel_rfl) (by kernel_rfl) (by kernel_rfl) (fun _ _ _ h => h) hHeld (fun wx hwx => by go_simp; try with_reducible rfl) ?_
    try simp only [Act.put, List.setIfInBounds_toArray, List.set_cons_zero, List.set_cons_succ]
    refine rtake 2 rfl (by rfl) (by kernel_rfl) (by kernel_rfl) (by kernel_rfl) (fun _ _ _ h => h) hHeld (fun wx hwx => by go_simp; try with_reducible rfl) ?_
    try simp only [Act.put, List.setIfInBounds_toArray, List.set_cons_zero, List.set_cons_succ]
    refine rtake 3 rfl (by rfl) (by kernel_rfl) (by kernel_rfl) (by kernel_rfl) (fun _ _ _ h => h) hHeld (fun wx hwx => by go_simp; try with_reducible rfl) ?_
    try simp only [Act.put, List.setIfInBounds_toArray, List.set_cons_zero, List.set_cons_succ]
    refine rtake 4 rfl (by rfl) (by kernel_rfl) (by kernel_rfl) (by kernel_rfl) (fun _ _ _ h => h) hHeld (fun wx hwx => by go_simp; try with_reducible rfl) ?_
    try simp only [Act.put, List.setIfInBounds_toArray, List.set_cons_zero, List.set_cons_succ]
    refine rtake 5 rfl (by rfl) (by kernel_rfl) (by kernel_rfl) (by kernel_rfl) (fun _ _ _ h => h) hHeld (fun wx hwx => by go_simp; try with_reducible rfl) ?_
    try simp only [Act.put, List.setIfInBounds_toArray, List.set_cons_zero, List.set_cons_succ]
    refine rtake 6 rfl (by rfl) (by kernel_rfl) (by kernel_rfl) (by kernel_rfl) (fun _ _ _ h => h) hHeld (fun wx hwx => by go_simp; try with_reducible rfl) ?_
    try simp only [Act.put, List.setIfInBounds_toArray, List.set_cons_zero, List.set_cons_succ]
    refine rtake 7 rfl (by rfl) (by kernel_rfl) (by kernel_rfl) (by kernel_rfl) (fun _ _ _ h => h) hHeld (fun wx hwx => by go_simp; try with_reducible rfl) ?_
    try simp only [Act.put, List.setIfInBounds_toArray, List.set_cons_zero, List.set_cons_succ]
    refine rtake 8 rfl (by rfl) (by kernel_rfl) (by kernel_rfl) (by kernel_rfl) (fun _ _ _ h => h) hHeld (fun wx hwx => by go_simp; try with_reducible rfl) ?_
    try simp only [Act.put, List.setIfInBounds_toArray, List.set_cons_zero, List.set_cons_succ]
    refine rtake 9 rfl (by rfl) (by kernel_rfl) (by kernel_rfl) (by kernel_rfl) (fun _ _ _ h => h) hHeld (fun wx hwx => by go_simp; try with_reducible rfl) ?_
    try simp only [Act.put, List.setIfInBounds_toArray, List.set_cons_zero, List.set_cons_succ]
    refine rtake 10 rfl (by rfl) (by kernel_rfl) (by kernel_rfl) (by kernel_rfl) (fun _ _ _ h => h) hHeld (fun wx hwx => by go_simp; try with_reducible rfl) ?_
    try simp only [Act.put, List.setIfInBounds_toArray, List.set_cons_zero, List.set_cons_succ]
    refine rtake 11 rfl (by rfl) (by kernel_rfl) (by kernel_rfl) (by kernel_rfl) (fun _ _ _ h => h) hHeld (fun wx hwx => by go_simp; try with_reducible rfl) ?_
    try simp only [Act.put, List.setIfInBounds_toArray, List.set_cons_zero, List.set_cons_succ]
    refine rtake 12 rfl (by rfl) (by kernel_rfl) (by kernel_rfl) (by kernel_rfl) (fun _ _ _ h => h) hHeld (fun wx hwx => by go_simp; try with_reducible rfl) ?_
    try simp only [Act.put, List.setIfInBounds_toArray, List.set_cons_zero, List.set_cons_succ]
    refine rtake 13 rfl (by rfl) (by kernel_rfl) (by kernel_rfl) (by kernel_rfl) (fun _ _ _ h => h) hHeld (fun wx hwx => by go_simp; try with_reducible rfl) ?_
    try simp only [Act.put, List.setIfInBounds_toArray, List.set_cons_zero, List.set_cons_succ]
    refine rtake 14 rfl (by rfl) (by kernel_rfl) (by kernel_rfl) (by kernel_rfl) (fun _ _ _ h => h) hHeld (fun wx hwx => by go_simp; try with_reducible rfl) ?_
    try simp only [Act.put, List.setIfInBounds_toArray, List.set_cons_zero, List.set_cons_succ]
    refine rtake 15 rfl (by rfl) (by kernel_rfl) (by kernel_rfl) (by kernel_rfl) (fun _ _ _ h => h) hHeld (fun wx hwx => by go_simp; try with_reducible rfl) ?_
    try simp only [Act.put, List.setIfInBounds_toArray, List.set_cons_zero, List.set_cons_succ]
    refine rtake 16 rfl (by rfl) (by kernel_rfl) (by kernel_rfl) (by kernel_rfl) (fun _ _ _ h => h) hHeld (fun wx hwx => by go_simp; try with_reducible rfl) ?_
    try simp only [Act.put, List.setIfInBounds_toArray, List.set_cons_zero, List.set_cons_succ]
    refine rtake 17 rfl (by rfl) (by kernel_rfl) (by kernel_rfl) (by kernel_rfl) (fun _ _ _ h => h) hHeld (fun wx hwx => by go_simp; try with_reducible rfl) ?_
    try simp only [Act.put, List.setIfInBounds_toArray, List.set_cons_zero, List.set_cons_succ]
    refine rtake 18 rfl (by rfl) (by kernel_rfl) (by kernel_rfl) (by kernel_rfl) (fun _ _ _ h => h) hHeld (fun wx hwx => by go_simp; try with_reducible rfl) ?_
    try simp only [Act.put, List.setIfInBounds_toArray, List.set_cons_zero, List.set_cons_succ]
    refine rtake 19 rfl (by rfl) (by kernel_rfl) (by kernel_rfl) (by kernel_rfl) (fun _ _ _ h => h) hHeld (fun wx hwx => by go_simp; try with_reducible rfl) ?_
    try simp only [Act.put, List.setIfInBounds_toArray, List.set_cons_zero, List.set_cons_succ]
    refine rtake 20 rfl (by rfl) (by kernel_rfl) (by kernel_rfl) (by kernel_rfl) (fun _ _ _ h => h) hHeld (fun wx hwx => by go_simp; try with_reducible rfl) ?_
    try simp only [Act.put, List.setIfInBounds_toArray, List.set_cons_zero, List.set_cons_succ]
    refine rtake 21 rfl (by rfl) (by kernel_rfl) (by kernel_rfl) (by kernel_rfl) (fun _ _ _ h => h) hHeld (fun wx hwx => by go_simp; try with_reducible rfl) ?_
    try simp only [Act.put, List.setIfInBounds_toArray, List.set_cons_zero, List.set_cons_succ]
    refine rtake 22 rfl (by rfl) (by kernel_rfl) (by kernel_rfl) (by kernel_rfl) (fun _ _ _ h => h) hHeld (fun wx hwx => by go_simp; try with_reducible rfl) ?_
    try simp only [Act.put, List.setIfInBounds_toArray, List.set_cons_zero, List.set_cons_succ]
    refine rtake 23 rfl (by rfl) (by kernel_rfl) (by kernel_rfl) (by kernel_rfl) (fun _ _ _ h => h) hHeld (fun wx hwx => by go_simp; try with_reducible rfl) ?_
    try simp only [Act.put, List.setIfInBounds_toArray, List.set_cons_zero, List.set_cons_succ]
    obtain ⟨e1, e2, e3⟩ := (foll_hit (y := q.s) (t := q.ta) hty (m := msOf q) (by simp [msOf, hfl]) hm)
    refine wpAnyH_done (by kernel_rfl) ?_ _
    replace hB := hB.below hbd
    replace hX := hX.below hbd
    replace ho := ho.next hbd
    clear hHeld hbd cF cS cC cP x6 x4 x5
    go_upto_region 4 with fail
    refine wp_region_held_drew (S := fun w' => Below WD.drew.heap.size WD.drew w') (by kernel_rfl) (Below.refl _ _) ?_
    intro hHeld
    have hbd := Below.drew (Below.refl WD.heap.size WD)
    generalize WD.drew = WE at *
    have x3 : ∀ wx, Below WE.heap.size WE wx → wx.cell? ⟨gx, 3, none⟩ = some (.int .i64 x.1.co) := fun wx h => (hX.below (bnext hbd h)).cell 3 _ rfl
    have cO : ∀ wx, Below WE.heap.size WE wx → wx.cell? ⟨g, 3, none⟩ = some (.int .i64 q.s.1.co) := fun wx h => (hB.below (bnext hbd h)).cell 3 _ rfl
    have cT : ∀ wx, Below WE.heap.size WE wx → wx.cell? ⟨g, 46, none⟩ = some (.int .i64 q.ta) := fun wx h => (hB.below (bnext hbd h)).cell 46 _ rfl
    have x8 : ∀ wx, Below WE.heap.size WE wx → wx.cell? ⟨gx, 8, none⟩ = some (.int .i64 x.2.st) := fun wx h => (hX.below (bnext hbd h)).cell 8 _ rfl
    refine rtake 0 rfl (by rfl) (by kernel_rfl) (by kernel_rfl) (by kernel_rfl) (fun _ _ _ h => h) hHeld (fun wx hwx => by go_simp; try with_reducible rfl) ?_
    try simp only [Act.put, List.setIfInBounds_toArray, List.set_cons_zero, List.set_cons_succ]
    refine rtake 1 rfl (by rfl) (by kernel_rfl) (by kernel_rfl) (by kernel_rfl) (fun _ _ _ h => h) hHeld (fun wx hwx => by go_simp; try with_reducible rfl) ?_
    try simp only [Act.put, List.setIfInBounds_toArray, List.set_cons_zero, List.set_cons_succ]
    refine rtake 2 rfl (by rfl) (by kernel_rfl) (by kernel_rfl) (by kernel_rfl) (fun _ _ _ h => h) hHeld (fun wx hwx => by go_simp; try with_reducible rfl) ?_
    try simp only [Act.put, List.setIfInBounds_toArray, List.set_cons_zero, List.set_cons_succ]
    refine rtake 3 rfl (by rfl) (by kernel_rfl) (by kernel_rfl) (by kernel_rfl) (fun _ _ _ h => h) hHeld (fun wx hwx => by go_simp; try with_reducible rfl) ?_
    try simp only [Act.put, List.setIfInBounds_toArray, List.set_cons_zero, List.set_cons_succ]
    refine rtake 4 rfl (by rfl) (by kernel_rfl) (by kernel_rfl) (by kernel_rfl) (fun _ _ _ h => h) hHeld (fun wx hwx => by go_simp; try with_reducible rfl) ?_
    try simp only [Act.put, List.setIfInBounds_toArray, List.set_cons_zero, List.set_cons_succ]
    refine rtake 5 rfl (by rfl) (by kernel_rfl) (by kernel_rfl) (by kernel_rfl) (fun _ _ _ h => h) hHeld (fun wx hwx => by go_simp; try with_reducible rfl) ?_
    try simp only [Act.put, List.setIfInBounds_toArray, List.set_cons_zero, List.set_cons_succ]
    refine rtake 6 rfl (by rfl) (by kernel_rfl) (by kernel_rfl) (by kernel_rfl) (fun _ _ _ h => h) hHeld (fun wx hwx => by go_simp; try with_reducible rfl) ?_
    try simp only [Act.put, List.setIfInBounds_toArray, List.set_cons_zero, List.set_cons_succ]
    refine rtake 7 rfl (by rfl) (by kernel_rfl) (by kernel_rfl) (by kernel_rfl) (fun _ _ _ h => h) hHeld (fun wx hwx => by go_simp; try with_reducible rfl) ?_
    try simp only [Act.put, List.setIfInBounds_toArray, List.set_cons_zero, List.set_cons_succ]
    refine rtake 8 rfl (by rfl) (by kernel_rfl) (by kernel_rfl) (by kernel_rfl) (fun _ _ _ h => h) hHeld (fun wx hwx => by go_simp; try with_reducible rfl) ?_
    try simp only [Act.put, List.setIfInBounds_toArray, List.set_cons_zero, List.set_cons_succ]
    refine rtake 9 rfl (by rfl) (by kernel_rfl) (by kernel_rfl) (by kernel_rfl) (fun _ _ _ h => h) hHeld (fun wx hwx => by go_simp; try with_reducible rfl) ?_
    try simp only [Act.put, List.setIfInBounds_toArray, List.set_cons_zero, List.set_cons_succ]
    refine rtake 10 rfl (by rfl) (by kernel_rfl) (by kernel_rfl) (by kernel_rfl) (fun _ _ _ h => h) hHeld (fun wx hwx => by go_simp; try with_reducible rfl) ?_
    try simp only [Act.put, List.setIfInBounds_toArray, List.set_cons_zero, List.set_cons_succ]
    refine rtake 11 rfl (by rfl) (by kernel_rfl) (by kernel_rfl) (by kernel_rfl) (fun _ _ _ h => h) hHeld (fun wx hwx => by go_simp; try with_reducible rfl) ?_
    try simp only [Act.put, List.setIfInBounds_toArray, List.set_cons_zero, List.set_cons_succ]
    refine rtake 12 rfl (by rfl) (by kernel_rfl) (by kernel_rfl) (by kernel_rfl) (fun _ _ _ h => h) hHeld (fun wx hwx => by go_simp; try with_reducible rfl) ?_
    try simp only [Act.put, List.setIfInBounds_toArray, List.set_cons_zero, List.set_cons_succ]
    refine rcall 13 rfl (by kernel_rfl) (by rfl) (fun K' hK => ?_)
    go_simp
    refine (refAdd_any _ _ _ hqs.2.2.1 hqs.2.2.2 hx.2.2.1 hx.2.2.2).mono ?_
    rintro e wy ⟨rfl, rfl⟩
    refine hK.out _ _ hHeld ?_
    clear hK K'
    try simp only [Act.put, List.setIfInBounds_toArray, List.set_cons_zero, List.set_cons_succ]
    refine rcall 14 rfl (by kernel_rfl) (by rfl) (fun K' hK => ?_)
    go_simp
    refine (refDiff_any _ _ _ _ (addI_in _ _).1 (addI_in _ _).2).mono ?_
    rintro e wy ⟨rfl, rfl⟩
    refine hK.out _ _ hHeld ?_
    clear hK K'
    try simp only [Act.put, List.setIfInBounds_toArray, List.set_cons_zero, List.set_cons_succ]
    refine rtake 15 rfl (by rfl) (by kernel_rfl) (by kernel_rfl) (by kernel_rfl) (fun _ _ _ h => h) hHeld (fun wx hwx => by go_simp; try with_reducible rfl) ?_
    try simp only [Act.put, List.setIfInBounds_toArray, List.set_cons_zero, List.set_cons_succ]
    refine wpAnyH_done (by kernel_rfl) ?_ _
    replace hB := hB.below hbd
    replace ho := ho.next hbd
    clear hHeld hbd x3 cO cT x8
    go_wp2_with (first | (guard_target =~ wpList _ _ _ (⟨some 50, _, _, _, _, _⟩ :: _) _ _; refine wpList_build_any (op := ⟨some 50, .build _ _, _, _, _, _⟩) (by rfl) _ _ (by rfl) _ (by rfl) (mmK.enc zeroMm).toArray (by kernel_rfl) ?_) | (guard_target =~ wpList _ _ _ (⟨none, _, _, _, _, _⟩ :: _) _ _; refine mmT.store (op := ⟨none, .store _ _ _, _, _, _, _⟩) (by rfl) _ _ (by rfl) g zeroMm q _ (by rfl) (by rfl) hB ?_))
    go_ret2
    exact ⟨by first | (rw [e2, e3]; rfl) | rfl, ⟨_, hB.rowK (mmK.enc zeroMm), zeroMm, rfl, e1, zero_hd, zero_hd⟩, ho.row _⟩

end Go.Proofs.Ytmcjbidfogoonaa
