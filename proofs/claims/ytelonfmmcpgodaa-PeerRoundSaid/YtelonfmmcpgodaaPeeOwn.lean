/- The program's own of chapter 18: New, Clear, Request, Sent, asked, way, reply (gen_peeown.py). -/
import Derived.Test.YtelonfmmcpgodaaPee
import Derived.Test.YtelonfmmcpgodaaStampb
import Derived.Test.YtelonfmmcpgodaaBuild
import Derived.Test.YtelonfmmcpgodaaNum
import Derived.Test.YtelonfmmcpgodaaHop
namespace Go.Proofs.Ytelonfmmcpgodaa
open Go.RowKit Go.Proofs
set_option maxRecDepth 50000
set_option linter.unusedVariables false
set_option linter.unusedSimpArgs false

/-- What is kept of a response. -/
structure Rk where
  sc : Int
  sp : Int
  tk : Int
  st : Int
  co : Int
def rkL (r : Rk) : List Value := [.int .u64 r.sc, .int .i64 r.sp, .int .i64 r.tk, .int .i64 r.st, .int .i64 r.co]
def rkK : RowK Rk := ⟨rkL, 5, by decide, fun _ => rfl, by
  intro q v hv
  simp only [rkL, List.mem_cons, List.not_mem_nil, or_false] at hv
  rcases hv with rfl | rfl | rfl | rfl | rfl <;> rfl⟩
def zeroRk : Rk := ⟨0, 0, 0, 0, 0⟩
/-- What is kept of a request. -/
structure Qk where
  stp : Int
  sq : Int
  ta : Int
  bk : Rk
def qkL (r : Qk) : List Value := [.int .i64 r.stp, .int .i64 r.sq, .int .i64 r.ta] ++ rkL r.bk
def qkK : RowK Qk := ⟨qkL, 8, by decide, fun _ => rfl, by
  intro q v hv
  rcases List.mem_append.1 hv with hv | hv
  · simp only [List.mem_cons, List.not_mem_nil, or_false] at hv
    rcases hv with rfl | rfl | rfl <;> rfl
  · exact rkK.one _ v hv⟩
def zeroQk : Qk := ⟨0, 0, 0, zeroRk⟩
structure Ek where
  me : Int × Int
  dm : Int
  r : Qk
def ekK : RowK Ek := ⟨fun q => [.int .u64 q.me.1, .int .i64 q.me.2, .int .i64 q.dm] ++ qkL q.r, 11, by decide, fun _ => rfl, by
  intro q v hv
  rcases List.mem_append.1 hv with hv | hv
  · simp only [List.mem_cons, List.not_mem_nil, or_false] at hv
    rcases hv with rfl | rfl | rfl <;> rfl
  · exact qkK.one _ v hv⟩
theorem rkT : StrT rkK 43 := ⟨⟨_, Try.underlying43, rfl⟩, by kernel_rfl⟩
theorem qkT : StrT qkK 45 := ⟨⟨_, Try.underlying45, rfl⟩, by kernel_rfl⟩
theorem ekT : StrT ekK 47 := ⟨⟨_, Try.underlying47, rfl⟩, by kernel_rfl⟩
theorem Box.setReq {w : World} {g : Nat} {q : Ek} {t : TypeId} (h : Box w g (ekK.enc q) t) (r : Qk) : Box (w.setCells g 3 (qkK.enc r)) g (ekK.enc { q with r := r }) t := by
  have h1 := Box.mid (qkL r) (qkL q.r) [.int .u64 q.me.1, .int .i64 q.me.2, .int .i64 q.dm] [] w rfl (by rw [List.append_nil]; exact h)
  rw [List.append_nil] at h1
  exact h1
theorem Box.back {w : World} {g : Nat} {q : Ek} {t : TypeId} (h : Box w g (ekK.enc q) t) : w.rangeAt g 6 (rkK.enc q.r.bk) := Box.range_mid [.int .u64 q.me.1, .int .i64 q.me.2, .int .i64 q.dm, .int .i64 q.r.stp, .int .i64 q.r.sq, .int .i64 q.r.ta] (rkL q.r.bk) [] (by rw [List.append_nil]; exact h)
theorem Box.setBack {w : World} {g : Nat} {q : Ek} {t : TypeId} (h : Box w g (ekK.enc q) t) (b : Rk) : Box (w.setCells g 6 (rkK.enc b)) g (ekK.enc { q with r := { q.r with bk := b } }) t := by
  have h1 := Box.mid (rkL b) (rkL q.r.bk) [.int .u64 q.me.1, .int .i64 q.me.2, .int .i64 q.dm, .int .i64 q.r.stp, .int .i64 q.r.sq, .int .i64 q.r.ta] [] w rfl (by rw [List.append_nil]; exact h)
  rw [List.append_nil] at h1
  exact h1
theorem addI_inP (a b : Int) : -9223372036854775808 ≤ addI a b ∧ addI a b ≤ 9223372036854775807 := by unfold addI; omega
theorem w64 (t : Int) : wrap64 t = IntKind.i64.wrap t := by rw [IntKind.wrap_i64]; unfold wrap64; rfl
/-- What the cells of a request say of an exchange. -/
def Stands (stp sq ta : Int) (b : Rk) (x : Ps) : Prop :=
  (stp = 0 ∧ (x.out = none ∨ ((∃ t, x.went = some t) ∧ (∃ h, x.held = some h) ∧ x.sp = true)))
  ∨ (stp = 1 ∧ x.out = some sq ∧ x.went = none ∧ x.held = none ∧ x.sp = false)
  ∨ (stp = 2 ∧ x.out = some sq ∧ x.went = some ta ∧ x.held = none ∧ x.sp = false)
  ∨ (stp = 3 ∧ x.out = some sq ∧ x.went = some ta ∧ (∃ m c, x.held = some (m, c) ∧ b = ⟨m.1.sc, m.1.sp, IntKind.i64.wrap (c - ta), m.2.st, m.1.co⟩ ∧ HdOk m.1) ∧ x.sp = false)
def EkR (xs : List Value) (x : Ps) : Prop := ∃ q : Ek, xs = ekK.enc q ∧ x.me = q.me ∧ x.dm = q.dm ∧ Stands q.r.stp q.r.sq q.r.ta q.r.bk x
def askB (me : Int × Int) (sq : Int) (m : Hd × Bd) : Bool := (m.2.tc == me.1 && m.2.tp == me.2) && m.1.sq == sq
section
variable {x : Ps} {m : Hd × Bd} {n at' stp sq ta : Int} {b : Rk}
theorem stands_clear (h : x.out = none) : Stands 0 0 0 zeroRk x := .inl ⟨rfl, .inl h⟩
theorem sent_not (hs : Stands stp sq ta b x) (h : stp ≠ 1 ∨ n ≠ sq) : psentB x n = false ∧ psentS x n at' = x := by
  have : psentB x n = false := by
    unfold psentB
    rcases hs with ⟨-, h1 | ⟨⟨t, h1⟩, -⟩⟩ | ⟨h0, h1, h2, -⟩ | ⟨-, -, h1, -⟩ | ⟨-, -, h1, -⟩
    · rw [h1]
    · rw [h1]; cases x.out <;> rfl
    · rw [h1, h2]
      rcases h with h | h
      · exact absurd h0 h
      · exact beq_false_of_ne h
    · rw [h1]; cases x.out <;> rfl
    · rw [h1]; cases x.out <;> rfl
  exact ⟨this, by unfold psentS; rw [this]; rfl⟩
theorem pres_me : (presS x m at').me = x.me ∧ (presS x m at').dm = x.dm := by
  unfold presS
  cases pmineB x m
  · exact ⟨rfl, rfl⟩
  · cases x.held.isNone <;> exact ⟨rfl, rfl⟩
theorem mine_out (h : x.out = some sq) (h2 : x.went = some ta) : pmineB x m = (m.1.ty == 3 && askB x.me sq m) := by
  unfold pmineB askB
  rw [h, h2]
  simp only [Bool.and_assoc]
theorem pres_quiet (hs : Stands stp sq ta b x) (h : m.1.ty ≠ 3 ∨ askB x.me sq m = false ∨ stp = 0 ∨ stp = 1) : presB x m = false ∧ Stands stp sq ta b (presS x m at') := by
  rcases hs with ⟨h0, hs⟩ | ⟨h0, h1, h2, h3⟩ | ⟨h0, h1, h2, h3⟩ | ⟨h0, h1, h2, h3⟩
  · have : presB x m = false := by
      unfold presB
      rcases hs with h1 | ⟨-, ⟨y, h1⟩, -⟩
      · have : pmineB x m = false := by unfold pmineB; rw [h1]
        rw [this]; rfl
      · rw [h1]; cases pmineB x m <;> rfl
    refine ⟨this, .inl ⟨h0, ?_⟩⟩
    unfold presS
    cases hm : pmineB x m
    · exact hs
    · rcases hs with h1 | ⟨h1, ⟨y, h2⟩, h3⟩
      · unfold pmineB at hm; rw [h1] at hm; cases hm
      · rw [h2]
        exact .inr ⟨h1, ⟨y, rfl⟩, rfl⟩
  · obtain ⟨e1, e2⟩ := pres_unsent (m := m) (at' := at') h2
    exact ⟨e1, by rw [e2]; exact .inr (.inl ⟨h0, h1, h2, h3⟩)⟩
  · have hm : pmineB x m = false := by
      rw [mine_out h1 h2]
      rcases h with h | h | h | h
      · rw [beq_false_of_ne h]; rfl
      · rw [h]; simp
      · omega
      · omega
    exact ⟨by unfold presB; rw [hm]; rfl, by unfold presS; rw [hm]; exact .inr (.inr (.inl ⟨h0, h1, h2, h3⟩))⟩
  · have hm : pmineB x m = false := by
      rw [mine_out h1 h2]
      rcases h with h | h | h | h
      · rw [beq_false_of_ne h]; rfl
      · rw [h]; simp
      · omega
      · omega
    exact ⟨by unfold presB; rw [hm]; rfl, by unfold presS; rw [hm]; exact .inr (.inr (.inr ⟨h0, h1, h2, h3⟩))⟩
theorem pres_two (h1 : x.out = some sq) (h2 : x.went = some ta) (h3 : ∃ y, x.held = some y) (ht : m.1.ty = 3) (ha : askB x.me sq m = true) : presB x m = false ∧ Stands 0 0 0 zeroRk (presS x m at') := by
  obtain ⟨y, h3⟩ := h3
  have hm : pmineB x m = true := by rw [mine_out h1 h2, ha, ht]; rfl
  refine ⟨by unfold presB; rw [hm, h3]; rfl, .inl ⟨rfl, .inr ?_⟩⟩
  unfold presS
  rw [hm, h3]
  exact ⟨⟨ta, h2⟩, ⟨y, rfl⟩, rfl⟩
theorem pres_one (h1 : x.out = some sq) (h2 : x.went = some ta) (h3 : x.held = none) (h4 : x.sp = false) (ht : m.1.ty = 3) (ha : askB x.me sq m = true) (hm : HdOk m.1) :
    presB x m = true ∧ Stands 3 sq ta ⟨m.1.sc, m.1.sp, IntKind.i64.wrap (at' - ta), m.2.st, m.1.co⟩ (presS x m at') := by
  have hq : pmineB x m = true := by rw [mine_out h1 h2, ha, ht]; rfl
  refine ⟨by unfold presB; rw [hq, h3]; rfl, ?_⟩
  unfold presS
  rw [hq, h3]
  exact .inr (.inr (.inr ⟨rfl, h1, h2, ⟨m, at', rfl, rfl, hm⟩, h4⟩))
theorem pfol_no (h : pfolB x m = false) : pfolD x m = 0 ∧ pfolS x m = x := by
  refine ⟨?_, by unfold pfolS; rw [h]; rfl⟩
  unfold pfolD
  rw [h]
  cases x.went <;> cases x.held <;> rfl
theorem pfol_quiet (hs : Stands stp sq ta b x) (h : m.1.ty ≠ 10 ∨ askB x.me sq m = false ∨ stp ≠ 3 ∨ b.sc ≠ m.1.sc ∨ b.sp ≠ m.1.sp) : pfolB x m = false := by
  unfold pfolB
  rcases hs with ⟨h0, h1 | ⟨⟨t, h1⟩, ⟨y, h2⟩, h3⟩⟩ | ⟨h0, h1, h2, h3, -⟩ | ⟨h0, h1, h2, h3, -⟩ | ⟨h0, h1, h2, ⟨r, c, h3, rfl, -⟩, h4⟩
  · rw [h1]
  · rw [h1, h2, h3]; cases x.out <;> simp
  · rw [h3]; cases x.out <;> cases x.went <;> rfl
  · rw [h3]; cases x.out <;> cases x.went <;> rfl
  · rw [h1, h2, h3, h4]
    show (m.1.ty == 10 && (m.2.tc == x.me.1 && m.2.tp == x.me.2) && (!false) && m.1.sq == sq && (m.1.sc == r.1.sc && m.1.sp == r.1.sp)) = false
    simp only at h
    rcases h with h | h | h | h | h
    · simp [h]
    · unfold askB at h
      revert h
      generalize (m.2.tc == x.me.1) = A
      generalize (m.2.tp == x.me.2) = B
      generalize (m.1.sq == sq) = C
      generalize (m.1.sc == r.1.sc && m.1.sp == r.1.sp) = D
      cases A <;> cases B <;> cases C <;> cases D <;> simp
    · exact absurd h0 h
    · simp [Ne.symm h]
    · simp [Ne.symm h]
theorem pfol_told (hs : Stands 3 sq ta b x) (ht : m.1.ty = 10) (ha : askB x.me sq m = true) (h1 : b.sc = m.1.sc) (h2 : b.sp = m.1.sp) :
    pfolB x m = true ∧ pfolD x m = IntKind.i64.wrap (IntKind.i64.wrap (b.tk - IntKind.i64.wrap (m.2.st - b.st)) - addI b.co m.1.co / 65536) / 2 ∧ pfolS x m = noneP x ∧ (-9223372036854775808 ≤ b.co ∧ b.co ≤ 9223372036854775807) := by
  rcases hs with ⟨h0, -⟩ | ⟨h0, -⟩ | ⟨h0, -⟩ | ⟨-, g1, g2, ⟨r, c, g3, rfl, g4⟩, g5⟩
  · omega
  · omega
  · omega
  · simp only at h1 h2
    unfold askB at ha
    simp only [Bool.and_eq_true, beq_iff_eq] at ha
    obtain ⟨e1, e2, e3⟩ := pfol_yes (x := x) (m := m) g1 g2 g3 ht ha.1.1 ha.1.2 g5 ha.2 h1.symm h2.symm
    refine ⟨e1, ?_, e3, g4.2.2⟩
    rw [e2, w64, w64, w64, w64]
end

theorem next_anyP (v : Int) (w : World) : Calls Try.prog 14 #[.int .i64 v] w fun e w' => e = .returned (.int .i64 ((v % 65536 + 1) % 65536)) ∧ w = w' := by
  have hm : bits .and .i64 v 65535 = v % 65536 := and_mask v 16 (by decide)
  have h1 : wrap64 (v % 65536 + 1) = v % 65536 + 1 := by unfold wrap64; omega
  obtain ⟨k, hk⟩ : ∃ k, (v % 65536 + 1) % 65536 = k := ⟨_, rfl⟩
  have hm2 : bits .and .i64 (v % 65536 + 1) 65535 = k := (and_mask (v % 65536 + 1) 16 (by decide)).trans hk
  rw [hk]
  clear hk
  go_enter Try.func14, Try.ntmps14
  go_wp2_with fail
  go_ret
  exact ⟨rfl, rfl⟩

set_option maxRecDepth 100000 in
set_option maxHeartbeats 8000000 in
theorem ownNewP : CNewP EkR := by
  intro me dm w hme
  have z0 := bnew w (Obj.cells (prK.enc me).toArray 24)
  have hP := Box.new w (prK.enc me) 24
  have hb := z0
  clear z0
  go_enter Try.func5, Try.ntmps5
  go_upto_region 1 with fail
  change Code.wp Try.prog _ _ _ (w.alloc (Obj.cells (prK.enc me).toArray 24))
  generalize (w.alloc (Obj.cells (prK.enc me).toArray 24)) = W at *
  generalize hG : w.heap.size = G at *
  rw [← hG] at hb
  have l_hP : w.heap.size ≤ G := by omega
  have e := Box.new W (ekK.enc ⟨me, dm, zeroQk⟩) 47
  have nb := bnew W (Obj.cells (ekK.enc ⟨me, dm, zeroQk⟩).toArray 47)
  go_wp2_with (first | (guard_target =~ wpList _ _ _ (⟨some 5, _, _, _, _, _⟩ :: _) _ _; refine prT18.load (op := ⟨some 5, .load _ _, _, _, _, _⟩) (by rfl) _ (by rfl) G 0 (by rfl) (me) hP.rangeK ?_) | (guard_target =~ wpList _ _ _ (⟨some 7, _, _, _, _, _⟩ :: _) _ _; refine wpList_build_any (op := ⟨some 7, .build _ _, _, _, _, _⟩) (by rfl) _ _ (by rfl) _ (by rfl) (ekK.enc ⟨me, dm, zeroQk⟩).toArray (by kernel_rfl) ?_))
  go_ret
  exact ⟨_, rfl, hb.size, ⟨_, e, _, rfl, rfl, rfl, stands_clear rfl⟩, bnext hb nb⟩

set_option maxRecDepth 100000 in
set_option maxHeartbeats 8000000 in
theorem clearP_any (g : Nat) (q : Ek) (w : World) (hB : Box w g (ekK.enc q) 47) :
    Calls Try.prog 17 #[.pointer (some ⟨g, 0, none⟩)] w fun e w' => e = .returned (.tuple #[]) ∧ Box w' g (ekK.enc { q with r := zeroQk }) 47 ∧ Only g w w' := by
  go_enter Try.func17, Try.ntmps17
  go_wp2_with (first | (guard_target =~ wpList _ _ _ (⟨some 3, _, _, _, _, _⟩ :: _) _ _; refine wpList_build_any (op := ⟨some 3, .build _ _, _, _, _, _⟩) (by rfl) _ _ (by rfl) _ (by rfl) (qkK.enc zeroQk).toArray (by kernel_rfl) ?_) | (guard_target =~ wpList _ _ _ (⟨none, _, _, _, _, _⟩ :: _) _ _; refine qkT.store_mid (op := ⟨none, .store _ _ _, _, _, _, _⟩) (by rfl) _ _ (by rfl) g 3 (zeroQk) _ _ (by rfl) (by rfl) hB (by rw [ekK.len]; decide) ?_))
  go_end0
  exact ⟨rfl, hB.setReq zeroQk, Only.cells _ _ _ (Only.refl g w)⟩

set_option maxRecDepth 100000 in
set_option maxHeartbeats 8000000 in
theorem ownReqP : CReqP EkR := by
  rintro g x n w ⟨xs, hB, q, rfl, hme, hdm, hst⟩ hn
  have hgl := hB.lt
  have hb := bnew w (Obj.cells (msK.enc zeroM).toArray 31)
  have hM := Box.new w (msK.enc zeroM) 31
  replace hB := hB.below hb
  have ho := Only.of_below g hb
  have hne : g ≠ w.heap.size := by omega
  obtain ⟨k, hk⟩ : ∃ k, n % 65536 = k := ⟨_, rfl⟩
  have hN : (wrap64 (n - 1) % 65536 + 1) % 65536 = k := by rw [← hk]; unfold wrap64; omega
  obtain ⟨m1, hm1⟩ : ∃ m1 : Hd × Bd, m1 = preqM x n := ⟨_, rfl⟩
  have hm2 : m1 = (⟨2, q.dm, 0, 0, q.me.1, q.me.2, k, 127⟩, bd0) := by rw [hm1, ← hk, ← hme, ← hdm]; rfl
  have hs : preqS x n = ⟨q.me, q.dm, some k, none, none, false⟩ := by rw [← hk, ← hme, ← hdm]; rfl
  clear hk hme hdm hst
  replace hm1 := hid hm1
  replace hm2 := hid hm2
  replace hs := hid hs
  go_enter Try.func7, Try.ntmps7
  go_upto_region 1 with fail
  change Code.wp Try.prog _ _ _ (w.alloc (Obj.cells (msK.enc zeroM).toArray 31))
  generalize w.alloc (Obj.cells (msK.enc zeroM).toArray 31) = W at *
  generalize hG : w.heap.size = G at *
  have lG : w.heap.size ≤ G := Nat.le_of_eq hG
  go_wp2_with fail
  refine (next_anyP _ _).mono ?_
  rintro e w1 ⟨rfl, rfl⟩
  try rw [IntKind.wrap_i64]
  rw [hN]
  clear hN
  have hB2 := hB.setReq ⟨1, k, 0, zeroRk⟩
  have hM2 : Box (W.setCells g 3 (qkK.enc ⟨1, k, 0, zeroRk⟩)) G (msK.enc zeroM) 31 := Box.cells_other (Ne.symm hne) _ _ _ hM
  have ho2 := Only.cells (qkK.enc ⟨1, k, 0, zeroRk⟩) 3 _ ho
  go_upto_region 3 with (first | (guard_target =~ wpList _ _ _ (⟨some 10, _, _, _, _, _⟩ :: _) _ _; refine wpList_build_any (op := ⟨some 10, .build _ _, _, _, _, _⟩) (by rfl) _ _ (by rfl) _ (by rfl) (qkK.enc ⟨1, k, 0, zeroRk⟩).toArray (by kernel_rfl) ?_) | (guard_target =~ wpList _ _ _ (⟨none, _, _, _, _, _⟩ :: _) _ _; refine qkT.store_mid (op := ⟨none, .store _ _ _, _, _, _, _⟩) (by rfl) _ _ (by rfl) g 3 (⟨1, k, 0, zeroRk⟩) _ _ (by rfl) (by rfl) hB (by rw [ekK.len]; decide) ?_))
  clear hB hM ho
  generalize World.setCells _ _ _ _ = W2 at *
  refine wp_region_held_drew (S := fun w' => Box w' g (ekK.enc { q with r := ⟨1, k, 0, zeroRk⟩ }) 47) (by kernel_rfl) (hB2.below (Below.drew (Below.refl _ _))) ?_
  intro hS
  have hbd := Below.drew (Below.refl W2.heap.size W2)
  replace hM2 := hM2.below hbd
  replace ho2 := ho2.next hbd
  clear hbd hB2
  generalize W2.drew = WD at *
  refine rtake 0 rfl (by rfl) (by kernel_rfl) (by kernel_rfl) (by kernel_rfl) (fun _ _ _ h => h) hS (fun wx hwx => by go_simp; try with_reducible rfl) ?_
  try simp only [Act.put, List.setIfInBounds_toArray, List.set_cons_zero, List.set_cons_succ]
  refine rtake 1 rfl (by rfl) (by kernel_rfl) (by kernel_rfl) (by kernel_rfl) (fun _ _ _ h => h) hS (fun wx hwx => by go_simp; try with_reducible rfl) ?_
  try simp only [Act.put, List.setIfInBounds_toArray, List.set_cons_zero, List.set_cons_succ]
  refine rtake 2 rfl (by rfl) (by kernel_rfl) (by kernel_rfl) (by kernel_rfl) (fun _ _ _ h => h) hS (fun wx hwx => by go_simp; try with_reducible rfl) ?_
  try simp only [Act.put, List.setIfInBounds_toArray, List.set_cons_zero, List.set_cons_succ]
  refine rtake 3 rfl (by rfl) (by kernel_rfl) (by kernel_rfl) (by kernel_rfl) (fun _ _ _ h => h) hS (fun wx hwx => by have q2 : wx.cell? ⟨g, 2, none⟩ = some (.int .i64 q.dm) := hwx.cell 2 _ rfl; go_simp; try with_reducible rfl) ?_
  try simp only [Act.put, List.setIfInBounds_toArray, List.set_cons_zero, List.set_cons_succ]
  refine rtake 4 rfl (by rfl) (by kernel_rfl) (by kernel_rfl) (by kernel_rfl) (fun _ _ _ h => h) hS (fun wx hwx => by go_simp; try with_reducible rfl) ?_
  try simp only [Act.put, List.setIfInBounds_toArray, List.set_cons_zero, List.set_cons_succ]
  refine rtake 5 rfl (by rfl) (by kernel_rfl) (by kernel_rfl) (by kernel_rfl) (fun _ _ _ h => h) hS (fun wx hwx => by go_simp; try with_reducible rfl) ?_
  try simp only [Act.put, List.setIfInBounds_toArray, List.set_cons_zero, List.set_cons_succ]
  refine rtake 6 rfl (by rfl) (by kernel_rfl) (by kernel_rfl) (by kernel_rfl) (fun _ _ _ h => h) hS (fun wx hwx => by go_simp; try with_reducible rfl) ?_
  try simp only [Act.put, List.setIfInBounds_toArray, List.set_cons_zero, List.set_cons_succ]
  refine rtake 7 rfl (by rfl) (by kernel_rfl) (by kernel_rfl) (by kernel_rfl) (fun _ _ _ h => h) hS (fun wx hwx => by have q0 : wx.cell? ⟨g, 0, none⟩ = some (.int .u64 q.me.1) := hwx.cell 0 _ rfl; have q1 : wx.cell? ⟨g, 1, none⟩ = some (.int .i64 q.me.2) := hwx.cell 1 _ rfl; go_simp; try with_reducible rfl) ?_
  try simp only [Act.put, List.setIfInBounds_toArray, List.set_cons_zero, List.set_cons_succ]
  refine rtake 8 rfl (by rfl) (by kernel_rfl) (by kernel_rfl) (by kernel_rfl) (fun _ _ _ h => h) hS (fun wx hwx => by go_simp; try with_reducible rfl) ?_
  try simp only [Act.put, List.setIfInBounds_toArray, List.set_cons_zero, List.set_cons_succ]
  refine rtake 9 rfl (by rfl) (by kernel_rfl) (by kernel_rfl) (by kernel_rfl) (fun _ _ _ h => h) hS (fun wx hwx => exec_build_any _ _ rfl _ rfl (msK.enc m1).toArray (by rw [hm2.out]; kernel_rfl)) ?_
  try simp only [Act.put, List.setIfInBounds_toArray, List.set_cons_zero, List.set_cons_succ]
  refine rcall 10 rfl (by kernel_rfl) (by rfl) (fun K' hK => ?_)
  refine msT.op_store _ _ rfl G m1 zeroM _ (by rfl) (by rfl) hM2 ?_
  refine hK.out _ _ (hS.rowK_other hne _) ?_
  clear hK K'
  try simp only [Act.put, List.setIfInBounds_toArray, List.set_cons_zero, List.set_cons_succ]
  refine wpAnyH_done (by kernel_rfl) ?_ _
  go_wp2_with fail
  rw [← hm1.out, hs.out]
  exact bodyPost_ret (v := .agg (msK.enc m1).toArray) (msT.result rfl _ _ G _ _ rfl (hM2.rowK _)) rfl ⟨rfl, ⟨_, hS.rowK_other hne _, _, rfl, rfl, rfl, .inr (.inl ⟨rfl, rfl, rfl, rfl, rfl⟩)⟩, ho2.row_new lG _⟩

set_option maxRecDepth 100000 in
set_option maxHeartbeats 8000000 in
theorem ownSentP : CSentP EkR := by
  rintro g x n at' w ⟨xs, hB, q, rfl, hme, hdm, hst⟩
  obtain ⟨me, dm, ⟨stp, sq, ta, b⟩⟩ := q
  change Stands stp sq ta b x at hst
  have c3 := hB.cell 3 _ rfl
  have f3 := hB.free 3
  have c4 := hB.cell 4 _ rfl
  have c5 := hB.cell 5 _ rfl
  have f5 := hB.free 5
  change w.cell? ⟨g, 3, none⟩ = some (.int .i64 stp) at c3
  change w.cell? ⟨g, 4, none⟩ = some (.int .i64 sq) at c4
  change w.cell? ⟨g, 5, none⟩ = some (.int .i64 ta) at c5
  replace hme := hid hme
  replace hdm := hid hdm
  go_enter Try.func11, Try.ntmps11
  by_cases h1 : stp = 1
  case neg =>
    have n0 : (stp != 1) = true := by simp [h1]
    obtain ⟨e1, e2⟩ := sent_not (n := n) (at' := at') hst (.inl h1)
    replace e1 := hid e1
    replace e2 := hid e2
    replace hst := hid hst
    go_wp2_with fail
    go_ret
    exact ⟨ret_bool e1.out.symm, by rw [e2.out]; exact ⟨_, hB, _, rfl, hme.out, hdm.out, hst.out⟩, Only.refl g w⟩
  by_cases h2 : n = sq
  case neg =>
    have n0 : (sq != n) = true := by simp [Ne.symm h2]
    have hst0 := hst
    rw [h1] at c3
    obtain ⟨e1, e2⟩ := sent_not (n := n) (at' := at') hst (.inr h2)
    replace e1 := hid e1
    replace e2 := hid e2
    replace hst := hid hst
    go_wp2_with fail
    go_ret
    exact ⟨ret_bool e1.out.symm, by rw [e2.out]; exact ⟨_, hB, _, rfl, hme.out, hdm.out, hst.out⟩, Only.refl g w⟩
  subst h1
  subst h2
  obtain ⟨-, g1, g2, g3, g4⟩ : (1 : Int) = 1 ∧ x.out = some n ∧ x.went = none ∧ x.held = none ∧ x.sp = false := by
    rcases hst with ⟨h, -⟩ | h | ⟨h, -⟩ | ⟨h, -⟩
    · omega
    · exact h
    · omega
    · omega
  obtain ⟨e1, e2⟩ := psent_yes (at' := at') g1 g2
  have hB2 := (hB.set 3 (.int .i64 2)).set 5 (.int .i64 at')
  have hst2 : Stands 2 n at' b { x with went := some at' } := .inr (.inr (.inl ⟨rfl, g1, rfl, g3, g4⟩))
  replace e1 := hid e1
  replace e2 := hid e2
  replace hst2 := hid hst2
  clear g1 g2 g3 g4 hst
  have ho := ((Only.refl g w).cell 3 (.int .i64 2)).cell 5 (.int .i64 at')
  go_wp2_with fail
  go_ret
  exact ⟨ret_bool e1.out.symm, by rw [e2.out]; exact ⟨_, hB2, ⟨me, dm, ⟨2, n, at', b⟩⟩, rfl, hme.out, hdm.out, hst2.out⟩, ho⟩

set_option maxRecDepth 100000 in
set_option maxHeartbeats 8000000 in
theorem asked_any (g : Nat) (q : Ek) (m : Hd × Bd) (w : World) (hB : Box w g (ekK.enc q) 47) :
    Calls Try.prog 16 #[.pointer (some ⟨g, 0, none⟩), .agg (msK.enc m).toArray] w fun e w' => e = .returned (.bool (askB q.me q.r.sq m)) ∧ Below w.heap.size w w' := by
  obtain ⟨me, dm, ⟨stp, sq, ta, b⟩⟩ := q
  have hgl := hB.lt
  have hb := bnew w (Obj.cells (msK.enc m).toArray 31)
  have hX := Box.new w (msK.enc m) 31
  replace hB := hB.below hb
  change Calls _ _ _ _ fun e w' => e = .returned (.bool (askB me sq m)) ∧ _
  go_enter Try.func16, Try.ntmps16
  go_upto_region 1 with fail
  change Code.wp Try.prog _ _ _ (w.alloc (Obj.cells (msK.enc m).toArray 31))
  generalize w.alloc (Obj.cells (msK.enc m).toArray 31) = W at *
  generalize hG : w.heap.size = G at *
  rw [← hG] at hb
  by_cases ht0 : me.1 = m.2.tc
  case neg =>
    have n1 : (m.2.tc == me.1) = false := beq_false_of_ne (Ne.symm ht0)
    have e1 : askB me sq m = false := by unfold askB; rw [n1]; rfl
    refine wp_region_held_drew (S := fun w' => Below W.drew.heap.size W.drew w') (by kernel_rfl) (Below.refl _ _) ?_
    intro hHeld
    have hbd := Below.drew (Below.refl W.heap.size W)
    generalize W.drew = WD at *
    have c0 : ∀ wx, Below WD.heap.size WD wx → wx.cell? ⟨g, 0, none⟩ = some (.int .u64 (me.1)) := fun wx h => (hB.below (bnext hbd h)).cell 0 _ (by first | rfl | (rw [← ht0]; rfl))
    have c1 : ∀ wx, Below WD.heap.size WD wx → wx.cell? ⟨g, 1, none⟩ = some (.int .i64 (me.2)) := fun wx h => (hB.below (bnext hbd h)).cell 1 _ (by first | rfl | (rw [← ht1]; rfl))
    have c4 : ∀ wx, Below WD.heap.size WD wx → wx.cell? ⟨g, 4, none⟩ = some (.int .i64 (sq)) := fun wx h => (hB.below (bnext hbd h)).cell 4 _ (by first | rfl | (rw [← hsq]; rfl))
    have x9 : ∀ wx, Below WD.heap.size WD wx → wx.cell? ⟨G, 9, none⟩ = some (.int .u64 m.2.tc) := fun wx h => (hX.below (bnext hbd h)).cell 9 _ rfl
    have x10 : ∀ wx, Below WD.heap.size WD wx → wx.cell? ⟨G, 10, none⟩ = some (.int .i64 m.2.tp) := fun wx h => (hX.below (bnext hbd h)).cell 10 _ rfl
    have x6 : ∀ wx, Below WD.heap.size WD wx → wx.cell? ⟨G, 6, none⟩ = some (.int .i64 m.1.sq) := fun wx h => (hX.below (bnext hbd h)).cell 6 _ rfl
    refine rtake 0 rfl (by rfl) (by kernel_rfl) (by kernel_rfl) (by kernel_rfl) (fun _ _ _ h => h) hHeld (fun wx hwx => by go_simp; try with_reducible rfl) ?_
    try simp only [Act.put, List.setIfInBounds_toArray, List.set_cons_zero, List.set_cons_succ]
    refine rtake 1 rfl (by rfl) (by kernel_rfl) (by kernel_rfl) (by kernel_rfl) (fun _ _ _ h => h) hHeld (fun wx hwx => by go_simp; try with_reducible rfl) ?_
    try simp only [Act.put, List.setIfInBounds_toArray, List.set_cons_zero, List.set_cons_succ]
    refine rtake 2 rfl (by rfl) (by kernel_rfl) (by kernel_rfl) (by kernel_rfl) (fun _ _ _ h => h) hHeld (fun wx hwx => by go_simp; try with_reducible rfl) ?_
    try simp only [Act.put, List.setIfInBounds_toArray, List.set_cons_zero, List.set_cons_succ]
    refine rtake 3 rfl (by rfl) (by kernel_rfl) (by kernel_rfl) (by kernel_rfl) (fun _ _ _ h => h) hHeld (fun wx hwx => by go_simp; try with_reducible rfl) ?_
    try simp only [Act.put, List.setIfInBounds_toArray, List.set_cons_zero, List.set_cons_succ]
    refine rtake 4 rfl (by rfl) (by kernel_rfl) (by kernel_rfl) (by kernel_rfl) (fun _ _ _ h => h) hHeld (fun wx hwx => by go_simp; try with_reducible rfl) ?_
    try simp only [Act.put, List.setIfInBounds_toArray, List.set_cons_zero, List.set_cons_succ]
    refine rtake 5 rfl (by rfl) (by kernel_rfl) (by kernel_rfl) (by kernel_rfl) (fun _ _ _ h => h) hHeld (fun wx hwx => by go_simp; try with_reducible rfl) ?_
    try simp only [Act.put, List.setIfInBounds_toArray, List.set_cons_zero, List.set_cons_succ]
    refine rtake 6 rfl (by rfl) (by kernel_rfl) (by kernel_rfl) (by kernel_rfl) (fun _ _ _ h => h) hHeld (fun wx hwx => by go_simp; try with_reducible rfl) ?_
    try simp only [Act.put, List.setIfInBounds_toArray, List.set_cons_zero, List.set_cons_succ]
    refine rtake 7 rfl (by rfl) (by kernel_rfl) (by kernel_rfl) (by kernel_rfl) (fun _ _ _ h => h) hHeld (fun wx hwx => by go_simp; try with_reducible rfl) ?_
    try simp only [Act.put, List.setIfInBounds_toArray, List.set_cons_zero, List.set_cons_succ]
    refine rpass 8 rfl (by rfl) (by kernel_rfl) (by kernel_rfl) (by kernel_rfl) (fun _ _ _ h => h) hHeld ?_
    try simp only [Act.put, List.setIfInBounds_toArray, List.set_cons_zero, List.set_cons_succ]
    refine rpass 9 rfl (by rfl) (by kernel_rfl) (by kernel_rfl) (by kernel_rfl) (fun _ _ _ h => h) hHeld ?_
    try simp only [Act.put, List.setIfInBounds_toArray, List.set_cons_zero, List.set_cons_succ]
    refine rpass 10 rfl (by rfl) (by kernel_rfl) (by kernel_rfl) (by kernel_rfl) (fun _ _ _ h => h) hHeld ?_
    try simp only [Act.put, List.setIfInBounds_toArray, List.set_cons_zero, List.set_cons_succ]
    refine rpass 11 rfl (by rfl) (by kernel_rfl) (by kernel_rfl) (by kernel_rfl) (fun _ _ _ h => h) hHeld ?_
    try simp only [Act.put, List.setIfInBounds_toArray, List.set_cons_zero, List.set_cons_succ]
    refine rpass 12 rfl (by rfl) (by kernel_rfl) (by kernel_rfl) (by kernel_rfl) (fun _ _ _ h => h) hHeld ?_
    try simp only [Act.put, List.setIfInBounds_toArray, List.set_cons_zero, List.set_cons_succ]
    refine rpass 13 rfl (by rfl) (by kernel_rfl) (by kernel_rfl) (by kernel_rfl) (fun _ _ _ h => h) hHeld ?_
    try simp only [Act.put, List.setIfInBounds_toArray, List.set_cons_zero, List.set_cons_succ]
    refine rpass 14 rfl (by rfl) (by kernel_rfl) (by kernel_rfl) (by kernel_rfl) (fun _ _ _ h => h) hHeld ?_
    try simp only [Act.put, List.setIfInBounds_toArray, List.set_cons_zero, List.set_cons_succ]
    refine rpass 15 rfl (by rfl) (by kernel_rfl) (by kernel_rfl) (by kernel_rfl) (fun _ _ _ h => h) hHeld ?_
    try simp only [Act.put, List.setIfInBounds_toArray, List.set_cons_zero, List.set_cons_succ]
    refine rtake 16 rfl (by rfl) (by kernel_rfl) (by kernel_rfl) (by kernel_rfl) (fun _ _ _ h => h) hHeld (fun wx hwx => by go_simp; try with_reducible rfl) ?_
    try simp only [Act.put, List.setIfInBounds_toArray, List.set_cons_zero, List.set_cons_succ]
    refine rtake 17 rfl (by rfl) (by kernel_rfl) (by kernel_rfl) (by kernel_rfl) (fun _ _ _ h => h) hHeld (fun wx hwx => by go_simp; try with_reducible rfl) ?_
    try simp only [Act.put, List.setIfInBounds_toArray, List.set_cons_zero, List.set_cons_succ]
    refine wpAnyH_done (by kernel_rfl) ?_ _
    replace hb := bnext (bnext hb hbd) hHeld
    clear hHeld hbd c0 c1 c4 x9 x10 x6
    replace e1 := hid e1
    go_wp2_with fail
    go_ret
    exact ⟨ret_bool e1.out.symm, hb⟩
  by_cases ht1 : me.2 = m.2.tp
  case neg =>
    have n1 : (m.2.tp == me.2) = false := beq_false_of_ne (Ne.symm ht1)
    have e1 : askB me sq m = false := by unfold askB; rw [n1]; simp
    refine wp_region_held_drew (S := fun w' => Below W.drew.heap.size W.drew w') (by kernel_rfl) (Below.refl _ _) ?_
    intro hHeld
    have hbd := Below.drew (Below.refl W.heap.size W)
    generalize W.drew = WD at *
    have c0 : ∀ wx, Below WD.heap.size WD wx → wx.cell? ⟨g, 0, none⟩ = some (.int .u64 (m.2.tc)) := fun wx h => (hB.below (bnext hbd h)).cell 0 _ (by first | rfl | (rw [← ht0]; rfl))
    have c1 : ∀ wx, Below WD.heap.size WD wx → wx.cell? ⟨g, 1, none⟩ = some (.int .i64 (me.2)) := fun wx h => (hB.below (bnext hbd h)).cell 1 _ (by first | rfl | (rw [← ht1]; rfl))
    have c4 : ∀ wx, Below WD.heap.size WD wx → wx.cell? ⟨g, 4, none⟩ = some (.int .i64 (sq)) := fun wx h => (hB.below (bnext hbd h)).cell 4 _ (by first | rfl | (rw [← hsq]; rfl))
    have x9 : ∀ wx, Below WD.heap.size WD wx → wx.cell? ⟨G, 9, none⟩ = some (.int .u64 m.2.tc) := fun wx h => (hX.below (bnext hbd h)).cell 9 _ rfl
    have x10 : ∀ wx, Below WD.heap.size WD wx → wx.cell? ⟨G, 10, none⟩ = some (.int .i64 m.2.tp) := fun wx h => (hX.below (bnext hbd h)).cell 10 _ rfl
    have x6 : ∀ wx, Below WD.heap.size WD wx → wx.cell? ⟨G, 6, none⟩ = some (.int .i64 m.1.sq) := fun wx h => (hX.below (bnext hbd h)).cell 6 _ rfl
    refine rtake 0 rfl (by rfl) (by kernel_rfl) (by kernel_rfl) (by kernel_rfl) (fun _ _ _ h => h) hHeld (fun wx hwx => by go_simp; try with_reducible rfl) ?_
    try simp only [Act.put, List.setIfInBounds_toArray, List.set_cons_zero, List.set_cons_succ]
    refine rtake 1 rfl (by rfl) (by kernel_rfl) (by kernel_rfl) (by kernel_rfl) (fun _ _ _ h => h) hHeld (fun wx hwx => by go_simp; try with_reducible rfl) ?_
    try simp only [Act.put, List.setIfInBounds_toArray, List.set_cons_zero, List.set_cons_succ]
    refine rtake 2 rfl (by rfl) (by kernel_rfl) (by kernel_rfl) (by kernel_rfl) (fun _ _ _ h => h) hHeld (fun wx hwx => by go_simp; try with_reducible rfl) ?_
    try simp only [Act.put, List.setIfInBounds_toArray, List.set_cons_zero, List.set_cons_succ]
    refine rtake 3 rfl (by rfl) (by kernel_rfl) (by kernel_rfl) (by kernel_rfl) (fun _ _ _ h => h) hHeld (fun wx hwx => by go_simp; try with_reducible rfl) ?_
    try simp only [Act.put, List.setIfInBounds_toArray, List.set_cons_zero, List.set_cons_succ]
    refine rtake 4 rfl (by rfl) (by kernel_rfl) (by kernel_rfl) (by kernel_rfl) (fun _ _ _ h => h) hHeld (fun wx hwx => by go_simp; try with_reducible rfl) ?_
    try simp only [Act.put, List.setIfInBounds_toArray, List.set_cons_zero, List.set_cons_succ]
    refine rtake 5 rfl (by rfl) (by kernel_rfl) (by kernel_rfl) (by kernel_rfl) (fun _ _ _ h => h) hHeld (fun wx hwx => by go_simp; try with_reducible rfl) ?_
    try simp only [Act.put, List.setIfInBounds_toArray, List.set_cons_zero, List.set_cons_succ]
    refine rtake 6 rfl (by rfl) (by kernel_rfl) (by kernel_rfl) (by kernel_rfl) (fun _ _ _ h => h) hHeld (fun wx hwx => by go_simp; try with_reducible rfl) ?_
    try simp only [Act.put, List.setIfInBounds_toArray, List.set_cons_zero, List.set_cons_succ]
    refine rtake 7 rfl (by rfl) (by kernel_rfl) (by kernel_rfl) (by kernel_rfl) (fun _ _ _ h => h) hHeld (fun wx hwx => by go_simp; try with_reducible rfl) ?_
    try simp only [Act.put, List.setIfInBounds_toArray, List.set_cons_zero, List.set_cons_succ]
    refine rpass 8 rfl (by rfl) (by kernel_rfl) (by kernel_rfl) (by kernel_rfl) (fun _ _ _ h => h) hHeld ?_
    try simp only [Act.put, List.setIfInBounds_toArray, List.set_cons_zero, List.set_cons_succ]
    refine rpass 9 rfl (by rfl) (by kernel_rfl) (by kernel_rfl) (by kernel_rfl) (fun _ _ _ h => h) hHeld ?_
    try simp only [Act.put, List.setIfInBounds_toArray, List.set_cons_zero, List.set_cons_succ]
    refine rpass 10 rfl (by rfl) (by kernel_rfl) (by kernel_rfl) (by kernel_rfl) (fun _ _ _ h => h) hHeld ?_
    try simp only [Act.put, List.setIfInBounds_toArray, List.set_cons_zero, List.set_cons_succ]
    refine rpass 11 rfl (by rfl) (by kernel_rfl) (by kernel_rfl) (by kernel_rfl) (fun _ _ _ h => h) hHeld ?_
    try simp only [Act.put, List.setIfInBounds_toArray, List.set_cons_zero, List.set_cons_succ]
    refine rpass 12 rfl (by rfl) (by kernel_rfl) (by kernel_rfl) (by kernel_rfl) (fun _ _ _ h => h) hHeld ?_
    try simp only [Act.put, List.setIfInBounds_toArray, List.set_cons_zero, List.set_cons_succ]
    refine rpass 13 rfl (by rfl) (by kernel_rfl) (by kernel_rfl) (by kernel_rfl) (fun _ _ _ h => h) hHeld ?_
    try simp only [Act.put, List.setIfInBounds_toArray, List.set_cons_zero, List.set_cons_succ]
    refine rpass 14 rfl (by rfl) (by kernel_rfl) (by kernel_rfl) (by kernel_rfl) (fun _ _ _ h => h) hHeld ?_
    try simp only [Act.put, List.setIfInBounds_toArray, List.set_cons_zero, List.set_cons_succ]
    refine rpass 15 rfl (by rfl) (by kernel_rfl) (by kernel_rfl) (by kernel_rfl) (fun _ _ _ h => h) hHeld ?_
    try simp only [Act.put, List.setIfInBounds_toArray, List.set_cons_zero, List.set_cons_succ]
    refine rtake 16 rfl (by rfl) (by kernel_rfl) (by kernel_rfl) (by kernel_rfl) (fun _ _ _ h => h) hHeld (fun wx hwx => by go_simp; try with_reducible rfl) ?_
    try simp only [Act.put, List.setIfInBounds_toArray, List.set_cons_zero, List.set_cons_succ]
    refine rtake 17 rfl (by rfl) (by kernel_rfl) (by kernel_rfl) (by kernel_rfl) (fun _ _ _ h => h) hHeld (fun wx hwx => by go_simp; try with_reducible rfl) ?_
    try simp only [Act.put, List.setIfInBounds_toArray, List.set_cons_zero, List.set_cons_succ]
    refine wpAnyH_done (by kernel_rfl) ?_ _
    replace hb := bnext (bnext hb hbd) hHeld
    clear hHeld hbd c0 c1 c4 x9 x10 x6
    replace e1 := hid e1
    go_wp2_with fail
    go_ret
    exact ⟨ret_bool e1.out.symm, hb⟩
  have e1 : askB me sq m = (m.1.sq == sq) := by unfold askB; rw [ht0, ht1]; simp
  refine wp_region_held_drew (S := fun w' => Below W.drew.heap.size W.drew w') (by kernel_rfl) (Below.refl _ _) ?_
  intro hHeld
  have hbd := Below.drew (Below.refl W.heap.size W)
  generalize W.drew = WD at *
  have c0 : ∀ wx, Below WD.heap.size WD wx → wx.cell? ⟨g, 0, none⟩ = some (.int .u64 (m.2.tc)) := fun wx h => (hB.below (bnext hbd h)).cell 0 _ (by first | rfl | (rw [← ht0]; rfl))
  have c1 : ∀ wx, Below WD.heap.size WD wx → wx.cell? ⟨g, 1, none⟩ = some (.int .i64 (m.2.tp)) := fun wx h => (hB.below (bnext hbd h)).cell 1 _ (by first | rfl | (rw [← ht1]; rfl))
  have c4 : ∀ wx, Below WD.heap.size WD wx → wx.cell? ⟨g, 4, none⟩ = some (.int .i64 (sq)) := fun wx h => (hB.below (bnext hbd h)).cell 4 _ (by first | rfl | (rw [← hsq]; rfl))
  have x9 : ∀ wx, Below WD.heap.size WD wx → wx.cell? ⟨G, 9, none⟩ = some (.int .u64 m.2.tc) := fun wx h => (hX.below (bnext hbd h)).cell 9 _ rfl
  have x10 : ∀ wx, Below WD.heap.size WD wx → wx.cell? ⟨G, 10, none⟩ = some (.int .i64 m.2.tp) := fun wx h => (hX.below (bnext hbd h)).cell 10 _ rfl
  have x6 : ∀ wx, Below WD.heap.size WD wx → wx.cell? ⟨G, 6, none⟩ = some (.int .i64 m.1.sq) := fun wx h => (hX.below (bnext hbd h)).cell 6 _ rfl
  refine rtake 0 rfl (by rfl) (by kernel_rfl) (by kernel_rfl) (by kernel_rfl) (fun _ _ _ h => h) hHeld (fun wx hwx => by go_simp; try with_reducible rfl) ?_
  try simp only [Act.put, List.setIfInBounds_toArray, List.set_cons_zero, List.set_cons_succ]
  refine rtake 1 rfl (by rfl) (by kernel_rfl) (by kernel_rfl) (by kernel_rfl) (fun _ _ _ h => h) hHeld (fun wx hwx => by go_simp; try with_reducible rfl) ?_
  try simp only [Act.put, List.setIfInBounds_toArray, List.set_cons_zero, List.set_cons_succ]
  refine rtake 2 rfl (by rfl) (by kernel_rfl) (by kernel_rfl) (by kernel_rfl) (fun _ _ _ h => h) hHeld (fun wx hwx => by go_simp; try with_reducible rfl) ?_
  try simp only [Act.put, List.setIfInBounds_toArray, List.set_cons_zero, List.set_cons_succ]
  refine rtake 3 rfl (by rfl) (by kernel_rfl) (by kernel_rfl) (by kernel_rfl) (fun _ _ _ h => h) hHeld (fun wx hwx => by go_simp; try with_reducible rfl) ?_
  try simp only [Act.put, List.setIfInBounds_toArray, List.set_cons_zero, List.set_cons_succ]
  refine rtake 4 rfl (by rfl) (by kernel_rfl) (by kernel_rfl) (by kernel_rfl) (fun _ _ _ h => h) hHeld (fun wx hwx => by go_simp; try with_reducible rfl) ?_
  try simp only [Act.put, List.setIfInBounds_toArray, List.set_cons_zero, List.set_cons_succ]
  refine rtake 5 rfl (by rfl) (by kernel_rfl) (by kernel_rfl) (by kernel_rfl) (fun _ _ _ h => h) hHeld (fun wx hwx => by go_simp; try with_reducible rfl) ?_
  try simp only [Act.put, List.setIfInBounds_toArray, List.set_cons_zero, List.set_cons_succ]
  refine rtake 6 rfl (by rfl) (by kernel_rfl) (by kernel_rfl) (by kernel_rfl) (fun _ _ _ h => h) hHeld (fun wx hwx => by go_simp; try with_reducible rfl) ?_
  try simp only [Act.put, List.setIfInBounds_toArray, List.set_cons_zero, List.set_cons_succ]
  refine rtake 7 rfl (by rfl) (by kernel_rfl) (by kernel_rfl) (by kernel_rfl) (fun _ _ _ h => h) hHeld (fun wx hwx => by go_simp; try with_reducible rfl) ?_
  try simp only [Act.put, List.setIfInBounds_toArray, List.set_cons_zero, List.set_cons_succ]
  refine rtake 8 rfl (by rfl) (by kernel_rfl) (by kernel_rfl) (by kernel_rfl) (fun _ _ _ h => h) hHeld (fun wx hwx => by go_simp; try with_reducible rfl) ?_
  try simp only [Act.put, List.setIfInBounds_toArray, List.set_cons_zero, List.set_cons_succ]
  refine rtake 9 rfl (by rfl) (by kernel_rfl) (by kernel_rfl) (by kernel_rfl) (fun _ _ _ h => h) hHeld (fun wx hwx => by go_simp; try with_reducible rfl) ?_
  try simp only [Act.put, List.setIfInBounds_toArray, List.set_cons_zero, List.set_cons_succ]
  refine rtake 10 rfl (by rfl) (by kernel_rfl) (by kernel_rfl) (by kernel_rfl) (fun _ _ _ h => h) hHeld (fun wx hwx => by go_simp; try with_reducible rfl) ?_
  try simp only [Act.put, List.setIfInBounds_toArray, List.set_cons_zero, List.set_cons_succ]
  refine rtake 11 rfl (by rfl) (by kernel_rfl) (by kernel_rfl) (by kernel_rfl) (fun _ _ _ h => h) hHeld (fun wx hwx => by go_simp; try with_reducible rfl) ?_
  try simp only [Act.put, List.setIfInBounds_toArray, List.set_cons_zero, List.set_cons_succ]
  refine rtake 12 rfl (by rfl) (by kernel_rfl) (by kernel_rfl) (by kernel_rfl) (fun _ _ _ h => h) hHeld (fun wx hwx => by go_simp; try with_reducible rfl) ?_
  try simp only [Act.put, List.setIfInBounds_toArray, List.set_cons_zero, List.set_cons_succ]
  refine rtake 13 rfl (by rfl) (by kernel_rfl) (by kernel_rfl) (by kernel_rfl) (fun _ _ _ h => h) hHeld (fun wx hwx => by go_simp; try with_reducible rfl) ?_
  try simp only [Act.put, List.setIfInBounds_toArray, List.set_cons_zero, List.set_cons_succ]
  refine rtake 14 rfl (by rfl) (by kernel_rfl) (by kernel_rfl) (by kernel_rfl) (fun _ _ _ h => h) hHeld (fun wx hwx => by go_simp; try with_reducible rfl) ?_
  try simp only [Act.put, List.setIfInBounds_toArray, List.set_cons_zero, List.set_cons_succ]
  refine rtake 15 rfl (by rfl) (by kernel_rfl) (by kernel_rfl) (by kernel_rfl) (fun _ _ _ h => h) hHeld (fun wx hwx => by go_simp; try with_reducible rfl) ?_
  try simp only [Act.put, List.setIfInBounds_toArray, List.set_cons_zero, List.set_cons_succ]
  refine rtake 16 rfl (by rfl) (by kernel_rfl) (by kernel_rfl) (by kernel_rfl) (fun _ _ _ h => h) hHeld (fun wx hwx => by go_simp; try with_reducible rfl) ?_
  try simp only [Act.put, List.setIfInBounds_toArray, List.set_cons_zero, List.set_cons_succ]
  refine rtake 17 rfl (by rfl) (by kernel_rfl) (by kernel_rfl) (by kernel_rfl) (fun _ _ _ h => h) hHeld (fun wx hwx => by go_simp; try with_reducible rfl) ?_
  try simp only [Act.put, List.setIfInBounds_toArray, List.set_cons_zero, List.set_cons_succ]
  refine wpAnyH_done (by kernel_rfl) ?_ _
  replace hb := bnext (bnext hb hbd) hHeld
  clear hHeld hbd c0 c1 c4 x9 x10 x6
  replace e1 := hid e1
  go_wp2_with fail
  go_ret
  exact ⟨ret_bool e1.out.symm, hb⟩

set_option maxRecDepth 100000 in
set_option maxHeartbeats 8000000 in
theorem way_any (b : Rk) (m : Hd × Bd) (w : World) (hb1 : -9223372036854775808 ≤ b.co ∧ b.co ≤ 9223372036854775807) (hm : HdOk m.1) :
    Calls Try.prog 18 #[.agg (rkK.enc b).toArray, .agg (msK.enc m).toArray] w fun e w' => e = .returned (.int .i64 (IntKind.i64.wrap (IntKind.i64.wrap (b.tk - IntKind.i64.wrap (m.2.st - b.st)) - addI b.co m.1.co / 65536) / 2)) ∧ Below w.heap.size w w' := by
  have z0 := bnew w (Obj.cells (rkK.enc b).toArray 43)
  have hR := Box.new w (rkK.enc b) 43
  have z1 := bnew (w.alloc (Obj.cells (rkK.enc b).toArray 43)) (Obj.cells (msK.enc m).toArray 31)
  have hX := Box.new (w.alloc (Obj.cells (rkK.enc b).toArray 43)) (msK.enc m) 31
  replace hR := hR.below z1
  have hb := z0
  replace hb := bnext hb z1
  clear z0
  clear z1
  have s1 : (w.alloc (Obj.cells (rkK.enc b).toArray 43)).heap.size = w.heap.size + 1 := by simp
  rw [s1] at hX
  go_enter Try.func18, Try.ntmps18
  go_upto_region 1 with fail
  change Code.wp Try.prog _ _ _ ((w.alloc (Obj.cells (rkK.enc b).toArray 43)).alloc (Obj.cells (msK.enc m).toArray 31))
  generalize ((w.alloc (Obj.cells (rkK.enc b).toArray 43)).alloc (Obj.cells (msK.enc m).toArray 31)) = W at *
  clear s1
  generalize hG : w.heap.size = G at *
  rw [← hG] at hb
  have l_hR : w.heap.size ≤ G := by omega
  have l_hX : w.heap.size ≤ G + 1 := by omega
  have n_hR_hX : G ≠ G + 1 := by omega
  refine wp_region_held_drew (S := fun w' => Below W.drew.heap.size W.drew w') (by kernel_rfl) (Below.refl _ _) ?_
  intro hHeld
  have hbd := Below.drew (Below.refl W.heap.size W)
  generalize W.drew = WD at *
  have r2 : ∀ wx, Below WD.heap.size WD wx → wx.cell? ⟨G, 2, none⟩ = some (.int .i64 b.tk) := fun wx h => (hR.below (bnext hbd h)).cell 2 _ rfl
  have r3 : ∀ wx, Below WD.heap.size WD wx → wx.cell? ⟨G, 3, none⟩ = some (.int .i64 b.st) := fun wx h => (hR.below (bnext hbd h)).cell 3 _ rfl
  have r4 : ∀ wx, Below WD.heap.size WD wx → wx.cell? ⟨G, 4, none⟩ = some (.int .i64 b.co) := fun wx h => (hR.below (bnext hbd h)).cell 4 _ rfl
  have x8 : ∀ wx, Below WD.heap.size WD wx → wx.cell? ⟨G + 1, 8, none⟩ = some (.int .i64 m.2.st) := fun wx h => (hX.below (bnext hbd h)).cell 8 _ rfl
  have x3 : ∀ wx, Below WD.heap.size WD wx → wx.cell? ⟨G + 1, 3, none⟩ = some (.int .i64 m.1.co) := fun wx h => (hX.below (bnext hbd h)).cell 3 _ rfl
  refine rtake 0 rfl (by rfl) (by kernel_rfl) (by kernel_rfl) (by kernel_rfl) (fun _ _ _ h => h) hHeld (fun wx hwx => by go_simp; try with_reducible rfl) ?_
  try simp only [Act.put, List.setIfInBounds_toArray, List.set_cons_zero, List.set_cons_succ]
  refine rtake 1 rfl (by rfl) (by kernel_rfl) (by kernel_rfl) (by kernel_rfl) (fun _ _ _ h => h) hHeld (fun wx hwx => by go_simp; try with_reducible rfl) ?_
  try simp only [Act.put, List.setIfInBounds_toArray, List.set_cons_zero, List.set_cons_succ]
  refine rtake 2 rfl (by rfl) (by kernel_rfl) (by kernel_rfl) (by kernel_rfl) (fun _ _ _ h => h) hHeld (fun wx hwx => by go_simp; try with_reducible rfl) ?_
  try simp only [Act.put, List.setIfInBounds_toArray, List.set_cons_zero, List.set_cons_succ]
  refine rtake 3 rfl (by rfl) (by kernel_rfl) (by kernel_rfl) (by kernel_rfl) (fun _ _ _ h => h) hHeld (fun wx hwx => by go_simp; try with_reducible rfl) ?_
  try simp only [Act.put, List.setIfInBounds_toArray, List.set_cons_zero, List.set_cons_succ]
  refine rtake 4 rfl (by rfl) (by kernel_rfl) (by kernel_rfl) (by kernel_rfl) (fun _ _ _ h => h) hHeld (fun wx hwx => by go_simp; try with_reducible rfl) ?_
  try simp only [Act.put, List.setIfInBounds_toArray, List.set_cons_zero, List.set_cons_succ]
  refine rtake 5 rfl (by rfl) (by kernel_rfl) (by kernel_rfl) (by kernel_rfl) (fun _ _ _ h => h) hHeld (fun wx hwx => by go_simp; try with_reducible rfl) ?_
  try simp only [Act.put, List.setIfInBounds_toArray, List.set_cons_zero, List.set_cons_succ]
  refine rtake 6 rfl (by rfl) (by kernel_rfl) (by kernel_rfl) (by kernel_rfl) (fun _ _ _ h => h) hHeld (fun wx hwx => by go_simp; try with_reducible rfl) ?_
  try simp only [Act.put, List.setIfInBounds_toArray, List.set_cons_zero, List.set_cons_succ]
  refine rtake 7 rfl (by rfl) (by kernel_rfl) (by kernel_rfl) (by kernel_rfl) (fun _ _ _ h => h) hHeld (fun wx hwx => by go_simp; try with_reducible rfl) ?_
  try simp only [Act.put, List.setIfInBounds_toArray, List.set_cons_zero, List.set_cons_succ]
  refine rtake 8 rfl (by rfl) (by kernel_rfl) (by kernel_rfl) (by kernel_rfl) (fun _ _ _ h => h) hHeld (fun wx hwx => by go_simp; try with_reducible rfl) ?_
  try simp only [Act.put, List.setIfInBounds_toArray, List.set_cons_zero, List.set_cons_succ]
  refine rtake 9 rfl (by rfl) (by kernel_rfl) (by kernel_rfl) (by kernel_rfl) (fun _ _ _ h => h) hHeld (fun wx hwx => by go_simp; try with_reducible rfl) ?_
  try simp only [Act.put, List.setIfInBounds_toArray, List.set_cons_zero, List.set_cons_succ]
  refine rtake 10 rfl (by rfl) (by kernel_rfl) (by kernel_rfl) (by kernel_rfl) (fun _ _ _ h => h) hHeld (fun wx hwx => by go_simp; try with_reducible rfl) ?_
  try simp only [Act.put, List.setIfInBounds_toArray, List.set_cons_zero, List.set_cons_succ]
  refine rtake 11 rfl (by rfl) (by kernel_rfl) (by kernel_rfl) (by kernel_rfl) (fun _ _ _ h => h) hHeld (fun wx hwx => by go_simp; try with_reducible rfl) ?_
  try simp only [Act.put, List.setIfInBounds_toArray, List.set_cons_zero, List.set_cons_succ]
  refine rcall 12 rfl (by kernel_rfl) (by rfl) (fun K' hK => ?_)
  go_simp
  refine (add_any b.co m.1.co _ hb1.1 hb1.2 hm.2.2.1 hm.2.2.2).mono ?_
  rintro e wy ⟨rfl, rfl⟩
  refine hK.out _ _ hHeld ?_
  clear hK K'
  try simp only [Act.put, List.setIfInBounds_toArray, List.set_cons_zero, List.set_cons_succ]
  refine rcall 13 rfl (by kernel_rfl) (by rfl) (fun K' hK => ?_)
  go_simp
  refine (floor_any _ _ (addI_inP _ _).1 (addI_inP _ _).2).mono ?_
  rintro e wy ⟨rfl, rfl⟩
  refine hK.out _ _ hHeld ?_
  clear hK K'
  try simp only [Act.put, List.setIfInBounds_toArray, List.set_cons_zero, List.set_cons_succ]
  refine rtake 14 rfl (by rfl) (by kernel_rfl) (by kernel_rfl) (by kernel_rfl) (fun _ _ _ h => h) hHeld (fun wx hwx => by go_simp; try with_reducible rfl) ?_
  try simp only [Act.put, List.setIfInBounds_toArray, List.set_cons_zero, List.set_cons_succ]
  refine rtake 15 rfl (by rfl) (by kernel_rfl) (by kernel_rfl) (by kernel_rfl) (fun _ _ _ h => h) hHeld (fun wx hwx => by go_simp; try with_reducible rfl) ?_
  try simp only [Act.put, List.setIfInBounds_toArray, List.set_cons_zero, List.set_cons_succ]
  refine wpAnyH_done (by kernel_rfl) ?_ _
  replace hb := bnext (bnext hb hbd) hHeld
  clear hHeld hbd r2 r3 r4 x8 x3
  go_wp2_with fail
  go_ret
  exact ⟨ret_int (by simp only [w64]), hb⟩

def repM (kind : Int) (m : Hd × Bd) (me : Int × Int) (at' : Int) : Hd × Bd := if pansB m at' then (⟨kind, m.1.dm, 0, 0, me.1, me.2, m.1.sq, 127⟩, { bd0 with st := at', tc := m.1.sc, tp := m.1.sp }) else zeroM

set_option maxRecDepth 100000 in
set_option maxHeartbeats 8000000 in
theorem reply_any (kind : Int) (m : Hd × Bd) (me : Int × Int) (at' : Int) (w : World) :
    Calls Try.prog 15 #[.int .i64 kind, .agg (msK.enc m).toArray, .agg (prK.enc me).toArray, .int .i64 at'] w fun e w' => e = .returned (.tuple #[.agg (msK.enc (repM kind m me at')).toArray, .bool (pansB m at')]) ∧ Below w.heap.size w w' := by
  have z0 := bnew w (Obj.cells (msK.enc m).toArray 31)
  have hX := Box.new w (msK.enc m) 31
  have z1 := bnew (w.alloc (Obj.cells (msK.enc m).toArray 31)) (Obj.cells (prK.enc me).toArray 24)
  have hP := Box.new (w.alloc (Obj.cells (msK.enc m).toArray 31)) (prK.enc me) 24
  replace hX := hX.below z1
  have z2 := bnew ((w.alloc (Obj.cells (msK.enc m).toArray 31)).alloc (Obj.cells (prK.enc me).toArray 24)) (Obj.cells (msK.enc zeroM).toArray 31)
  have hN := Box.new ((w.alloc (Obj.cells (msK.enc m).toArray 31)).alloc (Obj.cells (prK.enc me).toArray 24)) (msK.enc zeroM) 31
  replace hX := hX.below z2
  replace hP := hP.below z2
  have hb := z0
  replace hb := bnext hb z1
  replace hb := bnext hb z2
  clear z0
  clear z1
  clear z2
  have s1 : (w.alloc (Obj.cells (msK.enc m).toArray 31)).heap.size = w.heap.size + 1 := by simp
  rw [s1] at hP
  have s2 : ((w.alloc (Obj.cells (msK.enc m).toArray 31)).alloc (Obj.cells (prK.enc me).toArray 24)).heap.size = w.heap.size + 1 + 1 := by simp
  rw [s2] at hN
  go_enter Try.func15, Try.ntmps15
  go_upto_region 1 with fail
  change Code.wp Try.prog _ _ _ (((w.alloc (Obj.cells (msK.enc m).toArray 31)).alloc (Obj.cells (prK.enc me).toArray 24)).alloc (Obj.cells (msK.enc zeroM).toArray 31))
  generalize (((w.alloc (Obj.cells (msK.enc m).toArray 31)).alloc (Obj.cells (prK.enc me).toArray 24)).alloc (Obj.cells (msK.enc zeroM).toArray 31)) = W at *
  clear s1
  clear s2
  generalize hG : w.heap.size = G at *
  rw [← hG] at hb
  have l_hX : w.heap.size ≤ G := by omega
  have l_hP : w.heap.size ≤ G + 1 := by omega
  have n_hX_hP : G ≠ G + 1 := by omega
  have l_hN : w.heap.size ≤ G + 1 + 1 := by omega
  have n_hX_hN : G ≠ G + 1 + 1 := by omega
  have n_hP_hN : G + 1 ≠ G + 1 + 1 := by omega
  have x0 : W.cell? ⟨G, 0, none⟩ = some (.int .i64 m.1.ty) := hX.cell 0 _ rfl
  have x1 : W.cell? ⟨G, 1, none⟩ = some (.int .i64 m.1.dm) := hX.cell 1 _ rfl
  have x4 : W.cell? ⟨G, 4, none⟩ = some (.int .u64 m.1.sc) := hX.cell 4 _ rfl
  have x5 : W.cell? ⟨G, 5, none⟩ = some (.int .i64 m.1.sp) := hX.cell 5 _ rfl
  have x6 : W.cell? ⟨G, 6, none⟩ = some (.int .i64 m.1.sq) := hX.cell 6 _ rfl
  have p0 : W.cell? ⟨G + 1, 0, none⟩ = some (.int .u64 me.1) := hP.cell 0 _ rfl
  have p1 : W.cell? ⟨G + 1, 1, none⟩ = some (.int .i64 me.2) := hP.cell 1 _ rfl
  clear n_hX_hP n_hX_hN n_hP_hN l_hX l_hP hX hP
  by_cases hty : m.1.ty = 2
  case neg =>
    have n0 : (m.1.ty != 2) = true := by simp [hty]
    have e1 : pansB m at' = false := by simp [pansB, hty]
    have e2 : repM kind m me at' = zeroM := by unfold repM; rw [e1]; rfl
    go_wp2_with (first | (guard_target =~ wpList _ _ _ (⟨some 18, _, _, _, _, _⟩ :: _) _ _; refine wpList_build_any (op := ⟨some 18, .build _ _, _, _, _, _⟩) (by rfl) _ _ (by rfl) _ (by rfl) (msK.enc zeroM).toArray (by kernel_rfl) ?_) | (guard_target =~ wpList _ _ _ (⟨none, _, _, _, _, _⟩ :: _) _ _; refine msT.store (op := ⟨none, .store _ _ _, _, _, _, _⟩) (by rfl) _ _ (by rfl) (G + 1 + 1) (zeroM) (zeroM) _ (by rfl) (by rfl) hN ?_))
    exact bodyPost_ret (v := .tuple #[.agg (msK.enc (zeroM)).toArray, .bool false]) (msT.result2 rfl _ _ (G + 1 + 1) _ _ _ rfl rfl (hN.rowK _)) rfl ⟨by rw [e1, e2], below_setRow hb (by omega) _⟩
  rw [hty] at x0
  cases hmay : mayB at'
  case false =>
    have e1 : pansB m at' = false := by simp [pansB, hmay]
    have e2 : repM kind m me at' = zeroM := by unfold repM; rw [e1]; rfl
    go_wp2_with fail
    refine (may_any _ _).mono ?_
    rintro e w1 ⟨rfl, rfl⟩
    rw [hmay]
    go_wp2_with (first | (guard_target =~ wpList _ _ _ (⟨some 18, _, _, _, _, _⟩ :: _) _ _; refine wpList_build_any (op := ⟨some 18, .build _ _, _, _, _, _⟩) (by rfl) _ _ (by rfl) _ (by rfl) (msK.enc zeroM).toArray (by kernel_rfl) ?_) | (guard_target =~ wpList _ _ _ (⟨none, _, _, _, _, _⟩ :: _) _ _; refine msT.store (op := ⟨none, .store _ _ _, _, _, _, _⟩) (by rfl) _ _ (by rfl) (G + 1 + 1) (zeroM) (zeroM) _ (by rfl) (by rfl) hN ?_))
    exact bodyPost_ret (v := .tuple #[.agg (msK.enc (zeroM)).toArray, .bool false]) (msT.result2 rfl _ _ (G + 1 + 1) _ _ _ rfl rfl (hN.rowK _)) rfl ⟨by rw [e1, e2], below_setRow hb (by omega) _⟩
  have e1 : pansB m at' = true := by simp [pansB, hmay, hty]
  obtain ⟨m1, hm1⟩ : ∃ m1 : Hd × Bd, m1 = (⟨kind, m.1.dm, 0, 0, me.1, me.2, m.1.sq, 127⟩, { bd0 with st := at', tc := m.1.sc, tp := m.1.sp }) := ⟨_, rfl⟩
  have e2 : repM kind m me at' = m1 := by unfold repM; rw [e1, hm1]; rfl
  replace hm1 := hid hm1
  go_wp2_with fail
  refine (may_any _ _).mono ?_
  rintro e w1 ⟨rfl, rfl⟩
  rw [hmay]
  go_wp2_with (first | (guard_target =~ wpList _ _ _ (⟨some 28, _, _, _, _, _⟩ :: _) _ _; refine wpList_build_any (op := ⟨some 28, .build _ _, _, _, _, _⟩) (by rfl) _ _ (by rfl) _ (by rfl) (msK.enc m1).toArray (by rw [hm1.out]; kernel_rfl) ?_) | (guard_target =~ wpList _ _ _ (⟨none, _, _, _, _, _⟩ :: _) _ _; refine msT.store (op := ⟨none, .store _ _ _, _, _, _, _⟩) (by rfl) _ _ (by rfl) (G + 1 + 1) (m1) (zeroM) _ (by rfl) (by rfl) hN ?_))
  exact bodyPost_ret (v := .tuple #[.agg (msK.enc (m1)).toArray, .bool true]) (msT.result2 rfl _ _ (G + 1 + 1) _ _ _ rfl rfl (hN.rowK _)) rfl ⟨by rw [e1, e2], below_setRow hb (by omega) _⟩

end Go.Proofs.Ytelonfmmcpgodaa
