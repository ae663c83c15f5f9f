/- The walk of the law HeaderApart (gen_apart.py). -/
import Derived.Test.YtomfpmoglamflaaHeadAwake
import Derived.Test.YtomfpmoglamflaaHeadSay
namespace Go.Proofs.Ytomfpmoglamflaa
open Go.RowKit Go.Proofs
set_option linter.unusedVariables false
set_option linter.unusedSimpArgs false

/-- All alike, or the first one that is not. -/
theorem hd_cases (a b : Hd) : (a.ty = b.ty ∧ a.dm = b.dm ∧ a.fl = b.fl ∧ a.co = b.co ∧ a.sc = b.sc ∧ a.sp = b.sp ∧ a.sq = b.sq ∧ a.lg = b.lg) ∨
    (a.ty ≠ b.ty) ∨
    (a.ty = b.ty ∧ a.dm ≠ b.dm) ∨
    (a.ty = b.ty ∧ a.dm = b.dm ∧ a.fl ≠ b.fl) ∨
    (a.ty = b.ty ∧ a.dm = b.dm ∧ a.fl = b.fl ∧ a.co ≠ b.co) ∨
    (a.ty = b.ty ∧ a.dm = b.dm ∧ a.fl = b.fl ∧ a.co = b.co ∧ a.sc ≠ b.sc) ∨
    (a.ty = b.ty ∧ a.dm = b.dm ∧ a.fl = b.fl ∧ a.co = b.co ∧ a.sc = b.sc ∧ a.sp ≠ b.sp) ∨
    (a.ty = b.ty ∧ a.dm = b.dm ∧ a.fl = b.fl ∧ a.co = b.co ∧ a.sc = b.sc ∧ a.sp = b.sp ∧ a.sq ≠ b.sq) ∨
    (a.ty = b.ty ∧ a.dm = b.dm ∧ a.fl = b.fl ∧ a.co = b.co ∧ a.sc = b.sc ∧ a.sp = b.sp ∧ a.sq = b.sq ∧ a.lg ≠ b.lg) := by
  by_cases h0 : a.ty = b.ty
  case neg => exact .inr (.inl h0)
  by_cases h1 : a.dm = b.dm
  case neg => exact .inr (.inr (.inl ⟨h0, h1⟩))
  by_cases h2 : a.fl = b.fl
  case neg => exact .inr (.inr (.inr (.inl ⟨h0, h1, h2⟩)))
  by_cases h3 : a.co = b.co
  case neg => exact .inr (.inr (.inr (.inr (.inl ⟨h0, h1, h2, h3⟩))))
  by_cases h4 : a.sc = b.sc
  case neg => exact .inr (.inr (.inr (.inr (.inr (.inl ⟨h0, h1, h2, h3, h4⟩)))))
  by_cases h5 : a.sp = b.sp
  case neg => exact .inr (.inr (.inr (.inr (.inr (.inr (.inl ⟨h0, h1, h2, h3, h4, h5⟩))))))
  by_cases h6 : a.sq = b.sq
  case neg => exact .inr (.inr (.inr (.inr (.inr (.inr (.inr (.inl ⟨h0, h1, h2, h3, h4, h5, h6⟩)))))))
  by_cases h7 : a.lg = b.lg
  case neg => exact .inr (.inr (.inr (.inr (.inr (.inr (.inr (.inr (⟨h0, h1, h2, h3, h4, h5, h6, h7⟩))))))))
  exact .inl ⟨h0, h1, h2, h3, h4, h5, h6, h7⟩

/-- Alike in bytes, alike in all. -/
theorem heads_iff (a b : Hd) (n : Int) (ha : HdOk a) (hb : HdOk b) (pa : putB a n = true) (pb : putB b n = true) : headS a n = headS b n ↔ a = b := by
  constructor
  · intro h
    have e1 := (head_got a n [] ha pa).1
    have e2 := (head_got b n [] hb pb).1
    rw [← e1, ← e2, h]
  · rintro rfl
    rfl

set_option maxRecDepth 100000 in
set_option maxHeartbeats 8000000 in
theorem headerApart_walk (a : Hd) (ra : List Value) (hra : ra.length = 15) (oka : HdOk a) (b : Hd) (rb : List Value) (hrb : rb.length = 15) (okb : HdOk b) (w : World) :
    Calls Try.prog 7 #[.agg (msgL a ra).toArray, .agg (msgL b rb).toArray] w fun e w' => e = .returned (.bool true) ∧ Below w.heap.size w w' := by
  have hla := msgL_length a ra hra
  have hlb := msgL_length b rb hrb
  go_enter Try.func7, Try.ntmps7
  go_upto_region 1 with fail
  have hA : Box (w.alloc (Obj.cells (msgL a ra).toArray 28)) w.heap.size (msgL a ra) 28 := Box.new _ _ _
  have hB : Box ((w.alloc (Obj.cells (msgL a ra).toArray 28)).alloc (Obj.cells (msgL b rb).toArray 28)) (w.heap.size + 1) (msgL b rb) 28 := heap_alloc2_new w _ _
  replace hA := hA.below (bnew _ (Obj.cells (msgL b rb).toArray 28))
  have hbw := bnew2 w (Obj.cells (msgL a ra).toArray 28) (Obj.cells (msgL b rb).toArray 28)
  generalize ((w.alloc (Obj.cells (msgL a ra).toArray 28)).alloc (Obj.cells (msgL b rb).toArray 28)) = W at *
  have HA := hid hA.hd
  have HB := hid hB.hd
  have HBx := hid fun (wx : World) (hx : Below W.heap.size W wx) => hB.below hx
  generalize w.heap.size + 1 = g1 at *
  go_wp2_with (refine wpList_load_msg (op := ⟨some 11, .load _ _, _, _, _, _⟩) rfl _ rfl w.heap.size rfl (msgL a ra) _ hA hla ?_)
  cases pa : putB a 60
  · -- no
    refine (headPut_no a ra 60 _ hra pa).mono ?_
    rintro e w1 ⟨rfl, hb1⟩
    have hBox1 := HBx.out _ hb1
    go_wp2_with (refine wpList_load_msg (op := ⟨some 16, .load _ _, _, _, _, _⟩) rfl _ rfl g1 rfl (msgL b rb) _ hBox1 hlb ?_)
    cases pb : putB b 60
    · -- no
      refine (headPut_no b rb 60 _ hrb pb).mono ?_
      rintro e w2 ⟨rfl, hb2⟩
      go_wp2_with fail
      refine (awake06_any _).mono ?_
      rintro e w4 ⟨rfl, hb4⟩
      go_wp2_with fail
      go_ret
      exact ⟨rfl, bnext hbw (bnext (bnext hb1 hb2) hb4)⟩
    · -- yes
      refine (headPut_yes b rb 60 _ hrb okb.1 pb).mono ?_
      rintro e w2 ⟨v2, rfl, own2, hb2⟩
      go_wp2_with fail
      refine (awake06_any _).mono ?_
      rintro e w4 ⟨rfl, hb4⟩
      go_wp2_with fail
      go_ret
      exact ⟨rfl, bnext hbw (bnext (bnext hb1 hb2) hb4)⟩
  · -- yes
    refine (headPut_yes a ra 60 _ hra oka.1 pa).mono ?_
    rintro e w1 ⟨v1, rfl, own1, hb1⟩
    have hBox1 := HBx.out _ hb1
    go_wp2_with (refine wpList_load_msg (op := ⟨some 16, .load _ _, _, _, _, _⟩) rfl _ rfl g1 rfl (msgL b rb) _ hBox1 hlb ?_)
    cases pb : putB b 60
    · -- no
      refine (headPut_no b rb 60 _ hrb pb).mono ?_
      rintro e w2 ⟨rfl, hb2⟩
      go_wp2_with fail
      refine (awake06_any _).mono ?_
      rintro e w4 ⟨rfl, hb4⟩
      go_wp2_with fail
      go_ret
      exact ⟨rfl, bnext hbw (bnext (bnext hb1 hb2) hb4)⟩
    · -- yes
      refine (headPut_yes b rb 60 _ hrb okb.1 pb).mono ?_
      rintro e w2 ⟨v2, rfl, own2, hb2⟩
      have HI := heads_iff a b 60 oka okb pa pb
      have HLa := headS_length a 60
      have HLb := headS_length b 60
      have HS1 := hid (own1.bytes.below hb2).strs
      have HS2 := hid own2.bytes.strs
      generalize headS a 60 = LA at *
      generalize headS b 60 = LB at *
      have hb12 := bnext hb1 hb2
      have hst1 := HS1.out _ (Below.refl _ _)
      have hst2 := HS2.out _ (Below.refl _ _)
      clear HBx hBox1 hA hB hb1 hb2 own1 own2 HLa HLb HS1 HS2
      obtain ⟨a0, a1, a2, a3, a4, a5, a6, a7⟩ := HA.out _ hb12
      obtain ⟨d0, d1, d2, d3, d4, d5, d6, d7⟩ := HB.out _ hb12
      go_upto_region 5 with fail
      rcases hd_cases a b with hd | hd | hd | hd | hd | hd | hd | hd | hd
      · -- case 0
        obtain ⟨h0, h1, h2, h3, h4, h5, h6, h7⟩ := hd
        have hE : LA = LB := HI.2 (by obtain ⟨_, _, _, _, _, _, _, _⟩ := a; obtain ⟨_, _, _, _, _, _, _, _⟩ := b; simp only [Hd.mk.injEq] at *; exact ⟨h0, h1, h2, h3, h4, h5, h6, h7⟩)
        subst hE
        clear HI HA HB
        go_wp2_with fail
        refine (awake06_any _).mono ?_
        rintro e w4 ⟨rfl, hb4⟩
        go_wp2_with fail
        go_ret
        exact ⟨rfl, bnext hbw (bnext hb12 hb4)⟩
      · -- case 1
        have hn := hd
        have hE : (LA == LB) = false := by rw [beq_eq_false_iff_ne]; intro h; exact hn (by rw [HI.1 h])
        have hq : (a.ty == b.ty) = false := beq_false_of_ne hn
        clear HI HA HB
        go_wp2_with fail
        refine (awake06_any _).mono ?_
        rintro e w4 ⟨rfl, hb4⟩
        go_wp2_with fail
        go_ret
        exact ⟨rfl, bnext hbw (bnext hb12 hb4)⟩
      · -- case 2
        obtain ⟨h0, hn⟩ := hd
        have hE : (LA == LB) = false := by rw [beq_eq_false_iff_ne]; intro h; exact hn (by rw [HI.1 h])
        have hq : (a.dm == b.dm) = false := beq_false_of_ne hn
        clear HI HA HB
        go_wp2_with fail
        refine (awake06_any _).mono ?_
        rintro e w4 ⟨rfl, hb4⟩
        go_wp2_with fail
        go_ret
        exact ⟨rfl, bnext hbw (bnext hb12 hb4)⟩
      · -- case 3
        obtain ⟨h0, h1, hn⟩ := hd
        have hE : (LA == LB) = false := by rw [beq_eq_false_iff_ne]; intro h; exact hn (by rw [HI.1 h])
        have hq : (a.fl == b.fl) = false := beq_false_of_ne hn
        clear HI HA HB
        go_wp2_with fail
        refine (awake06_any _).mono ?_
        rintro e w4 ⟨rfl, hb4⟩
        go_wp2_with fail
        go_ret
        exact ⟨rfl, bnext hbw (bnext hb12 hb4)⟩
      · -- case 4
        obtain ⟨h0, h1, h2, hn⟩ := hd
        have hE : (LA == LB) = false := by rw [beq_eq_false_iff_ne]; intro h; exact hn (by rw [HI.1 h])
        have hq : (a.co == b.co) = false := beq_false_of_ne hn
        clear HI HA HB
        go_wp2_with fail
        refine (awake06_any _).mono ?_
        rintro e w4 ⟨rfl, hb4⟩
        go_wp2_with fail
        go_ret
        exact ⟨rfl, bnext hbw (bnext hb12 hb4)⟩
      · -- case 5
        obtain ⟨h0, h1, h2, h3, hn⟩ := hd
        have hE : (LA == LB) = false := by rw [beq_eq_false_iff_ne]; intro h; exact hn (by rw [HI.1 h])
        have hq : (a.sc == b.sc) = false := beq_false_of_ne hn
        clear HI HA HB
        go_wp2_with fail
        refine (awake06_any _).mono ?_
        rintro e w4 ⟨rfl, hb4⟩
        go_wp2_with fail
        go_ret
        exact ⟨rfl, bnext hbw (bnext hb12 hb4)⟩
      · -- case 6
        obtain ⟨h0, h1, h2, h3, h4, hn⟩ := hd
        have hE : (LA == LB) = false := by rw [beq_eq_false_iff_ne]; intro h; exact hn (by rw [HI.1 h])
        have hq : (a.sp == b.sp) = false := beq_false_of_ne hn
        clear HI HA HB
        go_wp2_with fail
        refine (awake06_any _).mono ?_
        rintro e w4 ⟨rfl, hb4⟩
        go_wp2_with fail
        go_ret
        exact ⟨rfl, bnext hbw (bnext hb12 hb4)⟩
      · -- case 7
        obtain ⟨h0, h1, h2, h3, h4, h5, hn⟩ := hd
        have hE : (LA == LB) = false := by rw [beq_eq_false_iff_ne]; intro h; exact hn (by rw [HI.1 h])
        have hq : (a.sq == b.sq) = false := beq_false_of_ne hn
        clear HI HA HB
        go_wp2_with fail
        refine (awake06_any _).mono ?_
        rintro e w4 ⟨rfl, hb4⟩
        go_wp2_with fail
        go_ret
        exact ⟨rfl, bnext hbw (bnext hb12 hb4)⟩
      · -- case 8
        obtain ⟨h0, h1, h2, h3, h4, h5, h6, hn⟩ := hd
        have hE : (LA == LB) = false := by rw [beq_eq_false_iff_ne]; intro h; exact hn (by rw [HI.1 h])
        have hq : (a.lg == b.lg) = false := beq_false_of_ne hn
        clear HI HA HB
        go_wp2_with fail
        refine (awake06_any _).mono ?_
        rintro e w4 ⟨rfl, hb4⟩
        go_wp2_with fail
        go_ret
        exact ⟨rfl, bnext hbw (bnext hb12 hb4)⟩
end Go.Proofs.Ytomfpmoglamflaa
