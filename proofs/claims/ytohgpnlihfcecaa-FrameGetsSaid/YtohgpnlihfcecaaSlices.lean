/- Package slices over bytes: Clone; Grow of nil; Concat of two. -/
import Derived.Test.YtohgpnlihfcecaaB1
import Derived.LoopN
namespace Go.Proofs.Ytohgpnlihfcecaa
open Go.RowKit Go.Proofs Go.Lib
set_option maxRecDepth 50000
set_option linter.unusedVariables false
set_option linter.unusedSimpArgs false

theorem eql_nil (c : Nat) (w : World) : (binOp .eql 43 (.slice none 0 c) (.slice none 0 0)).run Try.prog w = .ok (.bool true) w := by kernel_rfl
theorem eql_some (a : Addr) (n c : Nat) (w : World) : (binOp .eql 43 (.slice (some a) n c) (.slice none 0 0)).run Try.prog w = .ok (.bool false) w := by kernel_rfl

set_option maxHeartbeats 800000 in
theorem clone_any (v : Value) (l : List UInt8) (w : World) (hB : Bytes w v l) (hl : l.length ≤ 140737488355328) :
    Calls Try.prog 35 #[v] w (NewBytes w l) := by
  have HB := hid fun (w' : World) (h : Below w.heap.size w w') => hB.below h
  obtain ⟨p, cap, rfl, hcap, hmax, hpat⟩ := id hB
  cases p with
  | none =>
    obtain rfl : l = [] := by
      rcases hpat with h | ⟨b, off, h, _⟩
      · exact h
      · cases h
    clear hcap hmax hpat hB
    have hq := eql_nil cap
    go_enter Try.func35, Try.ntmps35
    go_wp2_with fail
    go_ret
    exact ⟨_, rfl, Own.nil w _, Below.refl _ _⟩
  | some a =>
    have hn : Own (w.alloc (Obj.cells (cellsOf []).toArray 5)) w.heap.size (.slice (some ⟨w.heap.size, 0, none⟩) 0 0) [] := Own.lit w [] (by simp [maxLen])
    have hb := bnew w (Obj.cells (cellsOf []).toArray 5)
    have hB2 := HB.out _ hb
    have hsz := hb.size
    clear hcap hmax hpat hB
    have hq := eql_some a l.length cap
    go_enter Try.func35, Try.ntmps35
    go_wp2_with (at_builtin; refine wpList_append_bytes (o := ⟨some 7, _, _, _, _, _⟩) rfl _ _ rfl rfl w.heap.size _ _ [] l rfl rfl hn hB2 ?_ hsz ?_; (simp; omega); intro v' w' hown hbel; rw [List.nil_append] at hown)
    go_ret
    exact ⟨v', rfl, hown, hb.trans hbel⟩

theorem append_nil_zeros (w : World) (k : Nat) (hk : 0 < k) (hs : k ≤ 140737488355328) :
    ∃ cap w', (Builtin.append_ #[43, 3] 43 #[.slice none 0 0, .int .i64 (k : Int)]).run Try.prog w = .ok (.slice (some ⟨w.heap.size, 0, none⟩) k cap) w' ∧ k ≤ cap ∧ cap ≤ maxLen ∧ Own w' w.heap.size (.slice (some ⟨w.heap.size, 0, none⟩) 0 cap) [] ∧ Below w.heap.size w w' := by
  obtain ⟨i0, hi, hz0, hz1, hz2⟩ := info_parts info_u8
  have hr := run_append_grow_zeros (P := Try.prog) w 43 3 43 5 i0 _ .i64 _ Try.underlying43 Try.underlying3 hi hz0 none 0 0 [] (run_firstCells_none w.drew i0.size 0 0 0) k hk (by rw [hz1]; decide) (by omega) (by omega) (by rw [hz2]; omega)
    (growslice_fits (by omega) (by rw [hz2]; omega))
  rw [Nat.zero_add] at hr
  have hge := grownCap_ge w k 0 5
  have hcm2 : grownCap w k 0 5 ≤ maxLen := grownCap_le_maxLen w k 0 5 (by unfold maxLen; omega)
  refine ⟨_, _, hr, hge, hcm2, ?_, (Below.drew (Below.refl w.heap.size w)).alloc (Nat.le_refl _) _⟩
  unfold Own
  refine ⟨rfl, .inr ⟨w.heap.size, _, _, rfl, Nat.le_refl _, heap_alloc_new w.drew _, Nat.zero_le _, hcm2, ?_, ?_⟩⟩
  · rw [zeroCells_u8, zeroCells_u8]
    simp only [Array.size_append, List.size_toArray, cellsOf_length, List.length_replicate, List.length_nil]
    omega
  · simp [cellsOf]

set_option maxHeartbeats 1600000 in
theorem grow_nil (k : Nat) (w : World) (hk : k ≤ 140737488355328) :
    Calls Try.prog 79 #[.slice none 0 0, .int .i64 (k : Int)] w (NewBytes w []) := by
  by_cases h0 : k = 0
  · subst h0
    go_enter Try.func79, Try.ntmps79
    go_wp2_with fail
    go_ret
    exact ⟨_, rfl, Own.nil w _, Below.refl _ _⟩
  · obtain ⟨cap, w2, hr, hcap, hmax, hown, hbel⟩ := append_nil_zeros w k (by omega) hk
    have hcI : (0 : Int) ≤ (cap : Int) := by omega
    have hkI : (0 : Int) < (k : Int) := by omega
    unfold maxLen at hmax
    clear h0
    go_enter Try.func79, Try.ntmps79
    go_wp2_with (at_builtin; refine wpList_append_run (o := ⟨some 22, _, _, _, _, _⟩) w rfl _ _ _ _ rfl _ _ rfl rfl _ w2 hr ?_)
    go_ret
    exact ⟨_, rfl, hown, hbel⟩

set_option maxRecDepth 100000 in
set_option maxHeartbeats 1600000 in
theorem concat_two (g : Nat) (v1 v2 : Value) (l1 l2 : List UInt8) (w : World) (h1 : Bytes w v1 l1) (h2 : Bytes w v2 l2) (c1 : w.cell? ⟨g, 0, none⟩ = some v1) (c2 : w.cell? ⟨g, 1, none⟩ = some v2) (hg : g < w.heap.size) (hs : l1.length + l2.length ≤ 140737488355328) :
    Calls Try.prog 36 #[.slice (some ⟨g, 0, none⟩) 2 2] w (NewBytes w (l1 ++ l2)) := by
  have H1 := hid fun (w' : World) (h : Below w.heap.size w w') => h1.below h
  have H2 := hid fun (w' : World) (h : Below w.heap.size w w') => h2.below h
  have HC1 := hid fun (w' : World) (h : Below w.heap.size w w') => ((h.cell (p := ⟨g, 0, none⟩) hg).trans c1)
  have HC2 := hid fun (w' : World) (h : Below w.heap.size w w') => ((h.cell (p := ⟨g, 1, none⟩) hg).trans c2)
  obtain ⟨p1, cap1, rfl, hcap1, hmax1, -⟩ := id h1
  obtain ⟨p2, cap2, rfl, hcap2, hmax2, -⟩ := id h2
  have Hs := hid hs
  have s1 : (0 : Int) + (l1.length : Int) = (l1.length : Int) := by omega
  clear h1 h2 hcap1 hcap2 hmax1 hmax2
  go_enter Try.func36, Try.ntmps36
  go_wp2_with fail
  refine wp_loop_rounds 3 ?_
  rw [rounds_succ]
  go_wp2_with fail
  rw [rounds_succ]
  go_wp2_with fail
  rw [rounds_succ]
  go_wp2_with fail
  have hgw := grow_nil (l1.length + l2.length) w Hs.out
  rw [Int.natCast_add] at hgw
  refine hgw.mono ?_
  rintro e w1 ⟨x, rfl, own, hb⟩
  clear c1 c2 hgw s1
  have c1 := HC1.out _ hb
  have c2 := HC2.out _ hb
  have hB1 := H1.out _ hb
  have hsz := hb.size
  go_wp2_with fail
  refine wp_loop_rounds 3 ?_
  rw [rounds_succ]
  go_wp2_with (at_builtin; refine wpList_append_bytes (o := ⟨some 33, _, _, _, _, _⟩) rfl _ _ rfl rfl w.heap.size _ _ [] l1 rfl rfl own hB1 ?_ hsz ?_; (have := Hs.out; simp; omega); intro x1 w2 own1 hb1)
  replace hb := hb.trans hb1
  clear c1 c2 hB1 hsz own hb1
  have c1 := HC1.out _ hb
  have c2 := HC2.out _ hb
  have hB2 := H2.out _ hb
  have hsz := hb.size
  rw [rounds_succ]
  go_wp2_with (at_builtin; refine wpList_append_bytes (o := ⟨some 33, _, _, _, _, _⟩) rfl _ _ rfl rfl w.heap.size _ _ ([] ++ l1) l2 rfl rfl own1 hB2 ?_ hsz ?_; (have := Hs.out; simp; omega); intro x2 w3 own2 hb2)
  replace hb := hb.trans hb2
  rw [List.nil_append] at own2
  rw [rounds_succ]
  go_wp2_with fail
  go_ret
  exact ⟨x2, rfl, own2, hb⟩
end Go.Proofs.Ytohgpnlihfcecaa
