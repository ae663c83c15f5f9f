/- The middle one of the last ones, plainly (chapter 19), SameInts, and the contracts of the program's own filter (gen_medlaws.py). -/
import Derived.Test.YtcccjjghalajoaaObj
import Derived.Test.YtcccjjghalajoaaPlace
namespace Go.Proofs.Ytcccjjghalajoaa
open Go.RowKit Go.Proofs
set_option maxRecDepth 50000
set_option linter.unusedVariables false
set_option linter.unusedSimpArgs false

def IsMed (l : List Int) (m : Int) : Prop := m ∈ l ∧ l.countP (fun x => decide (x < m)) ≤ (l.length - 1) / 2 ∧ (l.length - 1) / 2 < l.countP (fun x => decide (x ≤ m))
theorem IsMed.unique {l : List Int} {a b : Int} (ha : IsMed l a) (hb : IsMed l b) : a = b := by
  have key : ∀ {a b : Int}, IsMed l a → IsMed l b → ¬ a < b := by
    intro a b ha hb hab
    have h1 : l.countP (fun x => decide (x ≤ a)) ≤ l.countP (fun x => decide (x < b)) := List.countP_mono_left (fun x _ hx => by
      have := of_decide_eq_true hx
      exact decide_eq_true (by omega))
    have := ha.2.2
    have := hb.2.1
    omega
  have h1 := key ha hb
  have h2 := key hb ha
  omega
theorem IsMed.perm {l s : List Int} {m : Int} (hp : l.Perm s) (h : IsMed l m) : IsMed s m := by
  refine ⟨hp.mem_iff.1 h.1, ?_, ?_⟩
  · rw [← hp.countP_eq, ← hp.length_eq]; exact h.2.1
  · rw [← hp.countP_eq, ← hp.length_eq]; exact h.2.2
theorem isMed_sorted {s : List Int} (hs : s.Pairwise (· ≤ ·)) (hl : 0 < s.length) : IsMed s (s.getD ((s.length - 1) / 2) 0) := by
  obtain ⟨k, hk⟩ : ∃ k, (s.length - 1) / 2 = k := ⟨_, rfl⟩
  have hkl : k < s.length := by omega
  have hg : s.getD k 0 = s[k] := by rw [List.getD_eq_getElem?_getD, List.getElem?_eq_getElem hkl]; rfl
  have hlo : ∀ (i : Nat) (hi : i < s.length), i ≤ k → s[i] ≤ s[k] := fun i hi hik => by
    rcases Nat.lt_or_ge i k with h | h
    · exact List.pairwise_iff_getElem.1 hs i k hi hkl h
    · obtain rfl : i = k := by omega
      exact Int.le_refl _
  have hhi : ∀ (i : Nat) (hi : i < s.length), k ≤ i → s[k] ≤ s[i] := fun i hi hik => by
    rcases Nat.lt_or_ge k i with h | h
    · exact List.pairwise_iff_getElem.1 hs k i hkl hi h
    · obtain rfl : i = k := by omega
      exact Int.le_refl _
  unfold IsMed
  rw [hk, hg]
  refine ⟨List.getElem_mem hkl, ?_, ?_⟩
  · have e : s = s.take k ++ s.drop k := (List.take_append_drop k s).symm
    have z : (s.drop k).countP (fun x => decide (x < s[k])) = 0 := List.countP_eq_zero.2 fun x hx => by
      obtain ⟨i, hi, rfl⟩ := List.mem_iff_getElem.1 hx
      rw [List.getElem_drop]
      have := hhi (k + i) (by rw [List.length_drop] at hi; omega) (by omega)
      simp only [decide_eq_true_eq]
      omega
    have h1 : (s.take k).countP (fun x => decide (x < s[k])) ≤ (s.take k).length := List.countP_le_length
    rw [List.length_take] at h1
    have h2 : s.countP (fun x => decide (x < s[k])) = (s.take k).countP (fun x => decide (x < s[k])) + (s.drop k).countP (fun x => decide (x < s[k])) := by
      rw [← List.countP_append, List.take_append_drop]
    omega
  · have z : (s.take (k + 1)).countP (fun x => decide (x ≤ s[k])) = (s.take (k + 1)).length := List.countP_eq_length.2 fun x hx => by
      obtain ⟨i, hi, rfl⟩ := List.mem_iff_getElem.1 hx
      rw [List.getElem_take]
      rw [List.length_take] at hi
      exact decide_eq_true (hlo i (by omega) (by omega))
    rw [List.length_take] at z
    have h2 : s.countP (fun x => decide (x ≤ s[k])) = (s.take (k + 1)).countP (fun x => decide (x ≤ s[k])) + (s.drop (k + 1)).countP (fun x => decide (x ≤ s[k])) := by
      rw [← List.countP_append, List.take_append_drop]
    omega
def putL (n : Nat) (l : List Int) (v : Int) : List Int := if n < l.length + 1 then (l ++ [v]).drop 1 else l ++ [v]
theorem putL_ne (n : Nat) (h : 1 ≤ n) (l : List Int) (v : Int) (hl : l.length ≤ n) : 0 < (putL n l v).length ∧ (putL n l v).length ≤ n := by
  unfold putL
  split
  · rw [List.length_drop, List.length_append, List.length_singleton]; omega
  · rw [List.length_append, List.length_singleton]; omega
theorem putL_last (n : Nat) (h : 1 ≤ n) (l : List Int) (v : Int) (hl : l.length ≤ n) : (putL n l v).getD ((putL n l v).length - 1) 0 = v := by
  unfold putL
  split
  · rw [List.length_drop, List.length_append, List.length_singleton, List.getD_eq_getElem?_getD, List.getElem?_drop, List.getElem?_append_right (by omega), show 1 + (l.length + 1 - 1 - 1) - l.length = 0 by omega]
    rfl
  · rw [List.length_append, List.length_singleton, List.getD_eq_getElem?_getD, List.getElem?_append_right (by omega), show l.length + 1 - 1 - l.length = 0 by omega]
    rfl
/-- The last n of all that came. -/
theorem putL_all (n : Nat) (h : 1 ≤ n) (a : List Int) (v : Int) : putL n (a.drop (a.length - n)) v = (a ++ [v]).drop ((a ++ [v]).length - n) := by
  unfold putL
  rw [List.length_drop, List.length_append, List.length_singleton]
  split
  · rw [← List.drop_append_of_le_length (by omega), List.drop_drop]
    congr 1
    omega
  · rw [← List.drop_append_of_le_length (by omega)]
    congr 1
    omega

instance (l : List Int) (m : Int) : Decidable (IsMed l m) := by unfold IsMed; exact inferInstance
def MedOf (l : List Int) (m : Int) : Prop := if 0 < l.length then IsMed l m else m = 0
theorem MedOf.unique {l : List Int} {a b : Int} (ha : MedOf l a) (hb : MedOf l b) : a = b := by
  unfold MedOf at ha hb
  split at ha
  · rename_i h
    rw [if_pos h] at hb
    exact ha.unique hb
  · rename_i h
    rw [if_neg h] at hb
    exact ha.trans hb.symm
theorem MedOf.is {l : List Int} {a : Int} (ha : MedOf l a) (h : 0 < l.length) : IsMed l a := by
  unfold MedOf at ha
  rwa [if_pos h] at ha
def clampN (x : Int) : Nat := if x < 1 then 1 else if 15 < x then 15 else x.toNat
theorem clampN_in (x : Int) : 1 ≤ clampN x ∧ clampN x ≤ 15 := by
  unfold clampN
  split
  · omega
  · split <;> omega
theorem clampN_at {x : Int} (h1 : 1 ≤ x) (h2 : x ≤ 15) : clampN x = x.toNat := by
  unfold clampN
  rw [if_neg (by omega), if_neg (by omega)]
def InM (s : Nat × List Int) : Prop := 1 ≤ s.1 ∧ s.1 ≤ 15 ∧ s.2.length ≤ s.1
theorem InM.put {s : Nat × List Int} (h : InM s) (v : Int) : InM (s.1, putL s.1 s.2 v) := ⟨h.1, h.2.1, (putL_ne s.1 h.1 s.2 v h.2.2).2⟩
theorem InM.new (x : Int) : InM (clampN x, []) := ⟨(clampN_in x).1, (clampN_in x).2, Nat.zero_le _⟩
theorem Ints.belowM {w w' : World} {v : Value} {zs : List Int} (h : Ints w v zs) (hb : Below w.heap.size w w') : Ints w' v zs := by
  obtain ⟨p, cap, rfl, h1, h2, h3⟩ := h
  exact ⟨p, cap, rfl, h1, h2, h3.below hb⟩
theorem IntsAt.rowM {w : World} {p : Option Addr} {zs : List Int} (h : IntsAt w p zs) (hl : 0 < zs.length) :
    ∃ b off, p = some ⟨b, off, none⟩ ∧ ∀ wx, Below w.heap.size w wx → ∀ i (h : i < zs.length), wx.cell? ⟨b, off + i, none⟩ = some (.int .i64 zs[i]) := by
  obtain ⟨b, off, rfl, hlt, hc⟩ := h.pos hl
  exact ⟨b, off, rfl, fun wx hx i hi => by rw [hx.cell (p := ⟨b, off + i, none⟩) hlt]; exact hc i hi⟩

def CNewM (R : List Value → Nat × List Int → Prop) : Prop := ∀ (n : Int) (w : World),
  Calls Try.prog 8 #[.int .i64 n] w fun e w' => ∃ g, e = .returned (.pointer (some ⟨g, 0, none⟩)) ∧ w.heap.size ≤ g ∧ ObAt 43 R w' g (clampN n, []) ∧ Below w.heap.size w w'
def CPutM (R : List Value → Nat × List Int → Prop) : Prop := ∀ (g n : Nat) (l : List Int) (v : Int) (w : World), ObAt 43 R w g (n, l) → InM (n, l) →
  Calls Try.prog 11 #[.pointer (some ⟨g, 0, none⟩), .int .i64 v] w fun e w' => ∃ m, e = .returned (.int .i64 m) ∧ IsMed (putL n l v) m ∧ ObAt 43 R w' g (n, putL n l v) ∧ Only g w w'
def CMedM (R : List Value → Nat × List Int → Prop) : Prop := ∀ (g n : Nat) (l : List Int) (w : World), ObAt 43 R w g (n, l) → InM (n, l) →
  Calls Try.prog 15 #[.pointer (some ⟨g, 0, none⟩)] w fun e w' => ∃ m, e = .returned (.tuple #[.int .i64 m, .bool (decide (0 < l.length))]) ∧ MedOf l m ∧ Below w.heap.size w w'
def CValM (R : List Value → Nat × List Int → Prop) : Prop := ∀ (g n : Nat) (l : List Int) (w : World), ObAt 43 R w g (n, l) → InM (n, l) →
  Calls Try.prog 14 #[.pointer (some ⟨g, 0, none⟩)] w fun e w' => ∃ v, e = .returned v ∧ Ints w' v l ∧ Below w.heap.size w w'
def CClrM (R : List Value → Nat × List Int → Prop) : Prop := ∀ (g n : Nat) (l : List Int) (w : World), ObAt 43 R w g (n, l) → InM (n, l) →
  Calls Try.prog 10 #[.pointer (some ⟨g, 0, none⟩)] w fun e w' => e = .returned (.tuple #[]) ∧ ObAt 43 R w' g (n, []) ∧ Only g w w'
theorem intsM_same {l m : List Int} (hl : l.length = m.length) (h : ∀ k (h1 : k < l.length) (h2 : k < m.length), l[k] = m[k]) : (l == m) = true := beq_iff_eq.2 (List.ext_getElem hl h)
theorem intsM_other {l m : List Int} (k : Nat) (h1 : k < l.length) (h2 : k < m.length) (h : l[k] ≠ m[k]) : (l == m) = false := beq_false_of_ne fun e => h (by subst e; rfl)

set_option maxHeartbeats 1600000 in
theorem sameInts_any (v v' : Value) (l m : List Int) (w : World) (hB : Ints w v l) (hB' : Ints w v' m) (hl : l.length ≤ 140737488355328) (hm : m.length ≤ 140737488355328) :
    Calls Try.prog 13 #[v, v'] w fun e w' => e = .returned (.bool (l == m)) ∧ Below w.heap.size w w' := by
  obtain ⟨p, cap, rfl, hc, -, hat⟩ := hB
  obtain ⟨p', cap', rfl, hc', -, hat'⟩ := hB'
  have HAT := hid fun (wx : World) (h : Below w.heap.size w wx) => IntsAt.below hat h
  have HAT' := hid fun (wx : World) (h : Below w.heap.size w wx) => IntsAt.below hat' h
  clear hat hat' hc hc'
  by_cases hlen : l.length = m.length
  · have HY := hid (@intsM_same l m hlen)
    have HN := hid (@intsM_other l m)
    have HM := hid hlen.symm
    rw [← hlen]
    generalize hF : (l == m) = F at *
    clear hF hlen
    go_enter Try.func13, Try.ntmps13
    go_wp2_with fail
    go_loopw [5] (fun i wr => ∃ k : Nat, k ≤ l.length ∧ i = .int .i64 k ∧ Hid (∀ j (h1 : j < l.length) (h2 : j < m.length), j < k → l[j] = m[j]) ∧ Below w.heap.size w wr) (fun i _ => l.length - (intOf i).toNat)
    case atStart => exact ⟨0, Nat.zero_le _, rfl, hid fun j _ _ h => absurd h (Nat.not_lt_zero _), Below.refl _ _⟩
    case round =>
      obtain ⟨k, hk, rfl, hA, hb⟩ := hrel
      by_cases hlt : k < l.length
      · have hlt2 : k < m.length := by rw [HM.out]; exact hlt
        obtain ⟨b, off, rfl, hrow⟩ := (HAT.out _ hb).rowM (by omega)
        obtain ⟨b', off', rfl, hrow'⟩ := (HAT'.out _ hb).rowM (by omega)
        obtain ⟨c, hq⟩ : ∃ c, l[k] = c := ⟨_, rfl⟩
        obtain ⟨c', hq'⟩ : ∃ c, m[k] = c := ⟨_, rfl⟩
        have H1 : Hid (∀ wx, Below wr.heap.size wr wx → wx.cell? ⟨b, off + k, none⟩ = some (.int .i64 c)) := hid fun wx h => by rw [hrow wx h k hlt, hq]
        have H3 : Hid (∀ wx, Below wr.heap.size wr wx → wx.cell? ⟨b', off' + k, none⟩ = some (.int .i64 c')) := hid fun wx h => by rw [hrow' wx h k hlt2, hq']
        have HQ : Hid ((l[k] = m[k]) = (c = c')) := hid (by rw [hq, hq'])
        clear hrow hrow' hq hq'
        have hks : k + 1 ≤ l.length := hlt
        have hkI : (k : Int) < (l.length : Int) := by omega
        have hkI2 : (0 : Int) ≤ (k : Int) := by omega
        go_upto_region 6 with fail
        cases hs : (c == c') with
        | true =>
          refine wp_region_held_drew (S := fun w' => Below wr.drew.heap.size wr.drew w') (by kernel_rfl) (Below.refl _ _) ?_
          intro hHeld
          have hbW := Below.drew (Below.refl wr.heap.size wr)
          generalize wr.drew = wd at *
          refine rtake 0 rfl (by rfl) (by kernel_rfl) (by kernel_rfl) (by kernel_rfl) (fun _ _ _ h => h) hHeld (fun wx hwx => by go_simp; try with_reducible rfl) ?_
          try simp only [Act.put, List.setIfInBounds_toArray, List.set_cons_zero, List.set_cons_succ]
          refine rtake 1 rfl (by rfl) (by kernel_rfl) (by kernel_rfl) (by kernel_rfl) (fun _ _ _ h => h) hHeld (fun wx hwx => by go_simp; try with_reducible rfl) ?_
          try simp only [Act.put, List.setIfInBounds_toArray, List.set_cons_zero, List.set_cons_succ]
          refine rtake 2 rfl (by rfl) (by kernel_rfl) (by kernel_rfl) (by kernel_rfl) (fun _ _ _ h => h) hHeld (fun wx hwx => by go_simp; try with_reducible rfl) ?_
          try simp only [Act.put, List.setIfInBounds_toArray, List.set_cons_zero, List.set_cons_succ]
          refine rtake 3 rfl (by rfl) (by kernel_rfl) (by kernel_rfl) (by kernel_rfl) (fun _ _ _ h => h) hHeld (fun wx hwx => by have h1 := H1.out wx (bnext hbW hwx); go_simp; try with_reducible rfl) ?_
          try simp only [Act.put, List.setIfInBounds_toArray, List.set_cons_zero, List.set_cons_succ]
          refine rtake 4 rfl (by rfl) (by kernel_rfl) (by kernel_rfl) (by kernel_rfl) (fun _ _ _ h => h) hHeld (fun wx hwx => by go_simp; try with_reducible rfl) ?_
          try simp only [Act.put, List.setIfInBounds_toArray, List.set_cons_zero, List.set_cons_succ]
          refine rtake 5 rfl (by rfl) (by kernel_rfl) (by kernel_rfl) (by kernel_rfl) (fun _ _ _ h => h) hHeld (fun wx hwx => by go_simp; try with_reducible rfl) ?_
          try simp only [Act.put, List.setIfInBounds_toArray, List.set_cons_zero, List.set_cons_succ]
          refine rtake 6 rfl (by rfl) (by kernel_rfl) (by kernel_rfl) (by kernel_rfl) (fun _ _ _ h => h) hHeld (fun wx hwx => by go_simp; try with_reducible rfl) ?_
          try simp only [Act.put, List.setIfInBounds_toArray, List.set_cons_zero, List.set_cons_succ]
          refine rtake 7 rfl (by rfl) (by kernel_rfl) (by kernel_rfl) (by kernel_rfl) (fun _ _ _ h => h) hHeld (fun wx hwx => by have h1 := H3.out wx (bnext hbW hwx); go_simp; try with_reducible rfl) ?_
          try simp only [Act.put, List.setIfInBounds_toArray, List.set_cons_zero, List.set_cons_succ]
          refine rtake 8 rfl (by rfl) (by kernel_rfl) (by kernel_rfl) (by kernel_rfl) (fun _ _ _ h => h) hHeld (fun wx hwx => by go_simp; try with_reducible rfl) ?_
          try simp only [Act.put, List.setIfInBounds_toArray, List.set_cons_zero, List.set_cons_succ]
          refine wpAnyH_done (by kernel_rfl) ?_ _
          go_wp2_with fail
          go_roundw
          case rel =>
            refine ⟨k + 1, hks, by go_num, hid fun j h1 h2 h => ?_, bnext hb hbW⟩
            by_cases hjk : j = k
            · subst hjk
              rw [HQ.out]
              exact beq_iff_eq.1 hs
            · exact hA.out j h1 h2 (by omega)
          case measure => simp [intOf]; omega
        | false =>
          refine wp_region_held_drew (S := fun w' => Below wr.drew.heap.size wr.drew w') (by kernel_rfl) (Below.refl _ _) ?_
          intro hHeld
          have hbW := Below.drew (Below.refl wr.heap.size wr)
          generalize wr.drew = wd at *
          refine rtake 0 rfl (by rfl) (by kernel_rfl) (by kernel_rfl) (by kernel_rfl) (fun _ _ _ h => h) hHeld (fun wx hwx => by go_simp; try with_reducible rfl) ?_
          try simp only [Act.put, List.setIfInBounds_toArray, List.set_cons_zero, List.set_cons_succ]
          refine rtake 1 rfl (by rfl) (by kernel_rfl) (by kernel_rfl) (by kernel_rfl) (fun _ _ _ h => h) hHeld (fun wx hwx => by go_simp; try with_reducible rfl) ?_
          try simp only [Act.put, List.setIfInBounds_toArray, List.set_cons_zero, List.set_cons_succ]
          refine rtake 2 rfl (by rfl) (by kernel_rfl) (by kernel_rfl) (by kernel_rfl) (fun _ _ _ h => h) hHeld (fun wx hwx => by go_simp; try with_reducible rfl) ?_
          try simp only [Act.put, List.setIfInBounds_toArray, List.set_cons_zero, List.set_cons_succ]
          refine rtake 3 rfl (by rfl) (by kernel_rfl) (by kernel_rfl) (by kernel_rfl) (fun _ _ _ h => h) hHeld (fun wx hwx => by have h1 := H1.out wx (bnext hbW hwx); go_simp; try with_reducible rfl) ?_
          try simp only [Act.put, List.setIfInBounds_toArray, List.set_cons_zero, List.set_cons_succ]
          refine rtake 4 rfl (by rfl) (by kernel_rfl) (by kernel_rfl) (by kernel_rfl) (fun _ _ _ h => h) hHeld (fun wx hwx => by go_simp; try with_reducible rfl) ?_
          try simp only [Act.put, List.setIfInBounds_toArray, List.set_cons_zero, List.set_cons_succ]
          refine rtake 5 rfl (by rfl) (by kernel_rfl) (by kernel_rfl) (by kernel_rfl) (fun _ _ _ h => h) hHeld (fun wx hwx => by go_simp; try with_reducible rfl) ?_
          try simp only [Act.put, List.setIfInBounds_toArray, List.set_cons_zero, List.set_cons_succ]
          refine rtake 6 rfl (by rfl) (by kernel_rfl) (by kernel_rfl) (by kernel_rfl) (fun _ _ _ h => h) hHeld (fun wx hwx => by go_simp; try with_reducible rfl) ?_
          try simp only [Act.put, List.setIfInBounds_toArray, List.set_cons_zero, List.set_cons_succ]
          refine rtake 7 rfl (by rfl) (by kernel_rfl) (by kernel_rfl) (by kernel_rfl) (fun _ _ _ h => h) hHeld (fun wx hwx => by have h1 := H3.out wx (bnext hbW hwx); go_simp; try with_reducible rfl) ?_
          try simp only [Act.put, List.setIfInBounds_toArray, List.set_cons_zero, List.set_cons_succ]
          refine rtake 8 rfl (by rfl) (by kernel_rfl) (by kernel_rfl) (by kernel_rfl) (fun _ _ _ h => h) hHeld (fun wx hwx => by go_simp; try with_reducible rfl) ?_
          try simp only [Act.put, List.setIfInBounds_toArray, List.set_cons_zero, List.set_cons_succ]
          refine wpAnyH_done (by kernel_rfl) ?_ _
          go_wp2_with fail
          go_ret
          exact ⟨by rw [HN.out k hlt hlt2 (by rw [ne_eq, HQ.out]; intro e; rw [e] at hs; simp at hs)]; rfl, bnext hb hbW⟩
      · go_wp2_with fail
        go_ret
        exact ⟨by rw [HY.out fun j h1 h2 => hA.out j h1 h2 (by omega)]; rfl, hb⟩
  · have hf : (l == m) = false := beq_false_of_ne fun e => hlen (by rw [e])
    have hi : ((l.length : Int) == (m.length : Int)) = false := beq_false_of_ne (by omega)
    rw [hf]
    clear hf
    go_enter Try.func13, Try.ntmps13
    go_wp2_with fail
    go_ret
    exact ⟨rfl, Below.refl _ _⟩
end Go.Proofs.Ytcccjjghalajoaa
