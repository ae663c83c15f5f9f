/- carillonlaw08.few; two rows of TLVs compared (carillonlaw00.SameTlvs). -/
import Derived.Test.YtdhdlpoopehmlaaTlv
namespace Go.Proofs.Ytdhdlpoopehmlaa
open Go.RowKit Go.Proofs
set_option linter.unusedVariables false
set_option linter.unusedSimpArgs false

/-- Not too many, not too long. -/
def fewB (l : List T2) : Bool := l.all (fun q => decide (q.2.length ≤ 600)) && decide (l.length ≤ 20)

theorem few_no {l : List T2} (k : Nat) (hk : k < l.length) (h : ¬ (l[k]).2.length ≤ 600) : fewB l = false := by
  unfold fewB
  rw [Bool.and_eq_false_iff]
  refine .inl ?_
  rw [List.all_eq_false]
  exact ⟨l[k], List.getElem_mem hk, by simpa using h⟩

theorem few_yes {l : List T2} (h : ∀ k (hk : k < l.length), (l[k]).2.length ≤ 600) : fewB l = decide (l.length ≤ 20) := by
  unfold fewB
  have : l.all (fun q => decide (q.2.length ≤ 600)) = true := by
    rw [List.all_eq_true]
    intro x hx
    obtain ⟨k, hk, rfl⟩ := List.getElem_of_mem hx
    simpa using h k hk
  rw [this, Bool.true_and]

set_option maxHeartbeats 1600000 in
theorem few_any (v : Value) (l : List T2) (w : World) (hB : Tlvs w v l) (hl : l.length ≤ 140737488355328) :
    Calls Try.prog 10 #[v] w fun e w' => e = .returned (.bool (fewB l)) ∧ w = w' := by
  obtain ⟨p, cap, rfl, hc, hm, hat⟩ := hB
  have HAT := hid hat
  clear hat hc hm
  have HN := hid (@few_no l)
  have HY := hid (@few_yes l)
  generalize hF : fewB l = F at *
  clear hF
  go_enter Try.func10, Try.ntmps10
  go_wp2_with fail
  go_loop [3] (fun i => ∃ k : Nat, k ≤ l.length ∧ i = .int .i64 k ∧ Hid (∀ j (hj : j < l.length), j < k → (l[j]).2.length ≤ 600)) (fun i => l.length - (intOf i).toNat)
  case atStart => exact ⟨0, Nat.zero_le _, rfl, hid fun j hj h => absurd h (Nat.not_lt_zero _)⟩
  case round =>
    obtain ⟨k, hk, rfl, hA⟩ := hrel
    by_cases hlt : k < l.length
    · obtain ⟨b, off, rfl, hrow⟩ := HAT.out.row (by omega)
      obtain ⟨c, s, hq, H1, H2⟩ := hrow.get k hlt
      have c2 := H2.out _ (Below.refl _ _)
      have HQ : Hid ((l[k]).2.length = s.length) := hid (by rw [hq])
      clear hrow hq
      have hks : k + 1 ≤ l.length := hlt
      by_cases hs : s.length ≤ 600
      · go_wp2_with fail
        go_round
        case rel =>
          refine ⟨k + 1, hks, by go_num, hid fun j hj h => ?_⟩
          by_cases hjk : j = k
          · subst hjk
            rw [HQ.out]
            exact hs
          · exact hA.out j hj (by omega)
        case measure => simp [intOf]; omega
      · go_wp2_with fail
        go_ret
        exact ⟨by rw [HN.out k hlt (by rw [HQ.out]; exact hs)]; rfl, rfl⟩
    · go_wp2_with fail
      go_ret
      refine ⟨?_, rfl⟩
      rw [HY.out fun j hj => hA.out j hj (by omega)]
      exact ret_bool (by rw [Bool.eq_iff_iff, decide_eq_true_eq, decide_eq_true_eq]; omega)

theorem ByteArray_eq (a b : List UInt8) : ((⟨a.toArray⟩ : ByteArray) == ⟨b.toArray⟩) = (a == b) := by
  show (a.toArray == b.toArray) = _
  simp

theorem equal_tlv (x y : T2) (w : World) : (Op.equalIn 10000 32 (tlvV x) (tlvV y)).run Try.prog w = .ok (x == y) w := by
  obtain ⟨a, s⟩ := x
  obtain ⟨b, u⟩ := y
  have hb := ByteArray_eq s u
  by_cases h1 : a = b
  · subst h1
    have e : ((a, s) == (a, u)) = (s == u) := by show ((a == a) && (s == u)) = _; rw [beq_self_eq_true, Bool.true_and]
    rw [e]
    by_cases h2 : s = u
    · subst h2
      rw [beq_self_eq_true]
      go_simp
    · have q2 : (s == u) = false := beq_false_of_ne h2
      rw [q2] at hb ⊢
      go_simp
  · have q : (a == b) = false := beq_false_of_ne h1
    have e : ((a, s) == (b, u)) = false := by show ((a == b) && (s == u)) = _; rw [q]; rfl
    rw [e]
    go_simp

theorem rows_same {l m : List T2} (hl : l.length = m.length) (h : ∀ k (h1 : k < l.length) (h2 : k < m.length), l[k] = m[k]) : (l == m) = true := beq_iff_eq.2 (List.ext_getElem hl h)
theorem rows_other {l m : List T2} (k : Nat) (h1 : k < l.length) (h2 : k < m.length) (h : l[k] ≠ m[k]) : (l == m) = false := beq_false_of_ne fun e => h (by subst e; rfl)

set_option maxHeartbeats 1600000 in
theorem sameTlvs_any (v v' : Value) (l m : List T2) (w : World) (hB : Tlvs w v l) (hB' : Tlvs w v' m) (hl : l.length ≤ 140737488355328) (hm : m.length ≤ 140737488355328) :
    Calls Try.prog 24 #[v, v'] w fun e w' => e = .returned (.bool (l == m)) ∧ Below w.heap.size w w' := by
  obtain ⟨p, cap, rfl, hc, -, hat⟩ := hB
  obtain ⟨p', cap', rfl, hc', -, hat'⟩ := hB'
  have HAT := hid fun (wx : World) (h : Below w.heap.size w wx) => hat.below h
  have HAT' := hid fun (wx : World) (h : Below w.heap.size w wx) => hat'.below h
  clear hat hat' hc hc'
  by_cases hlen : l.length = m.length
  · have HY := hid (@rows_same l m hlen)
    have HN := hid (@rows_other l m)
    have HM := hid hlen.symm
    rw [← hlen]
    generalize hF : (l == m) = F at *
    clear hF hlen
    go_enter Try.func24, Try.ntmps24
    go_wp2_with fail
    go_loopw [5] (fun i wr => ∃ k : Nat, k ≤ l.length ∧ i = .int .i64 k ∧ Hid (∀ j (h1 : j < l.length) (h2 : j < m.length), j < k → l[j] = m[j]) ∧ Below w.heap.size w wr) (fun i _ => l.length - (intOf i).toNat)
    case atStart => exact ⟨0, Nat.zero_le _, rfl, hid fun j _ _ h => absurd h (Nat.not_lt_zero _), Below.refl _ _⟩
    case round =>
      obtain ⟨k, hk, rfl, hA, hb⟩ := hrel
      by_cases hlt : k < l.length
      · have hlt2 : k < m.length := by rw [HM.out]; exact hlt
        obtain ⟨b, off, rfl, hrow⟩ := (HAT.out _ hb).row (by omega)
        obtain ⟨b', off', rfl, hrow'⟩ := (HAT'.out _ hb).row (by omega)
        obtain ⟨c, s, hq, H1, H2⟩ := hrow.get k hlt
        obtain ⟨c', s', hq', H3, H4⟩ := hrow'.get k hlt2
        have hE := equal_tlv (c, s) (c', s')
        have HQ : Hid ((l[k] = m[k]) = ((c, s) = (c', s'))) := hid (by rw [hq, hq'])
        clear hrow hrow' hq hq'
        have hks : k + 1 ≤ l.length := hlt
        have hkI : (k : Int) < (l.length : Int) := by omega
        have hkI2 : (0 : Int) ≤ (k : Int) := by omega
        go_upto_region 6 with fail
        have hE2 := hid hE
        clear hE
        cases hs : ((c, s) == (c', s')) with
        | true =>
          have hE := hE2.out
          refine wp_region_held_drew (S := fun w' => Below wr.drew.heap.size wr.drew w') (by kernel_rfl) (Below.refl _ _) ?_
          intro hHeld
          have hbW := Below.drew (Below.refl wr.heap.size wr)
          generalize wr.drew = wd at *
          refine rtake 0 rfl (by rfl) (by kernel_rfl) (by kernel_rfl) (by kernel_rfl) (fun _ _ _ h => h) hHeld (fun wx hwx => by go_simp; try with_reducible rfl) ?_
          try simp only [Act.put, List.setIfInBounds_toArray, List.set_cons_zero, List.set_cons_succ]
          refine rtake 1 rfl (by rfl) (by kernel_rfl) (by kernel_rfl) (by kernel_rfl) (fun _ _ _ h => h) hHeld (fun wx hwx => by go_simp; try with_reducible rfl) ?_
          try simp only [Act.put, List.setIfInBounds_toArray, List.set_cons_zero, List.set_cons_succ]
          refine rtake 2 rfl (by rfl) (by kernel_rfl) (by kernel_rfl) (by kernel_rfl) (fun _ _ _ h => h) hHeld (fun wx hwx => by go_simp; try with_reducible rfl) ?_
          try simp only [Act.put, List.setIfInBounds_toArray, List.set_cons_zero, List.set_cons_succ]
          refine rtake 3 rfl (by rfl) (by kernel_rfl) (by kernel_rfl) (by kernel_rfl) (fun _ _ _ h => h) hHeld (fun wx hwx => by have h1 := H1.out wx (bnext hbW hwx); have h2 := H2.out wx (bnext hbW hwx); go_simp; try with_reducible rfl) ?_
          try simp only [Act.put, List.setIfInBounds_toArray, List.set_cons_zero, List.set_cons_succ]
          refine rtake 4 rfl (by rfl) (by kernel_rfl) (by kernel_rfl) (by kernel_rfl) (fun _ _ _ h => h) hHeld (fun wx hwx => by go_simp; try with_reducible rfl) ?_
          try simp only [Act.put, List.setIfInBounds_toArray, List.set_cons_zero, List.set_cons_succ]
          refine rtake 5 rfl (by rfl) (by kernel_rfl) (by kernel_rfl) (by kernel_rfl) (fun _ _ _ h => h) hHeld (fun wx hwx => by go_simp; try with_reducible rfl) ?_
          try simp only [Act.put, List.setIfInBounds_toArray, List.set_cons_zero, List.set_cons_succ]
          refine rtake 6 rfl (by rfl) (by kernel_rfl) (by kernel_rfl) (by kernel_rfl) (fun _ _ _ h => h) hHeld (fun wx hwx => by go_simp; try with_reducible rfl) ?_
          try simp only [Act.put, List.setIfInBounds_toArray, List.set_cons_zero, List.set_cons_succ]
          refine rtake 7 rfl (by rfl) (by kernel_rfl) (by kernel_rfl) (by kernel_rfl) (fun _ _ _ h => h) hHeld (fun wx hwx => by have h1 := H3.out wx (bnext hbW hwx); have h2 := H4.out wx (bnext hbW hwx); go_simp; try with_reducible rfl) ?_
          try simp only [Act.put, List.setIfInBounds_toArray, List.set_cons_zero, List.set_cons_succ]
          refine rtake 8 rfl (by rfl) (by kernel_rfl) (by kernel_rfl) (by kernel_rfl) (fun _ _ _ h => h) hHeld (fun wx hwx => by have hx := hE wx; rw [hs] at hx; go_simp; try with_reducible rfl) ?_
          try simp only [Act.put, List.setIfInBounds_toArray, List.set_cons_zero, List.set_cons_succ]
          refine wpAnyH_done (by kernel_rfl) ?_ _
          clear hE
          go_wp2_with fail
          go_roundw
          case rel =>
            refine ⟨k + 1, hks, by go_num, hid fun j h1 h2 h => ?_, bnext hb hbW⟩
            by_cases hjk : j = k
            · subst hjk
              rw [HQ.out]
              exact beq_iff_eq.1 hs
            · exact hA.out j h1 h2 (by omega)
          case measure => simp [intOf]; omega
        | false =>
          have hE := hE2.out
          refine wp_region_held_drew (S := fun w' => Below wr.drew.heap.size wr.drew w') (by kernel_rfl) (Below.refl _ _) ?_
          intro hHeld
          have hbW := Below.drew (Below.refl wr.heap.size wr)
          generalize wr.drew = wd at *
          refine rtake 0 rfl (by rfl) (by kernel_rfl) (by kernel_rfl) (by kernel_rfl) (fun _ _ _ h => h) hHeld (fun wx hwx => by go_simp; try with_reducible rfl) ?_
          try simp only [Act.put, List.setIfInBounds_toArray, List.set_cons_zero, List.set_cons_succ]
          refine rtake 1 rfl (by rfl) (by kernel_rfl) (by kernel_rfl) (by kernel_rfl) (fun _ _ _ h => h) hHeld (fun wx hwx => by go_simp; try with_reducible rfl) ?_
          try simp only [Act.put, List.setIfInBounds_toArray, List.set_cons_zero, List.set_cons_succ]
          refine rtake 2 rfl (by rfl) (by kernel_rfl) (by kernel_rfl) (by kernel_rfl) (fun _ _ _ h => h) hHeld (fun wx hwx => by go_simp; try with_reducible rfl) ?_
          try simp only [Act.put, List.setIfInBounds_toArray, List.set_cons_zero, List.set_cons_succ]
          refine rtake 3 rfl (by rfl) (by kernel_rfl) (by kernel_rfl) (by kernel_rfl) (fun _ _ _ h => h) hHeld (fun wx hwx => by have h1 := H1.out wx (bnext hbW hwx); have h2 := H2.out wx (bnext hbW hwx); go_simp; try with_reducible rfl) ?_
          try simp only [Act.put, List.setIfInBounds_toArray, List.set_cons_zero, List.set_cons_succ]
          refine rtake 4 rfl (by rfl) (by kernel_rfl) (by kernel_rfl) (by kernel_rfl) (fun _ _ _ h => h) hHeld (fun wx hwx => by go_simp; try with_reducible rfl) ?_
          try simp only [Act.put, List.setIfInBounds_toArray, List.set_cons_zero, List.set_cons_succ]
          refine rtake 5 rfl (by rfl) (by kernel_rfl) (by kernel_rfl) (by kernel_rfl) (fun _ _ _ h => h) hHeld (fun wx hwx => by go_simp; try with_reducible rfl) ?_
          try simp only [Act.put, List.setIfInBounds_toArray, List.set_cons_zero, List.set_cons_succ]
          refine rtake 6 rfl (by rfl) (by kernel_rfl) (by kernel_rfl) (by kernel_rfl) (fun _ _ _ h => h) hHeld (fun wx hwx => by go_simp; try with_reducible rfl) ?_
          try simp only [Act.put, List.setIfInBounds_toArray, List.set_cons_zero, List.set_cons_succ]
          refine rtake 7 rfl (by rfl) (by kernel_rfl) (by kernel_rfl) (by kernel_rfl) (fun _ _ _ h => h) hHeld (fun wx hwx => by have h1 := H3.out wx (bnext hbW hwx); have h2 := H4.out wx (bnext hbW hwx); go_simp; try with_reducible rfl) ?_
          try simp only [Act.put, List.setIfInBounds_toArray, List.set_cons_zero, List.set_cons_succ]
          refine rtake 8 rfl (by rfl) (by kernel_rfl) (by kernel_rfl) (by kernel_rfl) (fun _ _ _ h => h) hHeld (fun wx hwx => by have hx := hE wx; rw [hs] at hx; go_simp; try with_reducible rfl) ?_
          try simp only [Act.put, List.setIfInBounds_toArray, List.set_cons_zero, List.set_cons_succ]
          refine wpAnyH_done (by kernel_rfl) ?_ _
          clear hE
          go_wp2_with fail
          go_ret
          exact ⟨by rw [HN.out k hlt hlt2 (by rw [ne_eq, HQ.out]; intro e; rw [e] at hs; simp at hs)]; rfl, bnext hb hbW⟩
      · go_wp2_with fail
        go_ret
        exact ⟨by rw [HY.out fun j h1 h2 => hA.out j h1 h2 (by omega)]; rfl, hb⟩
  · have hf : (l == m) = false := beq_false_of_ne fun e => hlen (by rw [e])
    have hi : ((l.length : Int) == (m.length : Int)) = false := beq_false_of_ne (by omega)
    rw [hf]
    clear hf
    go_enter Try.func24, Try.ntmps24
    go_wp2_with fail
    go_ret
    exact ⟨rfl, Below.refl _ _⟩
end Go.Proofs.Ytdhdlpoopehmlaa
