/- The document's own Put of chapter 8 (gen_tlvput.py). -/
import Derived.Test.YtohgpnlihfcecaaB6
import Derived.Test.YtohgpnlihfcecaaB2
import Derived.Test.YtohgpnlihfcecaaB1
namespace Go.Proofs.Ytohgpnlihfcecaa
open Go.RowKit Go.Proofs
set_option maxRecDepth 50000
set_option linter.unusedVariables false
set_option linter.unusedSimpArgs false

/-- A TLV's bytes. -/
def tlvS (q : T2) : List UInt8 := putS q.1 2 ++ (putS q.2.length 2 ++ q.2)

def flatT (l : List T2) : List UInt8 := l.flatMap tlvS

theorem flatT_snoc (l : List T2) (q : T2) : flatT (l ++ [q]) = flatT l ++ tlvS q := by simp [flatT]

/-- What TLVs are put as, and whether they may be. -/
def putT (l : List T2) : List UInt8 × Bool := if l.length ≤ 8 ∧ l.all checkT = true then (flatT l, true) else ([], false)

theorem putT_many {l : List T2} (h : ¬ l.length ≤ 8) : putT l = ([], false) := if_neg fun e => h e.1

theorem putT_no {l : List T2} (k : Nat) (hk : k < l.length) (h : checkT l[k] = false) : putT l = ([], false) := if_neg fun e => by
  have := List.all_eq_true.1 e.2 _ (List.getElem_mem hk)
  rw [h] at this
  cases this

theorem putT_yes {l : List T2} (h8 : l.length ≤ 8) (h : ∀ j (hj : j < l.length), checkT l[j] = true) : putT l = (flatT l, true) := if_pos ⟨h8, List.all_eq_true.2 fun x hx => by
  obtain ⟨k, hk, rfl⟩ := List.getElem_of_mem hx
  exact h k hk⟩

theorem check_yes {c : Int} {s : List UInt8} (h : checkT (c, s) = true) : 0 ≤ c ∧ c ≤ 65535 ∧ s.length % 2 = 0 ∧ s.length ≤ 400 := by
  simpa [checkT] using h

set_option maxRecDepth 100000 in
set_option maxHeartbeats 4000000 in
theorem refPutT_any (v : Value) (l : List T2) (w : World) (hB : Tlvs w v l) (hl : l.length ≤ 140737488355328) (hz : ∀ q ∈ l, q.2.length ≤ 140737488355328) :
    Calls Try.prog 23 #[v] w fun e w' => ∃ v', e = .returned (.tuple #[v', .bool (putT l).2]) ∧ Own w' w.heap.size v' (putT l).1 ∧ Below w.heap.size w w' := by
  obtain ⟨p, cap, rfl, hc, -, hat⟩ := hB
  have HAT := hid fun (h : 0 < l.length) => hat.row h
  have HZ := hid hz
  clear hat hc hz
  by_cases hok : l.length ≤ 8
  · have HN := hid (@putT_no l)
    have HY := hid (@putT_yes l hok)
    generalize putT l = F at *
    go_enter Try.func23, Try.ntmps23
    go_wp2_with fail
    go_loopw [4, 5] (fun b i wr => ∃ k : Nat, k ≤ l.length ∧ i = .int .i64 k ∧ Own wr w.heap.size b (flatT (l.take k)) ∧ Hid ((flatT (l.take k)).length ≤ 404 * k) ∧ Hid (∀ j (hj : j < l.length), j < k → checkT l[j] = true) ∧ Below w.heap.size w wr) (fun _ i _ => l.length - (intOf i).toNat)
    case atStart => exact ⟨0, Nat.zero_le _, rfl, Own.nil _ _, hid (by simp [flatT]), hid fun j hj h => absurd h (Nat.not_lt_zero _), Below.refl _ _⟩
    case round =>
      obtain ⟨k, hk, rfl, own, hT, hA, hb⟩ := hrel
      by_cases hlt : k < l.length
      · obtain ⟨b, off, rfl, hrow⟩ := HAT.out (by omega)
        obtain ⟨c, s, hq, H1, H2⟩ := hrow.get k hlt
        have c1 := H1.out _ hb
        have c2 := H2.out _ hb
        have hsz := HZ.out l[k] (List.getElem_mem hlt)
        rw [hq] at hsz
        have hks : k + 1 ≤ l.length := hlt
        have hkI : (k : Int) < (l.length : Int) := by omega
        have hkI2 : (0 : Int) ≤ (k : Int) := by omega
        have HQ : Hid (l[k] = (c, s)) := hid hq
        have hS : Hid (flatT (l.take (k + 1)) = flatT (l.take k) ++ (putS c 2 ++ (putS s.length 2 ++ s))) := hid (by rw [take_snoc l k hlt, flatT_snoc, hq]; rfl)
        have hTl := hT.out
        clear hrow hq
        generalize hTT : flatT (l.take k) = T at *
        go_wp2_with fail
        refine (refCheckT_any c s wr (by omega)).mono ?_
        rintro e w1 ⟨rfl, b1⟩
        cases hck : checkT (c, s) with
        | true =>
          obtain ⟨hc0, hc1, hs2, hs4⟩ := check_yes hck
          have l1 : (putS c 2).length = 2 := putS_length _ 2 (by decide) (by decide)
          have l2 : (putS s.length 2).length = 2 := putS_length _ 2 (by decide) (by decide)
          replace own := own.below b1
          replace hb := bnext hb b1
          clear c1 c2 b1
          go_wp2_with fail
          refine wp_region_held_drew (S := fun w' => Below w.heap.size w w') (by kernel_rfl) hb.drew ?_
          intro hHeld
          replace own := own.below (Below.drew (Below.refl w1.heap.size w1))
          replace hb := hb.drew
          generalize w1.drew = wd at *
          clear hHeld
          have hHeld := hb
          clear hb
          refine rtake 0 rfl (by rfl) (by kernel_rfl) (by kernel_rfl) (by kernel_rfl) (fun _ _ _ h => h) hHeld (fun wx hwx => by go_simp; try with_reducible rfl) ?_
          try simp only [Act.put, List.setIfInBounds_toArray, List.set_cons_zero, List.set_cons_succ]
          refine rtake 1 rfl (by rfl) (by kernel_rfl) (by kernel_rfl) (by kernel_rfl) (fun _ _ _ h => h) hHeld (fun wx hwx => by go_simp; try with_reducible rfl) ?_
          try simp only [Act.put, List.setIfInBounds_toArray, List.set_cons_zero, List.set_cons_succ]
          refine rtake 2 rfl (by rfl) (by kernel_rfl) (by kernel_rfl) (by kernel_rfl) (fun _ _ _ h => h) hHeld (fun wx hwx => by go_simp; try with_reducible rfl) ?_
          try simp only [Act.put, List.setIfInBounds_toArray, List.set_cons_zero, List.set_cons_succ]
          refine rtake 3 rfl (by rfl) (by kernel_rfl) (by kernel_rfl) (by kernel_rfl) (fun _ _ _ h => h) hHeld (fun wx hwx => by go_simp; try with_reducible rfl) ?_
          try simp only [Act.put, List.setIfInBounds_toArray, List.set_cons_zero, List.set_cons_succ]
          refine rtake 4 rfl (by rfl) (by kernel_rfl) (by kernel_rfl) (by kernel_rfl) (fun _ _ _ h => h) hHeld (fun wx hwx => by go_simp; try with_reducible rfl) ?_
          try simp only [Act.put, List.setIfInBounds_toArray, List.set_cons_zero, List.set_cons_succ]
          refine rtake 5 rfl (by rfl) (by kernel_rfl) (by kernel_rfl) (by kernel_rfl) (fun _ _ _ h => h) hHeld (fun wx hwx => by have h1 := H1.out wx hwx; have h2 := H2.out wx hwx; go_simp; try with_reducible rfl) ?_
          try simp only [Act.put, List.setIfInBounds_toArray, List.set_cons_zero, List.set_cons_succ]
          refine rtake 8 rfl (by rfl) (by kernel_rfl) (by kernel_rfl) (by kernel_rfl) (fun _ _ _ h => h) hHeld (fun wx hwx => by go_simp; try with_reducible rfl) ?_
          try simp only [Act.put, List.setIfInBounds_toArray, List.set_cons_zero, List.set_cons_succ]
          refine rtake 9 rfl (by rfl) (by kernel_rfl) (by kernel_rfl) (by kernel_rfl) (fun _ _ _ h => h) hHeld (fun wx hwx => by go_simp; try with_reducible rfl) ?_
          try simp only [Act.put, List.setIfInBounds_toArray, List.set_cons_zero, List.set_cons_succ]
          refine rtake 10 rfl (by rfl) (by kernel_rfl) (by kernel_rfl) (by kernel_rfl) (fun _ _ _ h => h) hHeld (fun wx hwx => by go_simp; try with_reducible rfl) ?_
          try simp only [Act.put, List.setIfInBounds_toArray, List.set_cons_zero, List.set_cons_succ]
          refine rtake 11 rfl (by rfl) (by kernel_rfl) (by kernel_rfl) (by kernel_rfl) (fun _ _ _ h => h) hHeld (fun wx hwx => by go_simp; try with_reducible rfl) ?_
          try simp only [Act.put, List.setIfInBounds_toArray, List.set_cons_zero, List.set_cons_succ]
          refine rtake 12 rfl (by rfl) (by kernel_rfl) (by kernel_rfl) (by kernel_rfl) (fun _ _ _ h => h) hHeld (fun wx hwx => by have h1 := H1.out wx hwx; have h2 := H2.out wx hwx; go_simp; try with_reducible rfl) ?_
          try simp only [Act.put, List.setIfInBounds_toArray, List.set_cons_zero, List.set_cons_succ]
          refine rtake 13 rfl (by rfl) (by kernel_rfl) (by kernel_rfl) (by kernel_rfl) (fun _ _ _ h => h) hHeld (fun wx hwx => by go_simp; try with_reducible rfl) ?_
          try simp only [Act.put, List.setIfInBounds_toArray, List.set_cons_zero, List.set_cons_succ]
          -- CALL 6: some 27 := Op.call { callee := Callee.value (Operand.func 42), args := #[Operand.tmp 26, Operand.const (Value.int IntKind.i64 2)], argTypes := #[3, 3] }
          refine rcall 6 rfl (by kernel_rfl) (by rfl) (fun K hK => ?_)
          go_simp
          refine (refPut_any _ _ _).mono ?_
          rintro e wx6 ⟨x6, rfl, own6, hbel6⟩
          have ownA := own.below hbel6
          have hH := bnext hHeld hbel6
          refine hK.out _ _ hH ?_
          clear hK K hHeld
          have hHeld := hH
          clear hH
          try simp only [Act.put, List.setIfInBounds_toArray, List.set_cons_zero, List.set_cons_succ]
          -- CALL 7: some 28 := Op.call { callee := Callee.builtin Builtin.append, args := #[Operand.tmp 21, Operand.tmp 27], argTypes := #[22, 22] }
          refine rcall 7 rfl (by kernel_rfl) (by rfl) (fun K hK => ?_)
          refine op_append_bytes (o := ⟨some 28, _, _, _, _, _⟩) _ _ rfl rfl w.heap.size _ _ T (putS c 2) rfl rfl ownA own6.bytes (by rw [l1]; omega) hHeld.size ?_
          intro x7 wx7 own7 hbel7
          have hH := hHeld.trans hbel7
          refine hK.out _ _ hH ?_
          clear hK K hHeld
          have hHeld := hH
          clear hH
          try simp only [Act.put, List.setIfInBounds_toArray, List.set_cons_zero, List.set_cons_succ]
          -- CALL 14: some 35 := Op.call { callee := Callee.value (Operand.func 42), args := #[Operand.tmp 34, Operand.const (Value.int IntKind.i64 2)], argTypes := #[3, 3] }
          refine rcall 14 rfl (by kernel_rfl) (by rfl) (fun K hK => ?_)
          go_simp
          refine (refPut_any _ _ _).mono ?_
          rintro e wx14 ⟨x14, rfl, own14, hbel14⟩
          have ownB := own7.below hbel14
          have hH := bnext hHeld hbel14
          refine hK.out _ _ hH ?_
          clear hK K hHeld
          have hHeld := hH
          clear hH
          try simp only [Act.put, List.setIfInBounds_toArray, List.set_cons_zero, List.set_cons_succ]
          -- CALL 15: some 36 := Op.call { callee := Callee.builtin Builtin.append, args := #[Operand.tmp 28, Operand.tmp 35], argTypes := #[22, 22] }
          refine rcall 15 rfl (by kernel_rfl) (by rfl) (fun K hK => ?_)
          refine op_append_bytes (o := ⟨some 36, _, _, _, _, _⟩) _ _ rfl rfl w.heap.size _ _ (T ++ putS c 2) (putS s.length 2) rfl rfl ownB own14.bytes (by rw [List.length_append, l1, l2]; omega) hHeld.size ?_
          intro x15 wx15 own15 hbel15
          have hH := hHeld.trans hbel15
          refine hK.out _ _ hH ?_
          clear hK K hHeld
          have hHeld := hH
          clear hH
          try simp only [Act.put, List.setIfInBounds_toArray, List.set_cons_zero, List.set_cons_succ]
          refine rtake 16 rfl (by rfl) (by kernel_rfl) (by kernel_rfl) (by kernel_rfl) (fun _ _ _ h => h) hHeld (fun wx hwx => by go_simp; try with_reducible rfl) ?_
          try simp only [Act.put, List.setIfInBounds_toArray, List.set_cons_zero, List.set_cons_succ]
          refine wpAnyH_done (by kernel_rfl) ?_ _
          have c2 := H2.out _ hHeld
          have l3 : (T ++ putS c 2 ++ putS s.length 2).length ≤ 404 * k + 4 := by rw [List.length_append, List.length_append, l1, l2]; omega
          go_wp2_with (at_builtin; refine wpList_append_str (o := ⟨some 43, _, _, _, _, _⟩) rfl _ _ rfl rfl w.heap.size _ (T ++ putS c 2 ++ putS s.length 2) s rfl rfl own15 ?_ hHeld.size ?_; (omega); intro v43 w43 own43 b43; replace hHeld := hHeld.trans b43)
          go_roundw
          case rel =>
            refine ⟨k + 1, hks, by go_num, ?_, hid ?_, hid fun j hj h => ?_, hHeld⟩
            · rw [hS.out]
              simpa only [List.append_assoc] using own43
            · rw [hS.out]
              simp only [List.length_append, l1, l2]
              omega
            · by_cases hjk : j = k
              · subst hjk
                rw [HQ.out]
                exact hck
              · exact hA.out j hj (by omega)
          case measure => simp [intOf]; omega
        | false =>
          go_wp2_with fail
          have hF := HN.out k hlt (by rw [HQ.out]; exact hck)
          subst hF
          go_ret2
          exact ⟨_, rfl, Own.nil _ _, bnext hb b1⟩
      · have hke : k = l.length := by omega
        subst hke
        rw [List.take_length] at own
        have hF := HY.out fun j hj => hA.out j hj hj
        subst hF
        go_wp2_with fail
        go_ret2
        exact ⟨_, rfl, own, hb⟩
  · rw [putT_many hok]
    go_enter Try.func23, Try.ntmps23
    go_wp2_with fail
    go_ret2
    exact ⟨_, rfl, Own.nil _ _, Below.refl _ _⟩
end Go.Proofs.Ytohgpnlihfcecaa
