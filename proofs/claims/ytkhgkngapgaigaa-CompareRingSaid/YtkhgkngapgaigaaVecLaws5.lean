/- CompareWins, from contracts of the program's own. -/
import Derived.Test.YtkhgkngapgaigaaVecLaws0
import Derived.Test.YtkhgkngapgaigaaVecRow
import Derived.Test.YtkhgkngapgaigaaVecBest
namespace Go.Proofs.Ytkhgkngapgaigaa
open Go.RowKit Go.Proofs
set_option maxRecDepth 50000
set_option linter.unusedVariables false
set_option linter.unusedSimpArgs false

def CBest : Prop := ∀ (v : Value) (l : List Vc) (w : World), vecK.Reads w v l → l.length ≤ 40 → (∀ a ∈ l, VcIn a) →
  Calls Try.prog 14 #[v] w fun e w' => e = .returned (.int .i64 (bestG l l.length)) ∧ Below w.heap.size w w'
theorem CBest.none (h : CBest) : CNone := fun w => h _ [] w (RowK.Reads.nil vecK w) (by decide) (by simp)

def shG (a : Vc) (i : Nat) : Vc := { a with gr := (a.gr * 256 + i) % 18446744073709551616 }
/-- The first j are shifted. -/
def shN (l : List Vc) (j : Nat) : List Vc := l.mapIdx fun i a => if i < j then shG a i else a
theorem shN_length (l : List Vc) (j : Nat) : (shN l j).length = l.length := by simp [shN]
theorem shN_zero (l : List Vc) : shN l 0 = l := by
  apply List.ext_getElem (by simp [shN])
  intro i h1 h2
  simp [shN]
theorem shN_get (l : List Vc) (j i : Nat) (h : i < l.length) : (shN l j)[i]'(by rw [shN_length]; exact h) = if i < j then shG l[i] i else l[i] := by simp [shN]
theorem shN_step (l : List Vc) (j : Nat) (h : j < l.length) : (shN l j).set j (shG l[j] j) = shN l (j + 1) := by
  apply List.ext_getElem (by simp [shN])
  intro i h1 h2
  have hi : i < l.length := by simpa [shN] using h2
  rw [List.getElem_set]
  rw [shN_get l (j + 1) i hi]
  by_cases e : j = i
  · subst e
    rw [if_pos rfl, if_pos (by omega)]
  · rw [if_neg e, shN_get l j i hi]
    by_cases e2 : i < j
    · rw [if_pos e2, if_pos (by omega)]
    · rw [if_neg e2, if_neg (by omega)]
theorem shG_in {a : Vc} (h : VcIn a) (i : Nat) : VcIn (shG a i) := by
  obtain ⟨y1, y2, y3, y4, y5, y6, y7⟩ := h
  exact ⟨y1, y2, y3, y4, y5, by unfold U64 shG; simp only; omega, y7⟩
theorem shN_in {l : List Vc} (h : ∀ a ∈ l, VcIn a) (j : Nat) : ∀ a ∈ shN l j, VcIn a := by
  intro a ha
  obtain ⟨i, hi, rfl⟩ := List.getElem_of_mem ha
  rw [shN_length] at hi
  rw [shN_get l j i hi]
  split
  · exact shG_in (h _ (List.getElem_mem hi)) i
  · exact h _ (List.getElem_mem hi)

theorem exec_load_vec_at {op : Oper} {a : Act} {w : World} (x : Operand) (ho : op.op = .load 28 x) (g off : Nat) (hx : a.eval x = .pointer (some ⟨g, off, none⟩)) (c : Vc) (hR : w.rangeAt g off (vcL c)) :
    (execOp a.eval op).run Try.prog w = .ok (.value (.agg (vcL c).toArray)) w := by
  unfold execOp
  have h := run_loadAt_mid w g off 28 (vcL c) _ hR Try.underlying28 rfl (by rw [info_vec, vcL_length])
  simp only [ho, hx, Sem.run_bind, h, Result.andThen_ok, Sem.run_pure]

theorem wrap_u64_eq (z : Int) : IntKind.u64.wrap z = z % 18446744073709551616 := by
  simp [IntKind.wrap, IntKind.bits, IntKind.signed]
/-- Of the shifted ones the best is better than each other one. -/
theorem shifted_wins {l : List Vc} (hl : l.length ≤ 30) : ∀ i : Nat, i < l.length → (i : Int) ≠ bestG (shN l l.length) l.length → compV (vat (shN l l.length) (bestG (shN l l.length) l.length)) (vat (shN l l.length) i) = -2 := by
  intro i hi hne
  have hlen := shN_length l l.length
  refine bestG_wins (shN l l.length) ?_ l.length (by omega) (by omega) i hi hne
  intro a b ha hb hab
  rw [hlen] at ha hb
  refine grand_unlike ?_
  rw [vat_get _ a (by omega), vat_get _ b (by omega), shN_get l l.length a ha, shN_get l l.length b hb, if_pos ha, if_pos hb]
  exact shifted_unlike _ _ a b (by omega) (by omega) hab

theorem hB_none (h : CBest) : CNone := h.none

set_option maxRecDepth 100000 in
set_option maxHeartbeats 8000000 in
theorem compareWins_from (HC : CComp) (HO : COwn) (HB : CBest) (v : Value) (l0 : List Vc) (w : World) (hR : vecK.Reads w v l0) (hl0 : l0.length * 88 ≤ 140737488351232) (hin0 : ∀ a ∈ l0, VcIn a) :
    Calls Try.prog 6 #[v] w fun e w' => e = .returned (.bool true) ∧ Below w.heap.size w w' := by
  obtain ⟨p, cap, rfl, hcap, hmax, hat⟩ := hR
  unfold maxLen at hmax
  have hat30 := hat.take 30
  go_enter Try.func6, Try.ntmps6
  go_upto_if 9 with fail
  go_cut [0] (fun s w' => w = w' ∧ ∃ (n : Nat) (l : List Vc), s = .slice p n cap ∧ n = l.length ∧ n ≤ 30 ∧ n ≤ cap ∧ vecK.At w p l ∧ ∀ a ∈ l, VcIn a)
  case first =>
    by_cases h30 : 30 < (l0.length : Int)
    · have hc30 : (30 : Int) ≤ (cap : Int) := by omega
      go_wp2_with fail
      go_meet
      exact ⟨rfl, _, l0.take 30, rfl, by rw [List.length_take]; omega, by omega, by omega, hat30, fun a ha => hin0 a (List.mem_of_mem_take ha)⟩
    · go_wp2_with fail
      go_meet
      exact ⟨rfl, _, l0, rfl, rfl, by omega, hcap, hat, hin0⟩
  case rest =>
    obtain ⟨rfl, n, l, rfl, hn, hn30, hncap, hA, hin⟩ := hcut
    have hR : vecK.Reads w (.slice p n cap) l := ⟨p, cap, by rw [hn], by omega, by unfold maxLen; omega, hA⟩
    have hcall := vectors00_any _ l w hR (by omega)
    have HBn := hB_none HB
    have HN := hid hn
    clear hat hat30 hcap hin0 hl0 hn
    go_wp2_with fail
    refine hcall.mono ?_
    rintro e w1 ⟨v1, rfl, o1, b1⟩
    clear hcall
    obtain ⟨p1, c1, rfl, hc1, hm1, -⟩ := id o1.reads
    rw [← HN.out] at hc1
    have o1' : vecK.Own 28 w1 w.heap.size (.slice p1 n c1) (shN l 0) := by rw [shN_zero, HN.out]; exact o1
    clear o1 hR hA
    rw [← HN.out]
    go_wp2_with fail
    go_loopw [4] (fun i wr => ∃ j : Nat, j ≤ n ∧ i = .int .i64 j ∧ vecK.Own 28 wr w.heap.size (.slice p1 n c1) (shN l j) ∧ Below w.heap.size w wr) (fun i _ => n - (intOf i).toNat)
    case atStart => exact ⟨0, Nat.zero_le _, rfl, o1', b1⟩
    case round =>
      obtain ⟨j, hj, rfl, o, hb⟩ := hrel
      by_cases hlt : j < n
      · have hjl : j < l.length := by have := HN.out; omega
        have hlj : j < (shN l j).length := by rw [shN_length]; exact hjl
        obtain ⟨g, cap', hv, hg0, hg1, -, -⟩ := o.form (by omega)
        simp only [Value.slice.injEq] at hv
        obtain ⟨rfl, -, rfl⟩ := hv
        have o' : vecK.Own 28 wr w.heap.size (.slice (some ⟨g, 0, none⟩) (shN l j).length c1) (shN l j) := by rw [shN_length, ← HN.out]; exact o
        have e0 : (shN l j)[j] = l[j] := by rw [shN_get l j j hjl]; exact if_neg (by omega)
        have c5 : wr.cell? ⟨g, j * 11 + 5, none⟩ = some (.int .u64 (l[j]).gr) := o'.cell j 5 hlj (by decide) _ (by rw [e0]; rfl)
        have f5 := o'.free (j * 11 + 5)
        have hjI : (j : Int) < (n : Int) := by omega
        have hjI0 : (0 : Int) ≤ (j : Int) := by omega
        generalize hgr : (l[j]).gr = x at *
        go_upto_region 6 with fail
        have hval : IntKind.u64.wrap (IntKind.u64.wrap (x * 256) + (j : Int)) = (x * 256 + j) % 18446744073709551616 := by rw [wrap_u64_eq, wrap_u64_eq]; omega
        rw [hval]
        have op := o'.put j 5 hlj (by decide) (.int .u64 ((x * 256 + j) % 18446744073709551616)) (shG l[j] j) (by rw [e0]; unfold shG; rw [hgr]; rfl)
        rw [shN_step l j hjl] at op
        replace op : vecK.Own 28 (wr.setCell ⟨g, j * 11 + 5, none⟩ (.int .u64 ((x * 256 + j) % 18446744073709551616))) w.heap.size (.slice (some ⟨g, 0, none⟩) n c1) (shN l (j + 1)) := by rw [shN_length, ← HN.out] at op; exact op
        have hb' := hb.setCell (p := ⟨g, j * 11 + 5, none⟩) hg0 (.int .u64 ((x * 256 + j) % 18446744073709551616))
        have hjn : j + 1 ≤ n := hlt
        clear o o' c5 f5
        generalize World.setCell _ _ _ = W3 at *
        go_wp2_with fail
        go_roundw
        case rel => exact ⟨j + 1, hjn, by go_num, op, hb'⟩
        case measure => (simp [intOf] <;> omega)
      · obtain rfl : j = n := by omega
        obtain ⟨m, hm⟩ : ∃ m, shN l j = m := ⟨_, rfl⟩
        have hml : m.length = j := by rw [← hm, shN_length, HN.out]
        have hmin : ∀ a ∈ m, VcIn a := by rw [← hm]; exact shN_in hin j
        have hwin := shifted_wins (l := l) (by have := HN.out; omega)
        rw [← HN.out, hm] at hwin
        rw [hm] at o
        have HML := hid hml
        clear hm hml
        have hrd : vecK.Reads wr (.slice p1 j c1) m := ⟨p1, c1, by rw [HML.out], by have := HML.out; omega, hm1, by
          obtain ⟨p', c', he, _, _, hat⟩ := o.reads
          cases he
          exact hat⟩
        have hcall := vectors00_any _ m wr hrd (by have := HML.out; omega)
        go_wp2_with fail
        refine hcall.mono ?_
        rintro e w4 ⟨v4, rfl, o4, b4⟩
        clear hcall hrd
        replace hb := bnext hb b4
        replace o := o.below b4
        have hbest := HB _ m w4 o4.reads (by have := HML.out; omega) hmin
        rw [HML.out] at hbest
        have hrng := bestG_range m j
        generalize hk : bestG m j = k at *
        go_wp2_with fail
        refine hbest.mono ?_
        rintro e w5 ⟨rfl, b5⟩
        clear hbest o4
        replace hb := bnext hb b5
        replace o := o.below b5
        by_cases h0 : j = 0
        · have hkI : k = -1 := by omega
          subst hkI
          have hjI : ((j : Int) == 0) = true := by rw [beq_iff_eq]; omega
          clear hk hwin hrng
          go_wp2_with fail
          refine (awake11_from HC HO HBn _).mono ?_
          rintro e wz ⟨rfl, bz⟩
          go_wp2_with fail
          go_ret
          exact ⟨rfl, bnext hb bz⟩
        · have hjI : ((j : Int) == 0) = false := by rw [beq_eq_false_iff_ne]; omega
          obtain ⟨K, rfl⟩ : ∃ K : Nat, k = (K : Int) := ⟨k.toNat, by omega⟩
          have hKj : K < j := by omega
          have hK0 : ¬ (K : Int) < 0 := by omega
          have hKJ : ¬ (j : Int) ≤ (K : Int) := by omega
          have HW := hid fun (i : Nat) (hi : i < j) (hne : (i : Int) ≠ (K : Int)) => hwin i hi hne
          obtain ⟨g, cap', hv, hg0, hg1, -, -⟩ := o.form (by have := HML.out; omega)
          simp only [Value.slice.injEq] at hv
          obtain ⟨rfl, -, rfl⟩ := hv
          clear hwin hrng hk
          go_wp2_with fail
          have hd1 : decide ((K : Int) < 0) = false := decide_eq_false (by omega)
          have hd2 : decide ((j : Int) ≤ (K : Int)) = false := decide_eq_false (by omega)
          have hd3 : decide (j ≤ K) = false := decide_eq_false (by omega)
          try simp only [hd1, hd2, hd3, Bool.not_false, Bool.false_or]
          clear hKJ hK0 hjI hd1 hd2 hd3
          go_loopw [6] (fun i wq => ∃ i0 : Nat, i0 ≤ j ∧ i = .int .i64 i0 ∧ vecK.Own 28 wq w.heap.size (.slice (some ⟨g, 0, none⟩) j c1) m ∧ Below w.heap.size w wq) (fun i _ => j - (intOf i).toNat)
          case atStart => exact ⟨0, Nat.zero_le _, rfl, o, hb⟩
          case round =>
            obtain ⟨i, hi, rfl, o, hb⟩ := hrel
            by_cases hlt : i < j
            · have hiI : (i : Int) < (j : Int) := by omega
              have hiI0 : (0 : Int) ≤ (i : Int) := by omega
              have hKI : (K : Int) < (j : Int) := by omega
              have hKI0 : (0 : Int) ≤ (K : Int) := by omega
              have hij1 : i + 1 ≤ j := hlt
              by_cases hiK : i = K
              · have hne : ((i : Int) != (K : Int)) = false := by rw [hiK]; simp
                go_upto_region 16 with fail
                refine wp_region_held_drew (S := fun w' => Below wr.drew.heap.size wr.drew w') (by kernel_rfl) (Below.refl _ _) ?_
                intro hHeld
                have hbd := Below.drew (Below.refl wr.heap.size wr)
                replace hb := bnext hb hbd
                replace o := o.below hbd
                generalize wr.drew = wd at *
                refine rtake 0 rfl (by rfl) (by kernel_rfl) (by kernel_rfl) (by kernel_rfl) (fun _ _ _ h => h) hHeld (fun wx hwx => by go_simp; try with_reducible rfl) ?_
                try simp only [Act.put, List.setIfInBounds_toArray, List.set_cons_zero, List.set_cons_succ]
                refine rtake 1 rfl (by rfl) (by kernel_rfl) (by kernel_rfl) (by kernel_rfl) (fun _ _ _ h => h) hHeld (fun wx hwx => by go_simp; try with_reducible rfl) ?_
                try simp only [Act.put, List.setIfInBounds_toArray, List.set_cons_zero, List.set_cons_succ]
                refine rtake 2 rfl (by rfl) (by kernel_rfl) (by kernel_rfl) (by kernel_rfl) (fun _ _ _ h => h) hHeld (fun wx hwx => by go_simp; try with_reducible rfl) ?_
                try simp only [Act.put, List.setIfInBounds_toArray, List.set_cons_zero, List.set_cons_succ]
                refine rtake 3 rfl (by rfl) (by kernel_rfl) (by kernel_rfl) (by kernel_rfl) (fun _ _ _ h => h) hHeld (fun wx hwx => by go_simp; try with_reducible rfl) ?_
                try simp only [Act.put, List.setIfInBounds_toArray, List.set_cons_zero, List.set_cons_succ]
                refine rpass 4 rfl (by rfl) (by kernel_rfl) (by kernel_rfl) (by kernel_rfl) (fun _ _ _ h => h) hHeld ?_
                try simp only [Act.put, List.setIfInBounds_toArray, List.set_cons_zero, List.set_cons_succ]
                refine rpass 5 rfl (by rfl) (by kernel_rfl) (by kernel_rfl) (by kernel_rfl) (fun _ _ _ h => h) hHeld ?_
                try simp only [Act.put, List.setIfInBounds_toArray, List.set_cons_zero, List.set_cons_succ]
                refine rpass 6 rfl (by rfl) (by kernel_rfl) (by kernel_rfl) (by kernel_rfl) (fun _ _ _ h => h) hHeld ?_
                try simp only [Act.put, List.setIfInBounds_toArray, List.set_cons_zero, List.set_cons_succ]
                refine rpass 7 rfl (by rfl) (by kernel_rfl) (by kernel_rfl) (by kernel_rfl) (fun _ _ _ h => h) hHeld ?_
                try simp only [Act.put, List.setIfInBounds_toArray, List.set_cons_zero, List.set_cons_succ]
                refine rpass 8 rfl (by rfl) (by kernel_rfl) (by kernel_rfl) (by kernel_rfl) (fun _ _ _ h => h) hHeld ?_
                try simp only [Act.put, List.setIfInBounds_toArray, List.set_cons_zero, List.set_cons_succ]
                refine rpass 9 rfl (by rfl) (by kernel_rfl) (by kernel_rfl) (by kernel_rfl) (fun _ _ _ h => h) hHeld ?_
                try simp only [Act.put, List.setIfInBounds_toArray, List.set_cons_zero, List.set_cons_succ]
                refine rpass 10 rfl (by rfl) (by kernel_rfl) (by kernel_rfl) (by kernel_rfl) (fun _ _ _ h => h) hHeld ?_
                try simp only [Act.put, List.setIfInBounds_toArray, List.set_cons_zero, List.set_cons_succ]
                refine rpass 11 rfl (by rfl) (by kernel_rfl) (by kernel_rfl) (by kernel_rfl) (fun _ _ _ h => h) hHeld ?_
                try simp only [Act.put, List.setIfInBounds_toArray, List.set_cons_zero, List.set_cons_succ]
                refine rpass 12 rfl (by rfl) (by kernel_rfl) (by kernel_rfl) (by kernel_rfl) (fun _ _ _ h => h) hHeld ?_
                try simp only [Act.put, List.setIfInBounds_toArray, List.set_cons_zero, List.set_cons_succ]
                refine rpass 13 rfl (by rfl) (by kernel_rfl) (by kernel_rfl) (by kernel_rfl) (fun _ _ _ h => h) hHeld ?_
                try simp only [Act.put, List.setIfInBounds_toArray, List.set_cons_zero, List.set_cons_succ]
                refine rtake 14 rfl (by rfl) (by kernel_rfl) (by kernel_rfl) (by kernel_rfl) (fun _ _ _ h => h) hHeld (fun wx hwx => by go_simp; try with_reducible rfl) ?_
                try simp only [Act.put, List.setIfInBounds_toArray, List.set_cons_zero, List.set_cons_succ]
                refine wpAnyH_done (by kernel_rfl) ?_ _
                clear hHeld
                go_wp2_with fail
                go_roundw
                case rel => exact ⟨i + 1, hij1, by go_num, o, hb⟩
                case measure => (simp [intOf] <;> omega)
              · have hne : ((i : Int) != (K : Int)) = true := by rw [bne_iff_ne]; omega
                have hcw := HW.out i hlt (by omega)
                go_upto_region 16 with fail
                refine wp_region_held_drew (S := fun w' => Below wr.drew.heap.size wr.drew w') (by kernel_rfl) (Below.refl _ _) ?_
                intro hHeld
                have hbd := Below.drew (Below.refl wr.heap.size wr)
                replace hb := bnext hb hbd
                replace o := o.below hbd
                generalize wr.drew = wd at *
                have om : vecK.Own 28 wd w.heap.size (.slice (some ⟨g, 0, none⟩) m.length c1) m := by rw [HML.out]; exact o
                have hKm : K < m.length := by rw [HML.out]; exact hKj
                have him : i < m.length := by rw [HML.out]; exact hlt
                rw [vat_get m K hKm, vat_get m i him] at hcw
                have iK := hmin _ (List.getElem_mem hKm)
                have ii := hmin _ (List.getElem_mem him)
                refine rtake 0 rfl (by rfl) (by kernel_rfl) (by kernel_rfl) (by kernel_rfl) (fun _ _ _ h => h) hHeld (fun wx hwx => by go_simp; try with_reducible rfl) ?_
                try simp only [Act.put, List.setIfInBounds_toArray, List.set_cons_zero, List.set_cons_succ]
                refine rtake 1 rfl (by rfl) (by kernel_rfl) (by kernel_rfl) (by kernel_rfl) (fun _ _ _ h => h) hHeld (fun wx hwx => by go_simp; try with_reducible rfl) ?_
                try simp only [Act.put, List.setIfInBounds_toArray, List.set_cons_zero, List.set_cons_succ]
                refine rtake 2 rfl (by rfl) (by kernel_rfl) (by kernel_rfl) (by kernel_rfl) (fun _ _ _ h => h) hHeld (fun wx hwx => by go_simp; try with_reducible rfl) ?_
                try simp only [Act.put, List.setIfInBounds_toArray, List.set_cons_zero, List.set_cons_succ]
                refine rtake 3 rfl (by rfl) (by kernel_rfl) (by kernel_rfl) (by kernel_rfl) (fun _ _ _ h => h) hHeld (fun wx hwx => by go_simp; try with_reducible rfl) ?_
                try simp only [Act.put, List.setIfInBounds_toArray, List.set_cons_zero, List.set_cons_succ]
                refine rtake 4 rfl (by rfl) (by kernel_rfl) (by kernel_rfl) (by kernel_rfl) (fun _ _ _ h => h) hHeld (fun wx hwx => by go_simp; try with_reducible rfl) ?_
                try simp only [Act.put, List.setIfInBounds_toArray, List.set_cons_zero, List.set_cons_succ]
                refine rtake 5 rfl (by rfl) (by kernel_rfl) (by kernel_rfl) (by kernel_rfl) (fun _ _ _ h => h) hHeld (fun wx hwx => by go_simp; try with_reducible rfl) ?_
                try simp only [Act.put, List.setIfInBounds_toArray, List.set_cons_zero, List.set_cons_succ]
                refine rtake 6 rfl (by rfl) (by kernel_rfl) (by kernel_rfl) (by kernel_rfl) (fun _ _ _ h => h) hHeld (fun wx hwx => by go_simp; try with_reducible rfl) ?_
                try simp only [Act.put, List.setIfInBounds_toArray, List.set_cons_zero, List.set_cons_succ]
                refine rtake 7 rfl (by rfl) (by kernel_rfl) (by kernel_rfl) (by kernel_rfl) (fun _ _ _ h => h) hHeld (fun wx hwx => exec_load_vec_at _ rfl g (K * 11) rfl m[K] ((om.below hwx).range K hKm)) ?_
                try simp only [Act.put, List.setIfInBounds_toArray, List.set_cons_zero, List.set_cons_succ]
                refine rtake 8 rfl (by rfl) (by kernel_rfl) (by kernel_rfl) (by kernel_rfl) (fun _ _ _ h => h) hHeld (fun wx hwx => by go_simp; try with_reducible rfl) ?_
                try simp only [Act.put, List.setIfInBounds_toArray, List.set_cons_zero, List.set_cons_succ]
                refine rtake 9 rfl (by rfl) (by kernel_rfl) (by kernel_rfl) (by kernel_rfl) (fun _ _ _ h => h) hHeld (fun wx hwx => by go_simp; try with_reducible rfl) ?_
                try simp only [Act.put, List.setIfInBounds_toArray, List.set_cons_zero, List.set_cons_succ]
                refine rtake 10 rfl (by rfl) (by kernel_rfl) (by kernel_rfl) (by kernel_rfl) (fun _ _ _ h => h) hHeld (fun wx hwx => by go_simp; try with_reducible rfl) ?_
                try simp only [Act.put, List.setIfInBounds_toArray, List.set_cons_zero, List.set_cons_succ]
                refine rtake 11 rfl (by rfl) (by kernel_rfl) (by kernel_rfl) (by kernel_rfl) (fun _ _ _ h => h) hHeld (fun wx hwx => exec_load_vec_at _ rfl g (i * 11) rfl m[i] ((om.below hwx).range i him)) ?_
                try simp only [Act.put, List.setIfInBounds_toArray, List.set_cons_zero, List.set_cons_succ]
                refine rcall 12 rfl (by kernel_rfl) (by rfl) (fun K' hK => ?_)
                go_simp
                have hcc := HC m[K] m[i] wd iK ii
                rw [hcw] at hcc
                refine hcc.mono ?_
                rintro e w8 ⟨rfl, b8⟩
                refine hK.out _ _ b8 ?_
                clear hK K' hcc
                refine wpAnyH_mono (S' := fun w' => Below w8.heap.size w8 w') (fun w' h => bnext b8 h) _ _ _ _ ?_
                replace hb := bnext hb b8
                replace o := o.below b8
                clear hHeld om
                have hHeld := Below.refl w8.heap.size w8
                try simp only [Act.put, List.setIfInBounds_toArray, List.set_cons_zero, List.set_cons_succ]
                refine rtake 13 rfl (by rfl) (by kernel_rfl) (by kernel_rfl) (by kernel_rfl) (fun _ _ _ h => h) hHeld (fun wx hwx => by go_simp; try with_reducible rfl) ?_
                try simp only [Act.put, List.setIfInBounds_toArray, List.set_cons_zero, List.set_cons_succ]
                refine rtake 14 rfl (by rfl) (by kernel_rfl) (by kernel_rfl) (by kernel_rfl) (fun _ _ _ h => h) hHeld (fun wx hwx => by go_simp; try with_reducible rfl) ?_
                try simp only [Act.put, List.setIfInBounds_toArray, List.set_cons_zero, List.set_cons_succ]
                refine wpAnyH_done (by kernel_rfl) ?_ _
                clear hHeld
                go_wp2_with fail
                go_roundw
                case rel => exact ⟨i + 1, hij1, by go_num, o, hb⟩
                case measure => (simp [intOf] <;> omega)
            · go_wp2_with fail
              refine (awake11_from HC HO HBn _).mono ?_
              rintro e wz ⟨rfl, bz⟩
              go_wp2_with fail
              go_ret
              exact ⟨rfl, bnext hb bz⟩
end Go.Proofs.Ytkhgkngapgaigaa
