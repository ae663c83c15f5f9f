/- The document's own filter of chapter 19 (gen_medref.py). -/
import Derived.Test.YtcccjjghalajoaaMedLaws2
import Derived.Test.YtcccjjghalajoaaChain
import Derived.Test.YtcccjjghalajoaaRowKeep
import Derived.Test.YtcccjjghalajoaaInK
import Derived.BigQuiet
namespace Go.Proofs.Ytcccjjghalajoaa
open Go.RowKit Go.Proofs
set_option maxRecDepth 50000
set_option linter.unusedVariables false
set_option linter.unusedSimpArgs false

/-- A row of numbers whose block lies above M. -/
def RdM (w : World) (M : Nat) (v : Value) (l : List Int) : Prop :=
  ∃ p cap, v = .slice p l.length cap ∧ l.length ≤ cap ∧ cap ≤ maxLen ∧ (l = [] ∨ ∃ b off, p = some ⟨b, off, none⟩ ∧ M ≤ b ∧ b < w.heap.size ∧ ∀ i (h : i < l.length), w.cell? ⟨b, off + i, none⟩ = some (.int .i64 l[i]))
theorem RdM.ints {w : World} {M : Nat} {v : Value} {l : List Int} (h : RdM w M v l) : Ints w v l := by
  obtain ⟨p, cap, rfl, h1, h2, h3⟩ := h
  refine ⟨p, cap, rfl, h1, h2, ?_⟩
  rcases h3 with h | ⟨b, off, hp, -, hlt, hc⟩
  · exact .inl h
  · exact .inr ⟨b, off, hp, hlt, hc⟩
theorem cellM_of {w w' : World} {b i : Nat} (h : w'.heap[b]? = w.heap[b]?) : w'.cell? ⟨b, i, none⟩ = w.cell? ⟨b, i, none⟩ := by
  unfold World.cell?
  rw [h]
theorem RdM.below {w w' : World} {M : Nat} {v : Value} {l : List Int} (h : RdM w M v l) (hb : Below w.heap.size w w') : RdM w' M v l := by
  obtain ⟨p, cap, rfl, h1, h2, h3⟩ := h
  refine ⟨p, cap, rfl, h1, h2, ?_⟩
  rcases h3 with h | ⟨b, off, hp, hM, hlt, hc⟩
  · exact .inl h
  · exact .inr ⟨b, off, hp, hM, Nat.lt_of_lt_of_le hlt hb.size, fun i hi => by rw [hb.cell (p := ⟨b, off + i, none⟩) hlt]; exact hc i hi⟩
theorem RdM.only {w w' : World} {M g : Nat} {v : Value} {l : List Int} (h : RdM w M v l) (ho : Only g w w') (hg : g < M) : RdM w' M v l := by
  obtain ⟨p, cap, rfl, h1, h2, h3⟩ := h
  refine ⟨p, cap, rfl, h1, h2, ?_⟩
  rcases h3 with h | ⟨b, off, hp, hM, hlt, hc⟩
  · exact .inl h
  · exact .inr ⟨b, off, hp, hM, Nat.lt_of_lt_of_le hlt ho.size, fun i hi => by rw [cellM_of (ho.block b hlt (by omega))]; exact hc i hi⟩
theorem RdM.mono {w : World} {M N : Nat} {v : Value} {l : List Int} (h : RdM w M v l) (hN : N ≤ M) : RdM w N v l := by
  obtain ⟨p, cap, rfl, h1, h2, h3⟩ := h
  refine ⟨p, cap, rfl, h1, h2, ?_⟩
  rcases h3 with h | ⟨b, off, hp, hM, r⟩
  · exact .inl h
  · exact .inr ⟨b, off, hp, Nat.le_trans hN hM, r⟩
theorem inK_own {w : World} {base : Nat} {v : Value} {l : List Int} (h : inK.Own 3 w base v l) : RdM w base v l := by
  by_cases hl : 0 < l.length
  · obtain ⟨g, cap, rfl, hb, hg, h1, h2⟩ := h.form hl
    exact ⟨_, cap, rfl, h1, h2, .inr ⟨g, 0, rfl, hb, hg, fun i hi => by have h9 := h.cell i 0 hi (by decide) _ rfl; rw [show i * inK.n + 0 = i by show i * 1 + 0 = i; omega] at h9; rw [Nat.zero_add]; exact h9⟩⟩
  · obtain rfl : l = [] := List.eq_nil_of_length_eq_zero (by omega)
    obtain ⟨p, cap, hv, h1, h2, -⟩ := h.reads
    exact ⟨p, cap, hv, h1, h2, .inl rfl⟩
/-- The row in its order behind one more. -/
theorem sorted_in {A B : List Int} {z : Int} (hs : (A ++ B).Pairwise (· ≤ ·)) (hA : ∀ a ∈ A, a ≤ z) (hB : ∀ b ∈ B, z ≤ b) : (A ++ z :: B).Pairwise (· ≤ ·) := by
  rw [List.pairwise_append] at hs ⊢
  refine ⟨hs.1, List.pairwise_cons.2 ⟨hB, hs.2.1⟩, fun a ha b hb => ?_⟩
  rcases List.mem_cons.1 hb with rfl | hb
  · exact hA a ha
  · exact hs.2.2 a ha b hb
theorem last_le {A B : List Int} {a z : Int} (hs : ((A ++ [a]) ++ B).Pairwise (· ≤ ·)) (h : a ≤ z) : ∀ x ∈ A ++ [a], x ≤ z := by
  intro x hx
  rw [List.pairwise_append] at hs
  have h1 := (List.pairwise_append.1 hs.1).2.2
  rcases List.mem_append.1 hx with hx | hx
  · exact Int.le_trans (h1 x hx a (List.mem_singleton.2 rfl)) h
  · rw [List.mem_singleton.1 hx]; exact h

theorem wpList_litM {ops : Array Oper} {rest : List Oper} {op : Oper} {a : Act} {w : World} {Q : Exit → Act → World → Prop} (hgd : op.guard = none) (ty : TypeId) (n : Nat) (parts : Array (Nat × Operand)) (ho : op.op = .buildSlice ty n parts)
    (pv : Array (Nat × Value)) (hp : (parts.map fun (i, x) => (i, a.eval x)) = pv) (v : Value) (w' : World) (hr : (Instr.buildSlice ty n pv).run Try.prog w = .ok v w')
    (h : wpList Try.prog ops Q rest (a.put op.dst v) w') : wpList Try.prog ops Q (op :: rest) a w :=
  wpList_plain hgd fun K hK => by
    unfold Oper.wp execOp
    simp only [ho]
    rw [hp]
    simp only [Sem.run_bind, hr, Result.andThen_ok, Sem.run_pure]
    exact hK _ _ h

set_option maxRecDepth 100000 in
set_option maxHeartbeats 8000000 in
theorem refMedian_any (g n : Nat) (l : List Int) (v : Value) (w : World) (B : Box w g [.int .i64 (n : Int), v] 28) (hI : Ints w v l) (hl : l.length ≤ 16) :
    Calls Try.prog 16 #[.pointer (some ⟨g, 0, none⟩)] w fun e w' => ∃ m, e = .returned (.tuple #[.int .i64 m, .bool (decide (0 < l.length))]) ∧ MedOf l m ∧ Below w.heap.size w w' := by
  have HI := hid fun (wx : World) (h : Below w.heap.size w wx) => hI.belowM h
  have HBX := hid fun (wx : World) (h : Below w.heap.size w wx) => B.below h
  obtain ⟨pk, capk, rfl, hcapk, hmaxk, hatk⟩ := hI
  have ROWk := hid fun h => IntsAt.rowM hatk h
  have HL := hid hl
  have hcB := B.cell 1 _ rfl
  clear hatk B
  unfold maxLen at hmaxk
  have hl16 : (l.length : Int) ≤ 16 := by omega
  have hown := RowK.Own.nil inK 3 w w.heap.size
  go_enter Try.func16, Try.ntmps16
  go_wp2_with fail
  go_loopw [4, 5, 6] (fun sv jv _ wr => ∃ (j : Nat) (E : List Int), j ≤ l.length ∧ jv = .int .i64 (j : Int) ∧ E.length = j ∧ inK.Own 3 wr w.heap.size sv E ∧ Hid (E.Perm (l.take j) ∧ E.Pairwise (· ≤ ·)) ∧ Below w.heap.size w wr) (fun _ jv _ _ => l.length - (intOf jv).toNat)
  case atStart => exact ⟨0, [], Nat.zero_le _, rfl, rfl, hown, hid ⟨by rw [List.take_zero], List.Pairwise.nil⟩, Below.refl _ _⟩
  case round =>
    clear hown hcB
    obtain ⟨j, E, hjl, rfl, hEl, hown, hE, hb⟩ := hrel
    have hcB := (HBX.out _ hb).cell 1 _ rfl
    by_cases hj : j < l.length
    · have hjI : (j : Int) < (l.length : Int) := by omega
      obtain ⟨b0, off, rfl, hc⟩ := ROWk.out (by omega)
      obtain ⟨z, hz⟩ : ∃ z, l[j] = z := ⟨_, rfl⟩
      have hcell := (hc _ hb j hj).trans (by rw [hz])
      have hsn := hid (snoc_take hj hz)
      have hj1 := hid hj
      clear hc hz
      obtain ⟨pE, capE, hpe, hE1, hE2, -⟩ := id hown.reads
      subst hpe
      unfold maxLen at hE2
      have z1 := bnew wr (Obj.cells (inK.enc z).toArray 3)
      have hlit := lit_int z wr
      have one2 : inK.Reads (wr.alloc (Obj.cells (inK.enc z).toArray 3)) (.slice (some ⟨wr.heap.size, 0, none⟩) 1 1) [z] := RowK.Reads.one inK wr 3 z rfl
      go_upto_region 6 with fail
      generalize wr.alloc (Obj.cells (inK.enc z).toArray 3) = W2 at *
      have own2 := hown.below z1
      have hb2 := bnext hb z1
      have hbs := hb2.size
      have hl1 : (E.length + [z].length) * 8 ≤ 140737488355328 := by rw [List.length_singleton]; omega
      have hl2 : E.length + [z].length ≤ 140737488355328 := by rw [List.length_singleton]; omega
      generalize wr.heap.size = g8 at *
      go_upto_region 20 with (first | (guard_target =~ wpList _ _ _ (⟨some 26, _, _, _, _, _⟩ :: _) _ _; refine @wpList_litM _ _ ⟨some 26, .buildSlice 22 1 #[(0, .tmp 25)], _, _, _, _⟩ _ _ _ (by rfl) 22 1 _ (by rfl) #[(0, .int .i64 z)] (by kernel_rfl) _ _ hlit ?_) | (guard_target =~ wpList _ _ _ (⟨some 27, _, _, _, _, _⟩ :: _) _ _; refine inK.wpList_append Try.underlying22 int_info rfl (o := ⟨some 27, _, _, _, _, _⟩) rfl _ _ rfl rfl w.heap.size _ _ E [z] rfl rfl own2 one2 hl1 hl2 hbs ?_; intro v' w' own' bel'))
      clear hcell hcB own2 one2 hl1 hl2 hbs hlit z1 hown
      replace hb := hb2.trans bel'
      clear hb2 bel'
      have hEj := hid hEl
      go_loopw [6] (fun kv wr => ∃ (A Bq : List Int), kv = .int .i64 (A.length : Int) ∧ inK.Own 3 wr w.heap.size v' (A ++ z :: Bq) ∧ Hid (A ++ Bq = E ∧ ∀ b ∈ Bq, z ≤ b) ∧ Below w.heap.size w wr) (fun kv _ => (intOf kv).toNat)
      case atStart => exact ⟨E, [], by rw [hEj.out], own', hid ⟨List.append_nil _, by simp⟩, hb⟩
      case round =>
        clear own' hb
        obtain ⟨A, Bq, rfl, own, hAB, hb⟩ := hrel
        have HE : Hid (∀ (hA : ∀ a ∈ A, a ≤ z), (A ++ z :: Bq).Perm (l.take (j + 1)) ∧ (A ++ z :: Bq).Pairwise (· ≤ ·) ∧ (A ++ z :: Bq).length = j + 1) := hid fun hA => by
          obtain ⟨e, hB⟩ := hAB.out
          obtain ⟨hp, hs⟩ := hE.out
          have h1 : (A ++ z :: Bq).Perm (l.take (j + 1)) := by
            rw [← hsn.out]
            exact List.perm_middle.trans ((List.Perm.cons z (by rw [e]; exact hp)).trans (List.perm_append_singleton z (l.take j)).symm)
          refine ⟨h1, sorted_in (by rw [e]; exact hs) hA hB, ?_⟩
          rw [h1.length_eq, List.length_take]
          have := hj1.out
          omega
        have HLEN : Hid ((A ++ z :: Bq).length ≤ 17) := hid (by
          obtain ⟨e, hB⟩ := hAB.out
          have h2 := congrArg List.length e
          rw [List.length_append] at h2 ⊢
          rw [List.length_cons]
          have := hEj.out
          have := hj1.out
          have := HL.out
          omega)
        rcases List.eq_nil_or_concat A with rfl | ⟨A2, a, rfl⟩
        · obtain ⟨h1, h2, h3⟩ := HE.out (by simp)
          have H1 := hid h1
          have H2 := hid h2
          have H3 := hid h3
          clear h1 h2 h3 HE
          go_upto_region 7 with fail
          go_quiet (fail)
          have hd := drewM_below wr nq
          generalize wr.drewN nq = W at *
          have ownW := own.below hd
          have hbW := bnext hb hd
          go_wp2_with fail
          go_roundw
          case rel => exact ⟨j + 1, _, hj1.out, by go_num, H3.out, ownW, hid ⟨H1.out, H2.out⟩, hbW⟩
          case measure => (have := hj1.out; simp [intOf] <;> omega)
        · rw [List.concat_eq_append] at own hAB HE HLEN ⊢
          obtain ⟨i, hi⟩ : ∃ i, A2.length = i := ⟨_, rfl⟩
          have hAl : (A2 ++ [a]).length = i + 1 := by rw [List.length_append, hi]; rfl
          rw [hAl]
          have eR : (A2 ++ [a]) ++ z :: Bq = A2 ++ a :: z :: Bq := by simp
          have hRl : (A2 ++ a :: z :: Bq).length = i + 2 + Bq.length := by rw [List.length_append, hi, List.length_cons, List.length_cons]; omega
          have hi16 : i ≤ 15 := by
            have := HLEN.out
            rw [eR, hRl] at this
            omega
          rw [eR] at own
          obtain ⟨g5, cap5, hv5, hg5, hg5l, hcl5, hcm5⟩ := own.form (by rw [hRl]; omega)
          obtain ⟨N, hN⟩ : ∃ N, (A2 ++ a :: z :: Bq).length = N := ⟨_, rfl⟩
          subst hv5
          have C1 := hid fun (wx : World) (h : inK.Own 3 wx w.heap.size (.slice (some ⟨g5, 0, none⟩) (A2 ++ a :: z :: Bq).length cap5) (A2 ++ a :: z :: Bq)) => (show wx.cell? ⟨g5, i, none⟩ = some (.int .i64 a) ∧ wx.cell? ⟨g5, i + 1, none⟩ = some (.int .i64 z) from by
            have h1 := h.cell i 0 (by rw [hRl]; omega) (by decide) (.int .i64 a) (by rw [List.getElem_append_right (by omega)]; simp [hi]; rfl)
            have h2 := h.cell (i + 1) 0 (by rw [hRl]; omega) (by decide) (.int .i64 z) (by rw [List.getElem_append_right (by omega)]; simp [hi]; rfl)
            exact ⟨by rw [show i * inK.n + 0 = i by show i * 1 + 0 = i; omega] at h1; exact h1, by rw [show (i + 1) * inK.n + 0 = i + 1 by show (i + 1) * 1 + 0 = i + 1; omega] at h2; exact h2⟩)
          have PUT2 := hid fun (wx : World) (h : inK.Own 3 wx w.heap.size (.slice (some ⟨g5, 0, none⟩) (A2 ++ a :: z :: Bq).length cap5) (A2 ++ a :: z :: Bq)) => (show
              (wx.setCell ⟨g5, i + 1, none⟩ (.int .i64 a)).cell? ⟨g5, i, none⟩ = some (.int .i64 a) ∧ (wx.setCell ⟨g5, i + 1, none⟩ (.int .i64 a)).frozen? ⟨g5, i, none⟩ = false ∧
              inK.Own 3 ((wx.setCell ⟨g5, i + 1, none⟩ (.int .i64 a)).setCell ⟨g5, i, none⟩ (.int .i64 z)) w.heap.size (.slice (some ⟨g5, 0, none⟩) (A2 ++ a :: z :: Bq).length cap5) (A2 ++ z :: a :: Bq) from by
            have p1 := h.put (i + 1) 0 (by rw [hRl]; omega) (by decide) (.int .i64 a) a rfl
            have e1 : (A2 ++ a :: z :: Bq).set (i + 1) a = A2 ++ a :: a :: Bq := by rw [List.set_append_right _ _ (by omega), hi]; simp
            rw [e1, show (i + 1) * inK.n + 0 = i + 1 by show (i + 1) * 1 + 0 = i + 1; omega] at p1
            have hl9 : (A2 ++ a :: z :: Bq).length = (A2 ++ a :: a :: Bq).length := by simp
            rw [hl9] at p1 ⊢
            have f1 := p1.free i
            have c1 := p1.cell i 0 (by rw [← hl9, hRl]; omega) (by decide) (.int .i64 a) (by rw [List.getElem_append_right (by omega)]; simp [hi]; rfl)
            have p2 := p1.put i 0 (by rw [← hl9, hRl]; omega) (by decide) (.int .i64 z) z rfl
            have e2 : (A2 ++ a :: a :: Bq).set i z = A2 ++ z :: a :: Bq := by rw [List.set_append_right _ _ (by omega), hi]; simp
            rw [e2, show i * inK.n + 0 = i by show i * 1 + 0 = i; omega] at p2
            rw [show i * inK.n + 0 = i by show i * 1 + 0 = i; omega] at c1
            exact ⟨c1, f1, p2⟩)
          have HO := hid own
          have hfr := fun (wx : World) (h : inK.Own 3 wx w.heap.size (.slice (some ⟨g5, 0, none⟩) (A2 ++ a :: z :: Bq).length cap5) (A2 ++ a :: z :: Bq)) => h.free (i + 1)
          have HFR := hid hfr
          have hNi : i + 1 < N := by omega
          have hNI : ((i : Int) + 1) < (N : Int) := by omega
          have hNI2 : (i : Int) < (N : Int) := by omega
          obtain ⟨hc1, hc2⟩ := C1.out _ own
          have hw1 : IntKind.i64.wrap ((i : Int) + 1 - 1) = (i : Int) := by rw [IntKind.wrap_i64]; omega
          have hw2 : (i : Int) + 1 - 1 = (i : Int) := by omega
          have hw3 : IntKind.i64.wrap (i : Int) = (i : Int) := by rw [IntKind.wrap_i64]; omega
          have hgt : decide ((0 : Int) < (i : Int) + 1) = true := decide_eq_true (by omega)
          have hiI : (0 : Int) ≤ (i : Int) := by omega
          have hiI1 : (0 : Int) ≤ (i : Int) + 1 := by omega
          rw [hN]
          rw [hN] at C1 PUT2 HFR HO hcl5
          have HI2 := hid hi
          clear hfr own eR hRl hi hg5l hN hAl
          by_cases hza : z < a
          · have hdz : decide (z < a) = true := decide_eq_true hza
            have HAB2 : Hid (A2 ++ a :: Bq = E ∧ ∀ b ∈ a :: Bq, z ≤ b) := hid ⟨by have := hAB.out.1; rw [List.append_assoc] at this; exact this, by
              intro b hb9
              rcases List.mem_cons.1 hb9 with rfl | h
              · omega
              · exact hAB.out.2 b h⟩
            clear HE HLEN
            go_upto_region 7 with fail
            go_quiet (fail)
            have hd := drewM_below wr nq
            generalize wr.drewN nq = W at *
            have ownW := HO.out.below hd
            have hbW := bnext hb hd
            clear hc1 hc2 HO hb hd
            go_upto_region 8 with fail
            refine rwhole (by kernel_rfl) ?_
            have bd := Below.drew (Below.refl W.heap.size W)
            have own8 := ownW.below bd
            have hb8 := bnext hbW bd
            clear ownW hbW bd
            generalize W.drew = W8 at *
            obtain ⟨hc1, hc2⟩ := C1.out _ own8
            have hf2 := HFR.out _ own8
            obtain ⟨hc3, hf3, own9⟩ := PUT2.out _ own8
            have hb9 := (hb8.setCell (p := ⟨g5, i + 1, none⟩) hg5 (.int .i64 a)).setCell (p := ⟨g5, i, none⟩) hg5 (.int .i64 z)
            have hHeld : True := trivial
            refine rtake 0 rfl (by rfl) (by kernel_rfl) (by kernel_rfl) (by kernel_rfl) (fun _ _ _ h => h) hHeld (fun wx hwx => by go_simp; try with_reducible rfl) ?_
            try simp only [Act.put, List.setIfInBounds_toArray, List.set_cons_zero, List.set_cons_succ]
            refine rtake 1 rfl (by rfl) (by kernel_rfl) (by kernel_rfl) (by kernel_rfl) (fun _ _ _ h => h) hHeld (fun wx hwx => by go_simp; try with_reducible rfl) ?_
            try simp only [Act.put, List.setIfInBounds_toArray, List.set_cons_zero, List.set_cons_succ]
            refine rtake 2 rfl (by rfl) (by kernel_rfl) (by kernel_rfl) (by kernel_rfl) (fun _ _ _ h => h) hHeld (fun wx hwx => by go_simp; try with_reducible rfl) ?_
            try simp only [Act.put, List.setIfInBounds_toArray, List.set_cons_zero, List.set_cons_succ]
            refine rtake 3 rfl (by rfl) (by kernel_rfl) (by kernel_rfl) (by kernel_rfl) (fun _ _ _ h => h) hHeld (fun wx hwx => by go_simp; try with_reducible rfl) ?_
            try simp only [Act.put, List.setIfInBounds_toArray, List.set_cons_zero, List.set_cons_succ]
            refine rtake 4 rfl (by rfl) (by kernel_rfl) (by kernel_rfl) (by kernel_rfl) (fun _ _ _ h => h) hHeld (fun wx hwx => by go_simp; try with_reducible rfl) ?_
            try simp only [Act.put, List.setIfInBounds_toArray, List.set_cons_zero, List.set_cons_succ]
            refine rtake 5 rfl (by rfl) (by kernel_rfl) (by kernel_rfl) (by kernel_rfl) (fun _ _ _ h => h) hHeld (fun wx hwx => by go_simp; try with_reducible rfl) ?_
            try simp only [Act.put, List.setIfInBounds_toArray, List.set_cons_zero, List.set_cons_succ]
            refine rtake 6 rfl (by rfl) (by kernel_rfl) (by kernel_rfl) (by kernel_rfl) (fun _ _ _ h => h) hHeld (fun wx hwx => by go_simp; try with_reducible rfl) ?_
            try simp only [Act.put, List.setIfInBounds_toArray, List.set_cons_zero, List.set_cons_succ]
            refine rtake 7 rfl (by rfl) (by kernel_rfl) (by kernel_rfl) (by kernel_rfl) (fun _ _ _ h => h) hHeld (fun wx hwx => by go_simp; try with_reducible rfl) ?_
            try simp only [Act.put, List.setIfInBounds_toArray, List.set_cons_zero, List.set_cons_succ]
            refine rtake 8 rfl (by rfl) (by kernel_rfl) (by kernel_rfl) (by kernel_rfl) (fun _ _ _ h => h) hHeld (fun wx hwx => by go_simp; try with_reducible rfl) ?_
            try simp only [Act.put, List.setIfInBounds_toArray, List.set_cons_zero, List.set_cons_succ]
            refine rtake 10 rfl (by rfl) (by kernel_rfl) (by kernel_rfl) (by kernel_rfl) (fun _ _ _ h => h) hHeld (fun wx hwx => by go_simp; try with_reducible rfl) ?_
            try simp only [Act.put, List.setIfInBounds_toArray, List.set_cons_zero, List.set_cons_succ]
            refine rtake 11 rfl (by rfl) (by kernel_rfl) (by kernel_rfl) (by kernel_rfl) (fun _ _ _ h => h) hHeld (fun wx hwx => by go_simp; try with_reducible rfl) ?_
            try simp only [Act.put, List.setIfInBounds_toArray, List.set_cons_zero, List.set_cons_succ]
            refine rtake 12 rfl (by rfl) (by kernel_rfl) (by kernel_rfl) (by kernel_rfl) (fun _ _ _ h => h) hHeld (fun wx hwx => by go_simp; try with_reducible rfl) ?_
            try simp only [Act.put, List.setIfInBounds_toArray, List.set_cons_zero, List.set_cons_succ]
            refine rtwo 9 13 rfl rfl (by kernel_rfl) (by rfl) (by rfl) (fun K hK => ?_) (fun K hK => ?_)
            · go_simp
              refine hK.out _ _ trivial ?_
              clear hK K
              try simp only [Act.put, List.setIfInBounds_toArray, List.set_cons_zero, List.set_cons_succ]
              refine rcall 13 rfl (by kernel_rfl) (by rfl) (fun K hK => ?_)
              go_simp
              refine hK.out _ _ trivial ?_
              clear hK K
              try simp only [Act.put, List.setIfInBounds_toArray, List.set_cons_zero, List.set_cons_succ]
              refine rchain _ 14 4 rfl rfl (by kernel_rfl) (by kernel_rfl) ?_
              go_wp2_with fail
              generalize ((W8.setCell ⟨g5, i + 1, none⟩ (.int .i64 a)).setCell ⟨g5, i, none⟩ (.int .i64 z)) = W9 at *
              go_roundw
              case rel => exact ⟨A2, a :: Bq, by rw [HI2.out], own9, HAB2, hb9⟩
              case measure => (simp [intOf] <;> omega)
            · go_simp
              refine hK.out _ _ trivial ?_
              clear hK K
              try simp only [Act.put, List.setIfInBounds_toArray, List.set_cons_zero, List.set_cons_succ]
              refine rcall 9 rfl (by kernel_rfl) (by rfl) (fun K hK => ?_)
              go_simp
              refine hK.out _ _ trivial ?_
              clear hK K
              try simp only [Act.put, List.setIfInBounds_toArray, List.set_cons_zero, List.set_cons_succ]
              refine rchain _ 14 4 rfl rfl (by kernel_rfl) (by kernel_rfl) ?_
              go_wp2_with fail
              generalize ((W8.setCell ⟨g5, i + 1, none⟩ (.int .i64 a)).setCell ⟨g5, i, none⟩ (.int .i64 z)) = W9 at *
              go_roundw
              case rel => exact ⟨A2, a :: Bq, by rw [HI2.out], own9, HAB2, hb9⟩
              case measure => (simp [intOf] <;> omega)
          · have hdz : decide (z < a) = false := decide_eq_false hza
            obtain ⟨h1, h2, h3⟩ := HE.out (last_le (B := Bq) (by obtain ⟨e, -⟩ := hAB.out; rw [e]; exact hE.out.2) (by omega))
            have H1 := hid h1
            have H2 := hid h2
            have H3 := hid h3
            clear h1 h2 h3 HE
            have eR2 : (A2 ++ [a]) ++ z :: Bq = A2 ++ a :: z :: Bq := by simp
            rw [eR2] at H1 H2 H3
            clear eR2 hza
            go_upto_region 7 with fail
            go_quiet (fail)
            have hd := drewM_below wr nq
            generalize wr.drewN nq = W at *
            have ownW := HO.out.below hd
            have hbW := bnext hb hd
            go_wp2_with fail
            go_roundw
            case rel => exact ⟨j + 1, _, hj1.out, by go_num, H3.out, ownW, hid ⟨H1.out, H2.out⟩, hbW⟩
            case measure => (have := hj1.out; simp [intOf] <;> omega)
    · obtain rfl : j = l.length := by omega
      rw [List.take_length] at hE
      have hpl := hE.out.1.length_eq
      by_cases h0 : 0 < l.length
      · have hd1 := hid (show decide (0 < l.length) = true from decide_eq_true h0)
        obtain ⟨q, hq⟩ : ∃ q, (l.length - 1) / 2 = q := ⟨_, rfl⟩
        have hm : IsMed l (E.getD q 0) := by
          have := (isMed_sorted hE.out.2 (by omega)).perm hE.out.1
          rwa [hpl, hq] at this
        obtain ⟨g5, cap5, hv5, -, hg5l, hcl5, hcm5⟩ := hown.form (by omega)
        have hqE : q < E.length := by omega
        have hc5 : wr.cell? ⟨g5, q, none⟩ = some (.int .i64 (E.getD q 0)) := by
          subst hv5
          have h9 := hown.cell q 0 hqE (by decide) _ rfl
          rw [show q * inK.n + 0 = q by show q * 1 + 0 = q; omega] at h9
          rw [h9, List.getD_eq_getElem?_getD, List.getElem?_eq_getElem hqE]
          rfl
        subst hv5
        rw [hEl]
        generalize E.getD q 0 = m at *
        have HM := hid hm
        have hw1 : IntKind.i64.wrap ((l.length : Int) - 1) = (l.length : Int) - 1 := by rw [IntKind.wrap_i64]; omega
        have hw2 : ((l.length : Int) - 1).tdiv 2 = (q : Int) := by rw [Int.tdiv_eq_ediv_of_nonneg (by omega)]; omega
        have hw3 : IntKind.i64.wrap (q : Int) = (q : Int) := by rw [IntKind.wrap_i64]; omega
        have hq0 : (0 : Int) ≤ (q : Int) := by omega
        have hqI : (q : Int) < (l.length : Int) := by omega
        have hl0 : ((l.length : Int) == 0) = false := beq_false_of_ne (by omega)
        have HH0 := hid h0
        have hb9 := hid hb
        clear hm hq hqE hown hEl hpl hE hg5l hcl5 hcm5
        go_wp2_with fail
        go_ret2
        exact ⟨m, by rw [hd1.out]; rfl, by unfold MedOf; rw [if_pos HH0.out]; exact HM.out, hb9.out⟩
      · skip
        have hE0 : E.length = 0 := by omega
        obtain rfl : l = [] := List.eq_nil_of_length_eq_zero (by omega)
        obtain ⟨pE, capE, hpe, -, -, -⟩ := id hown.reads
        subst hpe
        rw [hE0]
        clear hE hown hE0 hEl hpl
        go_wp2_with fail
        go_ret2
        exact ⟨0, rfl, by unfold MedOf; rw [if_neg (by decide)], hb⟩
set_option maxRecDepth 100000 in
set_option maxHeartbeats 8000000 in
theorem refPut_any19 (g n : Nat) (l : List Int) (x : Int) (v : Value) (w : World) (B : Box w g [.int .i64 (n : Int), v] 28) (hI : Ints w v l) (hn1 : 1 ≤ n) (hn15 : n ≤ 15) (hl : l.length ≤ n) :
    Calls Try.prog 12 #[.pointer (some ⟨g, 0, none⟩), .int .i64 x] w fun e w' => ∃ m v', e = .returned (.int .i64 m) ∧ IsMed (putL n l x) m ∧ Box w' g [.int .i64 (n : Int), v'] 28 ∧ RdM w' w.heap.size v' (putL n l x) ∧ Only g w w' := by
  have hcB0 := B.cell 0 _ rfl
  have hcB := B.cell 1 _ rfl
  have hfB := B.free 1
  have hlt := B.lt
  have HB := hid B
  have hK := hI.readsK
  have hown := RowK.Own.nil inK 3 w w.heap.size
  have hpl := putL_ne n hn1 l x hl
  have hl1 : (0 + l.length) * 8 ≤ 140737488355328 := by omega
  have hl2 : 0 + l.length ≤ 140737488355328 := by omega
  have hbz : w.heap.size ≤ w.heap.size := Nat.le_refl _
  clear hI B
  go_enter Try.func12, Try.ntmps12
  go_upto_region 1 with fail
  go_upto_region 2 with (first | (guard_target =~ wpList _ _ _ (⟨some 12, _, _, _, _, _⟩ :: _) _ _; refine inK.wpList_append Try.underlying22 int_info rfl (o := ⟨some 12, _, _, _, _, _⟩) rfl _ _ rfl rfl w.heap.size _ _ [] l rfl rfl hown hK (by simp only [List.length_nil]; omega) (by simp only [List.length_nil]; omega) hbz ?_; intro v1 w1 own1 bel1; rw [List.nil_append] at own1; have z1 := bnew w1 (Obj.cells (inK.enc x).toArray 3); have hlit := lit_int x w1; have one2 : inK.Reads (w1.alloc (Obj.cells (inK.enc x).toArray 3)) (.slice (some ⟨w1.heap.size, 0, none⟩) 1 1) [x] := RowK.Reads.one inK w1 3 x rfl; generalize w1.alloc (Obj.cells (inK.enc x).toArray 3) = W2 at *; have own2 := own1.below z1; have hb2 := bnext bel1 z1; have hbs := hb2.size; generalize w1.heap.size = g8 at *) | (guard_target =~ wpList _ _ _ (⟨some 14, _, _, _, _, _⟩ :: _) _ _; refine @wpList_litM _ _ ⟨some 14, .buildSlice 22 1 #[(0, .tmp 13)], _, _, _, _⟩ _ _ _ (by rfl) 22 1 _ (by rfl) #[(0, .int .i64 x)] (by kernel_rfl) _ _ hlit ?_) | (guard_target =~ wpList _ _ _ (⟨some 15, _, _, _, _, _⟩ :: _) _ _; refine inK.wpList_append Try.underlying22 int_info rfl (o := ⟨some 15, _, _, _, _, _⟩) rfl _ _ rfl rfl w.heap.size _ _ l [x] rfl rfl own2 one2 (by simp only [List.length_singleton]; omega) (by simp only [List.length_singleton]; omega) hbs ?_; intro v' w' own' bel'; have hb3 := hb2.trans bel'; have hN5 : (l ++ [x]).length = l.length + 1 := (by rw [List.length_append, List.length_singleton]); obtain ⟨g5, cap5, hv5, hb5, hg5, hc5, hm5⟩ := own'.form (by rw [hN5]; omega); rw [hN5] at hv5 hc5; subst hv5; have rd5 := inK_own own'; have hcB1 := (HB.out.below hb3).cell 1 _ rfl; have hfB1 := (HB.out.below hb3).free 1))
  unfold maxLen at hm5
  have B5 : Box (w'.setCell ⟨g, 1, none⟩ (.slice (some ⟨g5, 0, none⟩) (l.length + 1) cap5)) g [.int .i64 (n : Int), .slice (some ⟨g5, 0, none⟩) (l.length + 1) cap5] 28 := (HB.out.below hb3).set 1 (.slice (some ⟨g5, 0, none⟩) (l.length + 1) cap5)
  have o5 : Only g w (w'.setCell ⟨g, 1, none⟩ (.slice (some ⟨g5, 0, none⟩) (l.length + 1) cap5)) := (Only.of_below g hb3).cell 1 _
  have rd6 : RdM (w'.setCell ⟨g, 1, none⟩ (.slice (some ⟨g5, 0, none⟩) (l.length + 1) cap5)) w.heap.size (.slice (some ⟨g5, 0, none⟩) (l.length + 1) cap5) (l ++ [x]) := rd5.only ((Only.refl g w').cell 1 _) hlt
  generalize w'.setCell ⟨g, 1, none⟩ (.slice (some ⟨g5, 0, none⟩) (l.length + 1) cap5) = W5 at *
  have HBH := hid HB
  clear hcB hfB hown hK hl1 hl2 hbz own1 own2 own' one2 hlit z1 bel1 hb2 bel' hbs hb3 hcB1 hfB1 rd5 hcB0 HB HBH hpl
  have hc0 := B5.cell 0 _ rfl
  have hc1 := B5.cell 1 _ rfl
  by_cases hgt : n < l.length + 1
  · have hgtI : decide ((n : Int) < (l.length : Int) + 1) = true := decide_eq_true (by omega)
    have hgtN : decide (n < l.length + 1) = true := decide_eq_true hgt
    have EP := hid (show putL n l x = (l ++ [x]).drop 1 from if_pos hgt)
    have hl0 : 1 ≤ l.length := by omega
    have rd7 : ∀ wx, RdM wx w.heap.size (.slice (some ⟨g5, 0, none⟩) (l.length + 1) cap5) (l ++ [x]) → RdM wx w.heap.size (.slice (some ⟨g5, 1, none⟩) l.length (cap5 - 1)) ((l ++ [x]).drop 1) := fun wx h => by
      obtain ⟨p, cap, hv, h1, h2, h3⟩ := h
      injection hv with hv1 hv2 hv3
      subst hv1 hv3
      refine ⟨_, _, by rw [List.length_drop, hN5, Nat.add_sub_cancel], by rw [List.length_drop, hN5]; omega, by unfold maxLen at *; omega, ?_⟩
      rcases h3 with h | ⟨b, off, hp, hM, hlt9, hc⟩
      · exact absurd (congrArg List.length h) (by rw [hN5]; simp)
      · cases hp
        exact .inr ⟨g5, 1, rfl, hM, hlt9, fun i hi => by
          rw [List.length_drop] at hi
          rw [List.getElem_drop]
          have := hc (1 + i) (by omega)
          rwa [Nat.zero_add] at this⟩
    have hd2 : (cap5 = 1) = False := eq_false (by omega)
    have hd3 : (1 : Nat) ≤ l.length + 1 := by omega
    have hN9 := hid hN5
    have H0 := hid hl0
    have HR7 := hid rd7
    clear rd7 hN5 hgt
    go_upto_region 2 with fail
    go_quiet (fail)
    have hd := drewM_below W5 nq
    generalize W5.drewN nq = W6 at *
    replace B5 := B5.below hd
    replace o5 := o5.next hd
    replace rd6 := rd6.below hd
    clear hc0 hc1 hd
    have hc0 := B5.cell 0 _ rfl
    have hc1 := B5.cell 1 _ rfl
    have hf1 := B5.free 1
    have hlt6 := B5.lt
    go_upto_region 4 with fail
    have B7 : Box (W6.setCell ⟨g, 1, none⟩ (.slice (some ⟨g5, 1, none⟩) l.length (cap5 - 1))) g [.int .i64 (n : Int), .slice (some ⟨g5, 1, none⟩) l.length (cap5 - 1)] 28 := B5.set 1 (.slice (some ⟨g5, 1, none⟩) l.length (cap5 - 1))
    have o7 : Only g w (W6.setCell ⟨g, 1, none⟩ (.slice (some ⟨g5, 1, none⟩) l.length (cap5 - 1))) := o5.cell 1 _
    have rd8 : RdM (W6.setCell ⟨g, 1, none⟩ (.slice (some ⟨g5, 1, none⟩) l.length (cap5 - 1))) w.heap.size (.slice (some ⟨g5, 1, none⟩) l.length (cap5 - 1)) ((l ++ [x]).drop 1) := (HR7.out _ rd6).only ((Only.refl g W6).cell 1 _) hlt
    generalize W6.setCell ⟨g, 1, none⟩ (.slice (some ⟨g5, 1, none⟩) l.length (cap5 - 1)) = W8 at *
    have hl9 : ((l ++ [x]).drop 1).length = l.length := by rw [List.length_drop, hN9.out, Nat.add_sub_cancel]
    generalize (l ++ [x]).drop 1 = L at *
    clear hc0 hc1 hf1 rd6 B5 o5 hlt6
    go_wp2_with fail
    refine (refMedian_any g n L _ W8 B7 rd8.ints (by omega)).mono ?_
    rintro e w9 ⟨m, rfl, hm, b9⟩
    replace hm := hm.is (by have := H0.out; omega)
    have B9 := B7.below b9
    have o9 := o7.next b9
    have rd9 := rd8.below b9
    have HM := hid hm
    clear hm B7 o7 rd8 b9
    go_wp2_with fail
    go_ret
    exact ⟨m, _, rfl, by rw [EP.out]; exact HM.out, B9, by rw [EP.out]; exact rd9, o9⟩
  · have hgtI : decide ((n : Int) < (l.length : Int) + 1) = false := decide_eq_false (by omega)
    have hgtN : decide (n < l.length + 1) = false := decide_eq_false hgt
    have EP := hid (show putL n l x = l ++ [x] from if_neg hgt)
    have hl9 : (l ++ [x]).length = l.length + 1 := hN5
    generalize l ++ [x] = L at *
    clear hgt hN5
    go_upto_region 2 with fail
    go_quiet (fail)
    have hd := drewM_below W5 nq
    generalize W5.drewN nq = W8 at *
    have B7 := B5.below hd
    have o7 := o5.next hd
    have rd8 := rd6.below hd
    clear hc0 hc1 hd B5 o5 rd6
    have H0 := hid (show 1 ≤ l.length + 1 by omega)
    go_wp2_with fail
    refine (refMedian_any g n L _ W8 B7 rd8.ints (by omega)).mono ?_
    rintro e w9 ⟨m, rfl, hm, b9⟩
    replace hm := hm.is (by have := H0.out; omega)
    have B9 := B7.below b9
    have o9 := o7.next b9
    have rd9 := rd8.below b9
    have HM := hid hm
    clear hm B7 o7 rd8 b9
    go_wp2_with fail
    go_ret
    exact ⟨m, _, rfl, by rw [EP.out]; exact HM.out, B9, by rw [EP.out]; exact rd9, o9⟩
end Go.Proofs.Ytcccjjghalajoaa
