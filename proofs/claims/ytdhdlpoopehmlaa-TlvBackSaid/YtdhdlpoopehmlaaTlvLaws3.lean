/- The walk of the law TlvFinds (gen_tlvfinds.py). -/
import Derived.Test.YtdhdlpoopehmlaaTlvAwake
import Derived.BigQuiet
namespace Go.Proofs.Ytdhdlpoopehmlaa
open Go.RowKit Go.Proofs
set_option linter.unusedVariables false
set_option linter.unusedSimpArgs false

theorem share3 {α β γ : Type} {P : α → β → Prop} {G : α → β → γ → Prop} {R : Prop} (h1 : (∀ x y z, P x y → G x y z) → R) (h2 : ∀ x y z, P x y → G x y z) : R := h1 h2

/-- 'store' of a TLV as one operation alone. -/
theorem op_store_tlv {op : Oper} {a : Act} {w : World} {K : Act → World → Prop} {Q : Exit → Act → World → Prop} (x y : Operand) (ho : op.op = .store 32 x y)
    (g : Nat) (q : T2) (old : List Value) (t : TypeId) (hx : a.eval x = .pointer (some ⟨g, 0, none⟩)) (hy : a.eval y = tlvV q) (hB : Box w g old t) (hol : old.length = 2)
    (h : K (a.put op.dst undef) (w.setRow g (tL q).toArray)) : op.wp Try.prog a w K Q :=
  wp_store_row _ x y ho g (tL q).toArray hx hy t old.toArray hB (by rw [info_tlv]; rfl) (by simp [hol]) (all_oneCell_toArray (by intro v hv; simp only [List.mem_cons, List.not_mem_nil, or_false] at hv; rcases hv with rfl | rfl <;> rfl)) h

theorem few_len {l : List T2} (h : fewB l = true) : l.length ≤ 20 := by
  unfold fewB at h
  simp only [Bool.and_eq_true, decide_eq_true_eq] at h
  exact h.2

theorem few_at {l : List T2} (h : fewB l = true) (k : Nat) (hk : k < l.length) : (l[k]).2.length ≤ 600 := by
  unfold fewB at h
  simp only [Bool.and_eq_true, List.all_eq_true, decide_eq_true_eq] at h
  exact h.1 _ (List.getElem_mem hk)

theorem findT_any_of (l : List T2) (t : Int) : (findT l t).2 = l.any fun q => q.1 == t := by
  unfold findT
  cases h : l.find? fun q => q.1 == t with
  | none =>
    rw [List.find?_eq_none] at h
    symm
    rw [List.any_eq_false]
    exact h
  | some q =>
    symm
    rw [List.any_eq_true]
    exact ⟨q, List.mem_of_find?_eq_some h, by simpa using List.find?_some h⟩

/-- The first TLV of a type that is there. -/
theorem findT_first (l : List T2) (c : Int) : ∀ (n k : Nat), k = n → ∀ (hk : k < l.length), (l[k]).1 = c → ∃ (j : Nat) (hj : j < l.length), j ≤ k ∧ (∀ m (hm : m < l.length), m < j → (l[m]).1 ≠ c) ∧ (l[j]).1 = c := by
  intro n
  induction n using Nat.strongRecOn with
  | _ n ih =>
    intro k hkn hk he
    by_cases h : ∃ (m : Nat) (hm : m < l.length), m < k ∧ (l[m]).1 = c
    · obtain ⟨m, hm, hmk, hme⟩ := h
      obtain ⟨j, hj, hjm, h1, h2⟩ := ih m (by omega) m rfl hm hme
      exact ⟨j, hj, by omega, h1, h2⟩
    · exact ⟨k, hk, Nat.le_refl _, fun m hm hmk e => h ⟨m, hm, hmk, e⟩, he⟩

theorem findT_none {l : List T2} {t : Int} (h : (findT l t).2 = false) : (findT l t).1 = (0, []) := by
  unfold findT at h ⊢
  split at h
  · cases h
  · rfl

theorem any_snoc (l : List T2) (t : Int) (k : Nat) (hk : k < l.length) : (l.take (k + 1)).any (fun q => q.1 == t) = ((l.take k).any (fun q => q.1 == t) || (l[k]).1 == t) := by
  rw [take_snoc l k hk, List.any_append]
  simp

set_option maxRecDepth 100000 in
set_option maxHeartbeats 8000000 in
theorem tlvFinds_walk (v : Value) (l : List T2) {w : World} (hT : Tlvs w v l) (hl : l.length * 24 ≤ 140737488351232) (typ : Int) (wt : (Lit.int .i64 typ).wf = true) :
    Calls Try.prog 8 #[v, .int .i64 typ] w fun e w' => e = .returned (.bool true) ∧ Below w.heap.size w w' := by
  have hfew := few_any v l w hT (by omega)
  have HT := hid fun (wx : World) (h : Below w.heap.size w wx) => hT.below h
  obtain ⟨p, cap, rfl, -, -, -⟩ := hT
  have HL := hid hl
  clear hl wt
  cases hF : fewB l with
  | false =>
    rw [hF] at hfew
    go_enter Try.func8, Try.ntmps8
    go_wp2_with fail
    refine hfew.mono ?_
    rintro e w1 ⟨rfl, rfl⟩
    go_wp2_with fail
    refine (awake08_any w).mono ?_
    rintro e w1 ⟨rfl, b1⟩
    go_wp2_with fail
    go_ret
    exact ⟨rfl, b1⟩
  | true =>
    rw [hF] at hfew
    have h20 := few_len hF
    clear hF
    go_enter Try.func8, Try.ntmps8
    go_wp2_with fail
    refine hfew.mono ?_
    rintro e w1 ⟨rfl, rfl⟩
    clear hfew
    go_wp2_with fail
    go_loopw [5] (fun i wr => ∃ k : Nat, k ≤ l.length ∧ i = .int .i64 k ∧ Below w.heap.size w wr) (fun i _ => l.length - (intOf i).toNat)
    case atStart => exact ⟨0, Nat.zero_le _, rfl, Below.refl _ _⟩
    case round =>
      obtain ⟨k, hk, rfl, hb⟩ := hrel
      by_cases hlt : k < l.length
      · obtain ⟨p', cap', he, -, -, hat⟩ := HT.out _ hb
        cases he
        obtain ⟨b, off, rfl, hrow⟩ := hat.row (by omega)
        have HR := hid hrow
        obtain ⟨c, s, hq, H1, H2⟩ := hrow.get k hlt
        have HQ := hid hq
        have hks : k + 1 ≤ l.length := hlt
        have hkI : (k : Int) < (l.length : Int) := by omega
        have hkI2 : (0 : Int) ≤ (k : Int) := by omega
        obtain ⟨j0, hj0, hj0k, hmin, he0⟩ := findT_first l c k k rfl hlt (by rw [hq])
        obtain ⟨c0, s0, hq0, J1, J2⟩ := hrow.get j0 hj0
        have hc0 : c0 = c := by rw [hq0] at he0; exact he0
        subst hc0
        have HF := hid (show findT l c0 = ((c0, s0), true) by rw [findT_yes j0 hj0 hmin he0, hq0])
        have HMIN := hid hmin
        have HQ0 := hid hq0
        clear hat hq hrow hmin he0 hq0
        go_upto_region 6 with fail
        apply share3 (γ := Value) (P := fun (g : Nat) (w' : World) => Below wr.heap.size wr w' ∧ Box w' g (tL (c0, s0)) 32)
        case h1 =>
          intro tail
          refine wp_region_held_drew (S := fun w' => Below wr.heap.size wr w') (by kernel_rfl) (Below.drew (Below.refl _ _)) ?_
          intro hHeld
          generalize wr.drew = wd at *
          refine rtake 0 rfl (by rfl) (by kernel_rfl) (by kernel_rfl) (by kernel_rfl) (fun _ _ _ h => h) hHeld (fun wx hwx => by go_simp; try with_reducible rfl) ?_
          try simp only [Act.put, List.setIfInBounds_toArray, List.set_cons_zero, List.set_cons_succ]
          refine rtake 2 rfl (by rfl) (by kernel_rfl) (by kernel_rfl) (by kernel_rfl) (fun _ _ _ h => h) hHeld (fun wx hwx => by go_simp; try with_reducible rfl) ?_
          try simp only [Act.put, List.setIfInBounds_toArray, List.set_cons_zero, List.set_cons_succ]
          refine rtake 3 rfl (by rfl) (by kernel_rfl) (by kernel_rfl) (by kernel_rfl) (fun _ _ _ h => h) hHeld (fun wx hwx => by go_simp; try with_reducible rfl) ?_
          try simp only [Act.put, List.setIfInBounds_toArray, List.set_cons_zero, List.set_cons_succ]
          refine rtake 4 rfl (by rfl) (by kernel_rfl) (by kernel_rfl) (by kernel_rfl) (fun _ _ _ h => h) hHeld (fun wx hwx => by go_simp; try with_reducible rfl) ?_
          try simp only [Act.put, List.setIfInBounds_toArray, List.set_cons_zero, List.set_cons_succ]
          refine rtake 5 rfl (by rfl) (by kernel_rfl) (by kernel_rfl) (by kernel_rfl) (fun _ _ _ h => h) hHeld (fun wx hwx => by go_simp; try with_reducible rfl) ?_
          try simp only [Act.put, List.setIfInBounds_toArray, List.set_cons_zero, List.set_cons_succ]
          refine rtake 6 rfl (by rfl) (by kernel_rfl) (by kernel_rfl) (by kernel_rfl) (fun _ _ _ h => h) hHeld (fun wx hwx => by have h1 := H1.out wx hwx; go_simp; try with_reducible rfl) ?_
          try simp only [Act.put, List.setIfInBounds_toArray, List.set_cons_zero, List.set_cons_succ]
          refine rtwo 1 11 rfl rfl (by kernel_rfl) (by rfl) (by rfl) (fun K hK => ?_) (fun K hK => ?_)
          · skip
            go_simp
            refine (tlvs00_any _ l wd (HT.out _ (bnext hb hHeld)) (by have := HL.out; omega)).mono ?_
            rintro e wa ⟨va, rfl, oa, ba⟩
            have hH := bnext hHeld ba
            refine hK.out _ _ hH ?_
            clear hK K hHeld
            have hHeld := hH
            clear hH
            try simp only [Act.put, List.setIfInBounds_toArray, List.set_cons_zero, List.set_cons_succ]
            refine rtwo 7 11 rfl rfl (by kernel_rfl) (by rfl) (by rfl) (fun K hK => ?_) (fun K hK => ?_)
            · skip
              go_simp
              have hcall := findT_any va l c0 wa oa.tlvs (by have := HL.out; omega)
              rw [HF.out] at hcall
              refine hcall.mono ?_
              clear hcall
              rintro e wb ⟨rfl, bb⟩
              have hH := bnext hHeld bb
              refine hK.out _ _ hH ?_
              clear hK K hHeld
              have hHeld := hH
              clear hH
              try simp only [Act.put, List.setIfInBounds_toArray, List.set_cons_zero, List.set_cons_succ]
              refine rtake 8 rfl (by rfl) (by kernel_rfl) (by kernel_rfl) (by kernel_rfl) (fun _ _ _ h => h) hHeld (fun wx hwx => by go_simp; try with_reducible rfl) ?_
              try simp only [Act.put, List.setIfInBounds_toArray, List.set_cons_zero, List.set_cons_succ]
              refine rtake 9 rfl (by rfl) (by kernel_rfl) (by kernel_rfl) (by kernel_rfl) (fun _ _ _ h => h) hHeld (fun wx hwx => by go_simp; try with_reducible rfl) ?_
              try simp only [Act.put, List.setIfInBounds_toArray, List.set_cons_zero, List.set_cons_succ]
              refine rtake 10 rfl (by rfl) (by kernel_rfl) (by kernel_rfl) (by kernel_rfl) (fun _ _ _ h => h) hHeld (fun wx hwx => by go_simp; try with_reducible rfl) ?_
              try simp only [Act.put, List.setIfInBounds_toArray, List.set_cons_zero, List.set_cons_succ]
              refine rcall 11 rfl (by kernel_rfl) (by rfl) (fun K hK => ?_)
              have hna := bnew wb (Obj.cells #[.int .i64 0, .string ⟨#[]⟩] 32)
              have hA := Box.new wb [.int .i64 0, .string ⟨#[]⟩] 32
              have hgX := hHeld.size
              go_simp
              change K _ (wb.alloc (Obj.cells #[.int .i64 0, .string ⟨#[]⟩] 32))
              have hH := bnext hHeld hna
              refine hK.out _ _ hH ?_
              clear hK K hHeld hna
              have hHeld := hH
              clear hH
              generalize wb.alloc (Obj.cells #[.int .i64 0, .string ⟨#[]⟩] 32) = WA at *
              generalize wb.heap.size = g at *
              try simp only [Act.put, List.setIfInBounds_toArray, List.set_cons_zero, List.set_cons_succ]
              refine rcall 12 rfl (by kernel_rfl) (by rfl) (fun K hK => ?_)
              refine op_store_tlv (op := ⟨none, .store _ _ _, _, _, _, _⟩) _ _ rfl g (c0, s0) (tL (0, [])) _ rfl rfl hA rfl ?_
              have hH := below_setRow hHeld hgX (tL (c0, s0)).toArray
              have hB := hA.rowT (tL (c0, s0))
              refine hK.out _ _ hH ?_
              clear hK K hHeld
              have hHeld := hH
              clear hH
              generalize World.setRow _ _ _ = WS at *
              try simp only [Act.put, List.setIfInBounds_toArray, List.set_cons_zero, List.set_cons_succ]
              refine rtake 13 rfl (by rfl) (by kernel_rfl) (by kernel_rfl) (by kernel_rfl) (fun _ _ _ h => h) hHeld (fun wx hwx => by go_simp; try with_reducible rfl) ?_
              try simp only [Act.put, List.setIfInBounds_toArray, List.set_cons_zero, List.set_cons_succ]
              refine wpAnyH_done (by kernel_rfl) ?_ _
              exact tail g WS va ⟨hHeld, hB⟩
            · skip
              have hna := bnew wa (Obj.cells #[.int .i64 0, .string ⟨#[]⟩] 32)
              have hA := Box.new wa [.int .i64 0, .string ⟨#[]⟩] 32
              have hgX := hHeld.size
              go_simp
              change K _ (wa.alloc (Obj.cells #[.int .i64 0, .string ⟨#[]⟩] 32))
              have hH := bnext hHeld hna
              replace oa := oa.below hna
              refine hK.out _ _ hH ?_
              clear hK K hHeld hna
              have hHeld := hH
              clear hH
              generalize wa.alloc (Obj.cells #[.int .i64 0, .string ⟨#[]⟩] 32) = WA at *
              generalize wa.heap.size = g at *
              try simp only [Act.put, List.setIfInBounds_toArray, List.set_cons_zero, List.set_cons_succ]
              refine rcall 7 rfl (by kernel_rfl) (by rfl) (fun K hK => ?_)
              go_simp
              have hcall := findT_any va l c0 WA oa.tlvs (by have := HL.out; omega)
              rw [HF.out] at hcall
              refine hcall.mono ?_
              clear hcall
              rintro e wb ⟨rfl, bb⟩
              have hH := bnext hHeld bb
              replace hA := hA.below bb
              refine hK.out _ _ hH ?_
              clear hK K hHeld
              have hHeld := hH
              clear hH
              try simp only [Act.put, List.setIfInBounds_toArray, List.set_cons_zero, List.set_cons_succ]
              refine rtake 8 rfl (by rfl) (by kernel_rfl) (by kernel_rfl) (by kernel_rfl) (fun _ _ _ h => h) hHeld (fun wx hwx => by go_simp; try with_reducible rfl) ?_
              try simp only [Act.put, List.setIfInBounds_toArray, List.set_cons_zero, List.set_cons_succ]
              refine rtake 9 rfl (by rfl) (by kernel_rfl) (by kernel_rfl) (by kernel_rfl) (fun _ _ _ h => h) hHeld (fun wx hwx => by go_simp; try with_reducible rfl) ?_
              try simp only [Act.put, List.setIfInBounds_toArray, List.set_cons_zero, List.set_cons_succ]
              refine rtake 10 rfl (by rfl) (by kernel_rfl) (by kernel_rfl) (by kernel_rfl) (fun _ _ _ h => h) hHeld (fun wx hwx => by go_simp; try with_reducible rfl) ?_
              try simp only [Act.put, List.setIfInBounds_toArray, List.set_cons_zero, List.set_cons_succ]
              refine rcall 12 rfl (by kernel_rfl) (by rfl) (fun K hK => ?_)
              refine op_store_tlv (op := ⟨none, .store _ _ _, _, _, _, _⟩) _ _ rfl g (c0, s0) (tL (0, [])) _ rfl rfl hA rfl ?_
              have hH := below_setRow hHeld hgX (tL (c0, s0)).toArray
              have hB := hA.rowT (tL (c0, s0))
              refine hK.out _ _ hH ?_
              clear hK K hHeld
              have hHeld := hH
              clear hH
              generalize World.setRow _ _ _ = WS at *
              try simp only [Act.put, List.setIfInBounds_toArray, List.set_cons_zero, List.set_cons_succ]
              refine rtake 13 rfl (by rfl) (by kernel_rfl) (by kernel_rfl) (by kernel_rfl) (fun _ _ _ h => h) hHeld (fun wx hwx => by go_simp; try with_reducible rfl) ?_
              try simp only [Act.put, List.setIfInBounds_toArray, List.set_cons_zero, List.set_cons_succ]
              refine wpAnyH_done (by kernel_rfl) ?_ _
              exact tail g WS va ⟨hHeld, hB⟩
          · skip
            have hna := bnew wd (Obj.cells #[.int .i64 0, .string ⟨#[]⟩] 32)
            have hA := Box.new wd [.int .i64 0, .string ⟨#[]⟩] 32
            have hgX := hHeld.size
            go_simp
            change K _ (wd.alloc (Obj.cells #[.int .i64 0, .string ⟨#[]⟩] 32))
            have hH := bnext hHeld hna
            refine hK.out _ _ hH ?_
            clear hK K hHeld hna
            have hHeld := hH
            clear hH
            generalize wd.alloc (Obj.cells #[.int .i64 0, .string ⟨#[]⟩] 32) = WA at *
            generalize wd.heap.size = g at *
            try simp only [Act.put, List.setIfInBounds_toArray, List.set_cons_zero, List.set_cons_succ]
            refine rcall 1 rfl (by kernel_rfl) (by rfl) (fun K hK => ?_)
            go_simp
            refine (tlvs00_any _ l WA (HT.out _ (bnext hb hHeld)) (by have := HL.out; omega)).mono ?_
            rintro e wa ⟨va, rfl, oa, ba⟩
            have hH := bnext hHeld ba
            replace hA := hA.below ba
            refine hK.out _ _ hH ?_
            clear hK K hHeld
            have hHeld := hH
            clear hH
            try simp only [Act.put, List.setIfInBounds_toArray, List.set_cons_zero, List.set_cons_succ]
            refine rcall 7 rfl (by kernel_rfl) (by rfl) (fun K hK => ?_)
            go_simp
            have hcall := findT_any va l c0 wa oa.tlvs (by have := HL.out; omega)
            rw [HF.out] at hcall
            refine hcall.mono ?_
            clear hcall
            rintro e wb ⟨rfl, bb⟩
            have hH := bnext hHeld bb
            replace hA := hA.below bb
            refine hK.out _ _ hH ?_
            clear hK K hHeld
            have hHeld := hH
            clear hH
            try simp only [Act.put, List.setIfInBounds_toArray, List.set_cons_zero, List.set_cons_succ]
            refine rtake 8 rfl (by rfl) (by kernel_rfl) (by kernel_rfl) (by kernel_rfl) (fun _ _ _ h => h) hHeld (fun wx hwx => by go_simp; try with_reducible rfl) ?_
            try simp only [Act.put, List.setIfInBounds_toArray, List.set_cons_zero, List.set_cons_succ]
            refine rtake 9 rfl (by rfl) (by kernel_rfl) (by kernel_rfl) (by kernel_rfl) (fun _ _ _ h => h) hHeld (fun wx hwx => by go_simp; try with_reducible rfl) ?_
            try simp only [Act.put, List.setIfInBounds_toArray, List.set_cons_zero, List.set_cons_succ]
            refine rtake 10 rfl (by rfl) (by kernel_rfl) (by kernel_rfl) (by kernel_rfl) (fun _ _ _ h => h) hHeld (fun wx hwx => by go_simp; try with_reducible rfl) ?_
            try simp only [Act.put, List.setIfInBounds_toArray, List.set_cons_zero, List.set_cons_succ]
            refine rcall 12 rfl (by kernel_rfl) (by rfl) (fun K hK => ?_)
            refine op_store_tlv (op := ⟨none, .store _ _ _, _, _, _, _⟩) _ _ rfl g (c0, s0) (tL (0, [])) _ rfl rfl hA rfl ?_
            have hH := below_setRow hHeld hgX (tL (c0, s0)).toArray
            have hB := hA.rowT (tL (c0, s0))
            refine hK.out _ _ hH ?_
            clear hK K hHeld
            have hHeld := hH
            clear hH
            generalize World.setRow _ _ _ = WS at *
            try simp only [Act.put, List.setIfInBounds_toArray, List.set_cons_zero, List.set_cons_succ]
            refine rtake 13 rfl (by rfl) (by kernel_rfl) (by kernel_rfl) (by kernel_rfl) (fun _ _ _ h => h) hHeld (fun wx hwx => by go_simp; try with_reducible rfl) ?_
            try simp only [Act.put, List.setIfInBounds_toArray, List.set_cons_zero, List.set_cons_succ]
            refine wpAnyH_done (by kernel_rfl) ?_ _
            exact tail g WS va ⟨hHeld, hB⟩
        case h2 =>
          rintro g W6 va ⟨b6, B6⟩
          have hE := equal_tlv (c0, s0) (c0, s0)
          simp only [beq_self_eq_true] at hE
          have hIc : (c0 == c0) = true := beq_self_eq_true _
          go_wp2_with fail
          go_loopw [8] (fun i wq => ∃ j : Nat, j ≤ j0 ∧ i = .int .i64 j ∧ Below W6.heap.size W6 wq) (fun i _ => j0 - (intOf i).toNat)
          case atStart => exact ⟨0, Nat.zero_le _, rfl, Below.refl _ _⟩
          case round =>
            obtain ⟨j, hj, rfl, bq⟩ := hrel
            have hjl : j < l.length := by omega
            have hjI : (j : Int) < (l.length : Int) := by omega
            have hjI2 : (0 : Int) ≤ (j : Int) := by omega
            have k1 := H1.out _ (bnext b6 bq)
            by_cases hjj : j = j0
            · subst hjj
              have d1 := J1.out _ (bnext b6 bq)
              have d2 := J2.out _ (bnext b6 bq)
              have B7 := B6.below bq
              have y := B7.cell 0 _ rfl
              have z := B7.cell 1 _ rfl
              go_upto_region 8 with fail
              go_quiet (fail)
              go_upto_region 10 with fail
              go_quiet (fail)
              go_wp2_with fail
              go_roundw
              case rel => exact ⟨k + 1, hks, by go_num, bnext hb (bnext b6 (bq.trans ⟨rfl, rfl, rfl, Nat.le_refl _, fun _ _ => rfl⟩))⟩
              case measure => simp [intOf]; omega
            · obtain ⟨cj, sj, hqj, K1, K2⟩ := HR.out.get j hjl
              have hne := HMIN.out j hjl (by omega)
              rw [hqj] at hne
              have hI : (cj == c0) = false := beq_false_of_ne hne
              have d1 := K1.out _ (bnext b6 bq)
              clear hqj hne
              go_upto_region 8 with fail
              go_quiet (fail)
              go_wp2_with fail
              go_roundw
              case rel => exact ⟨j + 1, by omega, by go_num, bq.trans ⟨rfl, rfl, rfl, Nat.le_refl _, fun _ _ => rfl⟩⟩
              case measure => simp [intOf]; omega
      · have hke : k = l.length := by omega
        subst hke
        go_wp2_with fail
        go_loopw [9, 10] (fun a i wq => ∃ (k : Nat) (x : Bool), k ≤ l.length ∧ a = .bool x ∧ i = .int .i64 k ∧ Hid (x = (l.take k).any fun q => q.1 == typ) ∧ Below w.heap.size w wq) (fun _ i _ => l.length - (intOf i).toNat)
        case atStart => exact ⟨0, false, Nat.zero_le _, rfl, rfl, hid (by simp), hb⟩
        case round =>
          obtain ⟨k, x, hk, rfl, rfl, hx, hb2⟩ := hrel
          by_cases hlt2 : k < l.length
          · obtain ⟨p', cap', he, -, -, hat⟩ := HT.out _ hb2
            cases he
            obtain ⟨b, off, rfl, hrow⟩ := hat.row (by omega)
            obtain ⟨c, s, hq, H1, H2⟩ := hrow.get k hlt2
            have hs := any_snoc l typ k hlt2
            rw [hq, ← hx.out] at hs
            have HS := hid hs
            have c1 := H1.out _ (Below.refl _ _)
            have hks : k + 1 ≤ l.length := hlt2
            have hkI : (k : Int) < (l.length : Int) := by omega
            have hkI2 : (0 : Int) ≤ (k : Int) := by omega
            clear hat hq hrow hs hx
            cases x with
            | true =>
              go_wp2_with fail
              go_roundw
              case rel => exact ⟨k + 1, true, hks, rfl, by go_num, hid (by rw [HS.out, Bool.true_or]), hb2⟩
              case measure => simp [intOf]; omega
            | false =>
              go_wp2_with fail
              go_roundw
              case rel => exact ⟨k + 1, c == typ, hks, rfl, by go_num, hid (by rw [HS.out, Bool.false_or]), hb2⟩
              case measure => simp [intOf]; omega
          · have hke : k = l.length := by omega
            subst hke
            rw [List.take_length, ← findT_any_of] at hx
            have hcall := findT_any _ l typ wr (HT.out _ hb2) (by have := HL.out; omega)
            have HN := hid (@findT_none l typ)
            generalize findT l typ = F at *
            obtain ⟨⟨fc, fs⟩, fb⟩ := F
            obtain rfl : x = fb := hx.out
            go_wp2_with fail
            refine hcall.mono ?_
            rintro e w7 ⟨rfl, b7⟩
            replace hb2 := bnext hb2 b7
            clear hcall
            have N := Box.new w7 [.int .i64 0, .string ⟨#[]⟩] 32
            have nb := bnew w7 (Obj.cells #[.int .i64 0, .string ⟨#[]⟩] 32)
            go_upto_region 18 with (guard_target =~ wpList _ _ _ (⟨none, _, _, _, _, _⟩ :: _) _ _; refine wpList_store_tlv (op := ⟨none, .store _ _ _, _, _, _, _⟩) (by rfl) _ _ (by rfl) w7.heap.size (fc, fs) (tL (0, [])) _ (by rfl) (by rfl) N rfl ?_; have B := N.rowT (tL (fc, fs)); replace nb := below_setRow nb (Nat.le_refl _) (tL (fc, fs)).toArray; generalize World.setRow _ _ _ = W at *; generalize hg : w7.heap.size = g at *)
            have nc : Below w7.heap.size w7 W := by rw [hg]; exact nb
            replace hb2 := bnext hb2 nc
            have y := B.cell 0 _ rfl
            have z := B.cell 1 _ rfl
            clear N nb nc
            cases x with
            | true =>
              go_wp2_with fail
              refine (awake08_any W).mono ?_
              rintro e w8 ⟨rfl, b8⟩
              go_wp2_with fail
              go_ret
              exact ⟨rfl, bnext hb2 b8⟩
            | false =>
              have hfz := HN.out rfl
              cases hfz
              have hE := equal_tlv (0, []) (0, [])
              simp only [beq_self_eq_true] at hE
              go_wp2_with fail
              refine (awake08_any W).mono ?_
              rintro e w8 ⟨rfl, b8⟩
              go_wp2_with fail
              go_ret
              exact ⟨rfl, bnext hb2 b8⟩
end Go.Proofs.Ytdhdlpoopehmlaa
