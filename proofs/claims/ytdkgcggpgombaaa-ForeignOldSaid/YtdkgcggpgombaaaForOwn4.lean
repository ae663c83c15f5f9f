/- The program's own Records, Qualified, Best, Clear (gen_forown.py). -/
import Derived.Test.YtdkgcggpgombaaaForOwn3
import Derived.Test.YtdkgcggpgombaaaVecOwn2
import Derived.BigQuiet
namespace Go.Proofs.Ytdkgcggpgombaaa
open Go.RowKit Go.Proofs
set_option maxRecDepth 50000
set_option linter.unusedVariables false
set_option linter.unusedSimpArgs false

theorem RowK.Reads.range {α : Type} {K : RowK α} {w : World} {b o n cap : Nat} {l : List α} (h : K.Reads w (.slice (some ⟨b, o, none⟩) n cap) l) (i : Nat) (hi : i < l.length) : w.rangeAt b (o + i * K.n) (K.enc l[i]) := by
  obtain ⟨p, cap', he, -, -, hat⟩ := h
  cases he
  obtain ⟨b', o', hb, -, hc⟩ := hat.pos (by omega)
  cases hb
  intro j v hj
  have hjn : j < K.n := by have := (List.getElem?_eq_some_iff.1 hj).1; rwa [K.len] at this
  have := RowK.At.cell hc i j hi hjn v hj
  rw [Nat.add_assoc]
  exact this
theorem RowK.one_new {α : Type} (K : RowK α) (w : World) (a : α) (t : TypeId) : K.Reads (w.alloc (Obj.cells (K.enc a).toArray t)) (.slice (some ⟨w.heap.size, 0, none⟩) 1 1) [a] := by
  have hB := Box.new w (K.enc a) t
  exact ⟨some ⟨w.heap.size, 0, none⟩, 1, rfl, Nat.le_refl _, by unfold maxLen; omega, .inr ⟨w.heap.size, 0, rfl, hB.lt, fun j v hj => by rw [Nat.zero_add]; exact hB.cell j v (by simpa [RowK.cells] using hj)⟩⟩
theorem wpList_lit {ops : Array Oper} {rest : List Oper} {op : Oper} {a : Act} {w : World} {Q : Exit → Act → World → Prop} (hgd : op.guard = none) (ty : TypeId) (n : Nat) (parts : Array (Nat × Operand)) (ho : op.op = .buildSlice ty n parts)
    (pv : Array (Nat × Value)) (hp : (parts.map fun (i, x) => (i, a.eval x)) = pv) (v : Value) (w' : World) (hr : (Instr.buildSlice ty n pv).run Try.prog w = .ok v w')
    (h : wpList Try.prog ops Q rest (a.put op.dst v) w') : wpList Try.prog ops Q (op :: rest) a w :=
  wpList_plain hgd fun K hK => by
    unfold Oper.wp execOp
    simp only [ho]
    rw [hp]
    simp only [Sem.run_bind, hr, Result.andThen_ok, Sem.run_pure]
    exact hK _ _ h
theorem lit_rec (r : Rc) (w : World) : (Instr.buildSlice 34 1 #[(0, .agg (rcL r).toArray)]).run Try.prog w = .ok (.slice (some ⟨w.heap.size, 0, none⟩) 1 1) (w.alloc (Obj.cells (rcL r).toArray 46)) := by kernel_rfl
theorem lit_vec (r : Vc) (w : World) : (Instr.buildSlice 62 1 #[(0, .agg (vcL r).toArray)]).run Try.prog w = .ok (.slice (some ⟨w.heap.size, 0, none⟩) 1 1) (w.alloc (Obj.cells (vcL r).toArray 42)) := by kernel_rfl
theorem filter_take {α : Type} (f : α → Bool) (l : List α) (k : Nat) (h : k < l.length) (r : α) (hr : l[k] = r) : (l.take (k + 1)).filter f = (l.take k).filter f ++ (if f r then [r] else []) := by
  subst hr
  rw [take_snoc l k h, List.filter_append]
  congr 1
  by_cases hf : f l[k] = true
  · rw [if_pos hf, List.filter_cons_of_pos hf]
    rfl
  · rw [if_neg hf, List.filter_cons_of_neg hf]
    rfl
theorem eqr_nil (c : Nat) (w : World) : (binOp .eql 34 (.slice none 0 c) (.slice none 0 0)).run Try.prog w = .ok (.bool true) w := by kernel_rfl
theorem eqr_some (a : Addr) (n c : Nat) (w : World) : (binOp .eql 34 (.slice (some a) n c) (.slice none 0 0)).run Try.prog w = .ok (.bool false) w := by kernel_rfl

set_option maxRecDepth 100000 in
set_option maxHeartbeats 8000000 in
theorem cloneR_any (v : Value) (l : List Rc) (w : World) (hR : recK.Reads w v l) (hl : l.length ≤ 100) :
    Calls Try.prog 23 #[v] w fun e w' => ∃ v, e = .returned v ∧ recK.Reads w' v l ∧ Below w.heap.size w w' := by
  obtain ⟨p, cap, rfl, hcap, hmax, hat⟩ := id hR
  cases p with
  | none =>
    obtain rfl : l = [] := by
      rcases hat with h | ⟨b, off, h, _⟩
      · exact h
      · cases h
    have hq := eqr_nil cap
    clear hat hcap hmax hR
    go_enter Try.func23, Try.ntmps23
    go_wp2_with fail
    go_ret
    exact ⟨_, rfl, RowK.Reads.nil recK _, Below.refl _ _⟩
  | some a =>
    have hq := eqr_some a l.length cap
    have z := bnew w (Obj.cells #[] 46)
    have hlen : l.length * 136 ≤ 140737488355328 := by omega
    have hown : recK.Own 46 (w.alloc (Obj.cells #[] 46)) w.heap.size (.slice (some ⟨w.heap.size, 0, none⟩) 0 0) [] := ⟨by rfl, .inr ⟨w.heap.size, 0, #[], rfl, Nat.le_refl _, heap_alloc_new w _, Nat.le_refl _, Nat.zero_le _, rfl, rfl⟩⟩
    have hR2 := hR.below z
    have hbz := z.size
    clear hat hcap hmax
    go_enter Try.func23, Try.ntmps23
    go_wp2_with (guard_target =~ wpList _ _ _ (⟨some 7, _, _, _, _, _⟩ :: _) _ _; refine recK.wpList_append Try.underlying34 rec_info rfl (o := ⟨some 7, _, _, _, _, _⟩) rfl _ _ rfl rfl w.heap.size _ _ [] l rfl rfl hown hR2 (by simp only [List.length_nil]; omega) (by simp only [List.length_nil]; omega) hbz ?_; intro v' w' own' bel'; rw [List.nil_append] at own')
    go_ret
    exact ⟨v', rfl, own'.reads, z.trans bel'⟩

set_option maxRecDepth 100000 in
set_option maxHeartbeats 8000000 in
theorem ownRecF : CRecF TabR := by
  intro g t w FA
  obtain ⟨rs, h5, hn, hB, ht, hw, hin⟩ := tab_open FA
  obtain ⟨own, port, win, l⟩ := t
  replace hn : l.length ≤ 5 := hn
  replace hB : Box w g (tabL own port win rs l.length) 55 := hB
  replace ht : rs.take l.length = l := ht
  replace hw : 1 ≤ win ∧ win ≤ 1048576 := hw
  replace hin : ∀ r ∈ l, RcIn r := hin
  have hgl := hB.lt
  have t88 := hB.cell 88 _ (tab_count h5)
  have hR0 : ∀ wx, Below w.heap.size w wx → recK.Reads wx (.slice (some ⟨g, 3, none⟩) l.length 5) l := fun wx hx =>
    ⟨_, 5, rfl, hn, by unfold maxLen; omega, .inr ⟨g, 3, rfl, Nat.lt_of_lt_of_le hgl hx.size, fun j v hj => by
      rw [hx.cell (p := ⟨g, 3 + j, none⟩) hgl]
      have hjl : j < l.length * 17 := by
        have := (List.getElem?_eq_some_iff.1 hj).1
        rwa [recK.cells_length] at this
      refine hB.cell (3 + j) v ?_
      rw [tab_at h5 j (by omega)]
      rw [← ht, ← recK.cells_take, List.getElem?_take_of_lt (show j < l.length * recK.n from hjl)] at hj
      exact hj⟩⟩
  have hRR := hid hR0
  have hn5 : (l.length : Int) ≤ 5 := by omega
  have hn0 : (0 : Int) ≤ (l.length : Int) := by omega
  have HIN := hid hin
  have HW := hid hw
  have HB := hid hB
  have HN := hid hn
  have hgl2 := hid hgl
  clear FA hin hw ht hR0 h5 hn hB hgl
  go_enter Try.func12, Try.ntmps12
  go_upto_region 1 with fail
  refine wp_region_held_drew (S := fun w' => w'.cell? ⟨g, 88, none⟩ = some (.int .i64 (l.length : Int))) (by kernel_rfl) (by rw [(Below.drew (Below.refl w.heap.size w)).cell (p := ⟨g, 88, none⟩) hgl2.out]; exact t88) ?_
  intro hS
  have hb := Below.drew (Below.refl w.heap.size w)
  generalize w.drew = WD at *
  refine rtake 0 rfl (by rfl) (by kernel_rfl) (by kernel_rfl) (by kernel_rfl) (fun _ _ _ h => h) hS (fun wx hwx => by go_simp; try with_reducible rfl) ?_
  try simp only [Act.put, List.setIfInBounds_toArray, List.set_cons_zero, List.set_cons_succ]
  refine rtake 1 rfl (by rfl) (by kernel_rfl) (by kernel_rfl) (by kernel_rfl) (fun _ _ _ h => h) hS (fun wx hwx => by go_simp; try with_reducible rfl) ?_
  try simp only [Act.put, List.setIfInBounds_toArray, List.set_cons_zero, List.set_cons_succ]
  refine rtake 2 rfl (by rfl) (by kernel_rfl) (by kernel_rfl) (by kernel_rfl) (fun _ _ _ h => h) hS (fun wx hwx => by go_simp; try with_reducible rfl) ?_
  try simp only [Act.put, List.setIfInBounds_toArray, List.set_cons_zero, List.set_cons_succ]
  refine rtake 3 rfl (by rfl) (by kernel_rfl) (by kernel_rfl) (by kernel_rfl) (fun _ _ _ h => h) hS (fun wx hwx => by go_simp; try with_reducible rfl) ?_
  try simp only [Act.put, List.setIfInBounds_toArray, List.set_cons_zero, List.set_cons_succ]
  refine rtake 4 rfl (by rfl) (by kernel_rfl) (by kernel_rfl) (by kernel_rfl) (fun _ _ _ h => h) hS (fun wx hwx => by go_simp; try with_reducible rfl) ?_
  try simp only [Act.put, List.setIfInBounds_toArray, List.set_cons_zero, List.set_cons_succ]
  refine rtake 5 rfl (by rfl) (by kernel_rfl) (by kernel_rfl) (by kernel_rfl) (fun _ _ _ h => h) hS (fun wx hwx => by go_simp; try with_reducible rfl) ?_
  try simp only [Act.put, List.setIfInBounds_toArray, List.set_cons_zero, List.set_cons_succ]
  refine rtake 6 rfl (by rfl) (by kernel_rfl) (by kernel_rfl) (by kernel_rfl) (fun _ _ _ h => h) hS (fun wx hwx => by go_simp; try with_reducible rfl) ?_
  try simp only [Act.put, List.setIfInBounds_toArray, List.set_cons_zero, List.set_cons_succ]
  refine rtake 7 rfl (by rfl) (by kernel_rfl) (by kernel_rfl) (by kernel_rfl) (fun _ _ _ h => h) hS (fun wx hwx => by go_simp; try with_reducible rfl) ?_
  try simp only [Act.put, List.setIfInBounds_toArray, List.set_cons_zero, List.set_cons_succ]
  refine rcall 8 rfl (by kernel_rfl) (by rfl) (fun K' hK => ?_)
  go_simp
  refine (cloneR_any _ l _ (hRR.out _ hb) (by have := HN.out; omega)).mono ?_
  rintro e wq ⟨v, rfl, hv, bq⟩
  refine hK.out _ _ (by rw [bq.cell (p := ⟨g, 88, none⟩) (Nat.lt_of_lt_of_le hgl2.out hb.size)]; exact hS) ?_
  clear hK K' hS
  try simp only [Act.put, List.setIfInBounds_toArray, List.set_cons_zero, List.set_cons_succ]
  replace hb := bnext hb bq
  have hS : wq.cell? ⟨g, 88, none⟩ = some (.int .i64 (l.length : Int)) := by rw [hb.cell (p := ⟨g, 88, none⟩) hgl2.out]; exact t88
  refine rtake 9 rfl (by rfl) (by kernel_rfl) (by kernel_rfl) (by kernel_rfl) (fun _ _ _ h => h) hS (fun wx hwx => by go_simp; try with_reducible rfl) ?_
  try simp only [Act.put, List.setIfInBounds_toArray, List.set_cons_zero, List.set_cons_succ]
  refine wpAnyH_done (by kernel_rfl) ?_ _
  go_wp2_with fail
  go_ret
  exact ⟨v, rfl, hv, hb⟩

theorem wpList_store_none {ops : Array Oper} {rest : List Oper} {op : Oper} {a : Act} {w : World} {Q : Exit → Act → World → Prop} {own port win : Int} {rs : List Rc} {n : Nat} (hgd : op.guard = none) (x y : Operand) (ho : op.op = .store 53 x y)
    (g : Nat) (hx : a.eval x = .pointer (some ⟨g, 3, none⟩)) (hy : a.eval y = .agg (recK.cells [zeroR, zeroR, zeroR, zeroR, zeroR]).toArray) (hB : Box w g (tabL own port win rs n) 55) (h5 : rs.length = 5)
    (h : ∀ W, Box W g (tabL own port win [zeroR, zeroR, zeroR, zeroR, zeroR] n) 55 → Only g w W → wpList Try.prog ops Q rest (a.put op.dst undef) W) : wpList Try.prog ops Q (op :: rest) a w := by
  have hB1 : Box w g (tabL own port win ([] ++ rs ++ []) n) 55 := by simpa using hB
  have hB2 := Box.recs [] [zeroR, zeroR, zeroR, zeroR, zeroR] rs [] h5.symm hB1
  have e1 : (recK.cells [zeroR, zeroR, zeroR, zeroR, zeroR]).length = 85 := by rw [recK.cells_length]; rfl
  refine wpList_store_mid hgd _ x y ho g 3 (recK.cells [zeroR, zeroR, zeroR, zeroR, zeroR]).toArray hx hy (hB.there 3 _ (by rw [tabL_length h5, List.size_toArray, e1]; decide)) (by rw [List.size_toArray, e1]; kernel_rfl) (all_oneCell_toArray (recK.cells_one _)) ?_
  exact h _ (by simpa using hB2) ((Only.refl g w).cells _ _)

set_option maxRecDepth 100000 in
set_option maxHeartbeats 8000000 in
theorem ownClearF : CClearF TabR := by
  intro g t w FA
  obtain ⟨rs, h5, hn, hB, ht, hw, hin⟩ := tab_open FA
  obtain ⟨own, port, win, l⟩ := t
  have hw2 := hid hw
  clear FA hw
  go_enter Try.func15, Try.ntmps15
  go_wp2_with (first | (guard_target =~ wpList _ _ _ (⟨some 3, _, _, _, _, _⟩ :: _) _ _; refine wpList_build_any (op := ⟨some 3, .build _ _, _, _, _, _⟩) (by rfl) _ _ (by rfl) _ (by rfl) (recK.cells [zeroR, zeroR, zeroR, zeroR, zeroR]).toArray (by kernel_rfl) ?_) | (guard_target =~ wpList _ _ _ (⟨none, .store 53 _ _, _, _, _, _⟩ :: _) _ _; refine wpList_store_none (op := ⟨none, .store _ _ _, _, _, _, _⟩) (by rfl) _ _ (by rfl) g (by rfl) (by rfl) hB h5 ?_; intro W5 hB5 ho5; have f88 := hB5.free 88; have t88 := hB5.cell 88 _ (tab_count rfl)))
  have hB3 := hB5.set 88 (.int .i64 ((0 : Nat) : Int))
  rw [tab_set rfl] at hB3
  have ho := ho5.cell 88 (.int .i64 ((0 : Nat) : Int))
  go_end0
  exact ⟨rfl, tab_shut (t := ⟨own, port, win, []⟩) rfl (Nat.zero_le _) hB3 rfl hw2.out (by simp), ho⟩

set_option maxRecDepth 100000 in
set_option maxHeartbeats 8000000 in
theorem ownQualF : CQualF TabR := by
  intro g t now w FA
  obtain ⟨rs, h5, hn, hB, ht, hw, hin⟩ := tab_open FA
  obtain ⟨own, port, win, l⟩ := t
  replace hn : l.length ≤ 5 := hn
  replace hB : Box w g (tabL own port win rs l.length) 55 := hB
  replace ht : rs.take l.length = l := ht
  replace hw : 1 ≤ win ∧ win ≤ 1048576 := hw
  replace hin : ∀ r ∈ l, RcIn r := hin
  have hgl := hB.lt
  have t88 := hB.cell 88 _ (tab_count h5)
  have hR0 : ∀ wx, Below w.heap.size w wx → recK.Reads wx (.slice (some ⟨g, 3, none⟩) l.length 5) l := fun wx hx =>
    ⟨_, 5, rfl, hn, by unfold maxLen; omega, .inr ⟨g, 3, rfl, Nat.lt_of_lt_of_le hgl hx.size, fun j v hj => by
      rw [hx.cell (p := ⟨g, 3 + j, none⟩) hgl]
      have hjl : j < l.length * 17 := by
        have := (List.getElem?_eq_some_iff.1 hj).1
        rwa [recK.cells_length] at this
      refine hB.cell (3 + j) v ?_
      rw [tab_at h5 j (by omega)]
      rw [← ht, ← recK.cells_take, List.getElem?_take_of_lt (show j < l.length * recK.n from hjl)] at hj
      exact hj⟩⟩
  have hRR := hid hR0
  have hn5 : (l.length : Int) ≤ 5 := by omega
  have hn0 : (0 : Int) ≤ (l.length : Int) := by omega
  have HIN := hid hin
  have HW := hid hw
  have HB := hid hB
  have HN := hid hn
  have hgl2 := hid hgl
  clear FA hin hw ht hR0 h5 hn hB hgl
  obtain ⟨f, hf⟩ : ∃ f : Rc → Bool, f = fun r => withinB win r.fi now := ⟨_, rfl⟩
  have hQ : qualL ⟨own, port, win, l⟩ now = l.filter f := by rw [hf]; rfl
  have HF := hid fun (r : Rc) => (show (r.fi = -1 → f r = false) ∧ (0 ≤ r.fi → decide (now < r.fi + win) = f r) from ⟨fun h => by rw [hf]; exact decide_eq_false (by omega), fun h => by rw [hf]; exact (within_of h HW.out.1).symm⟩)
  rw [hQ]
  clear hQ hf
  have hown := RowK.Own.nil recK 46 w w.heap.size
  go_enter Try.func10, Try.ntmps10
  go_upto_region 2 with fail
  go_quiet (fail)
  have hd := drewN_below w nq
  generalize w.drewN nq = W at *
  replace hown := hown.below hd
  clear t88
  go_wp2_with fail
  go_loopw [5, 17] (fun s i wr => ∃ k : Nat, k ≤ l.length ∧ i = .int .i64 k ∧ recK.Own 46 wr w.heap.size s ((l.take k).filter f) ∧ Below w.heap.size w wr) (fun _ i _ => l.length - (intOf i).toNat)
  case atStart => exact ⟨0, Nat.zero_le _, rfl, by simpa using hown, hd⟩
  case round =>
    obtain ⟨k, hk, rfl, hown, hb⟩ := hrel
    by_cases hlt : k < l.length
    · have hkI : (k : Int) < (l.length : Int) := by omega
      have hRg : wr.rangeAt g (3 + k * 17) (rcL l[k]) := (hRR.out _ hb).range k hlt
      have hin := HIN.out _ (List.getElem_mem hlt)
      obtain ⟨r, hr⟩ : ∃ r, l[k] = r := ⟨_, rfl⟩
      have hsn := hid (filter_take f l k hlt r hr)
      have hml : ((l.take k).filter f).length ≤ 5 := by
        have h1 := List.length_filter_le f (l.take k)
        rw [List.length_take] at h1
        have := HN.out
        omega
      rw [hr] at hRg hin
      have HRI := hid hin
      have hlK := hid hlt
      have hfr := HF.out r
      generalize (l.take k).filter f = m at *
      clear hr hin hlt hk
      have z1 := bnew wr (Obj.cells (rcL zeroR).toArray 46)
      have hX := Box.new wr (rcL zeroR) 46
      go_upto_region 5 with (first | (guard_target =~ wpList _ _ _ (⟨some 20, _, _, _, _, _⟩ :: _) _ _; refine recT.load (op := ⟨some 20, .load _ _, _, _, _, _⟩) (by rfl) _ (by rfl) g (3 + k * 17) (by rfl) r hRg ?_) | (guard_target =~ wpList _ _ _ (⟨none, _, _, _, _, _⟩ :: _) _ _; refine recT.store (op := ⟨none, .store _ _ _, _, _, _, _⟩) (by rfl) _ _ (by rfl) wr.heap.size r zeroR _ (by rfl) (by rfl) hX ?_))
      have hZ := hX.rowK (rcL r)
      have hW2 := below_setRow z1 (Nat.le_refl _) (rcL r).toArray
      change Code.wp Try.prog _ _ _ ((wr.alloc (Obj.cells (rcL zeroR).toArray 46)).setRow wr.heap.size (rcL r).toArray)
      generalize (wr.alloc (Obj.cells (rcL zeroR).toArray 46)).setRow wr.heap.size (rcL r).toArray = W2 at *
      replace hown := hown.below hW2
      replace hb := bnext hb hW2
      generalize wr.heap.size = g9 at *
      clear z1 hX hRg hW2
      have c15 := hZ.cell 15 _ rfl
      by_cases hfi : r.fi = -1
      · have hfb := hfr.1 hfi
        rw [hfb, if_neg (by decide), List.append_nil] at hsn
        clear hfr hfb
        have hfin : (r.fi != -1) = false := by rw [hfi]; decide
        clear hfi
        go_wp2_with fail
        go_roundw
        case rel => exact ⟨k + 1, hlK.out, by go_num, by rw [hsn.out]; exact hown, hb⟩
        case measure => (have := hlK.out; simp [intOf] <;> omega)
      · have hf0 : 0 ≤ r.fi := by have := HRI.out.2.1; omega
        have hfb := hid (hfr.2 hf0)
        have hr2 := hid HRI.out.2.1
        have hfin : (r.fi != -1) = true := bne_iff_ne.2 hfi
        clear hfr hfi hf0
        go_wp2_with fail
        refine (within_any g own port win rs l.length r.fi now _ (HB.out.below hb) HW.out hr2.out).mono ?_
        rintro e W3 ⟨rfl, rfl⟩
        rw [hfb.out]
        clear hfb
        cases hfr : f r
        · rw [hfr, if_neg (by decide), List.append_nil] at hsn
          clear hfr hfin
          go_wp2_with fail
          go_roundw
          case rel => exact ⟨k + 1, hlK.out, by go_num, by rw [hsn.out]; exact hown, hb⟩
          case measure => (have := hlK.out; simp [intOf] <;> omega)
        · rw [hfr, if_pos rfl] at hsn
          clear hfr hfin
          have z2 := bnew W3 (Obj.cells (rcL r).toArray 46)
          have hlit := lit_rec r W3
          have one2 : recK.Reads (W3.alloc (Obj.cells (rcL r).toArray 46)) (.slice (some ⟨W3.heap.size, 0, none⟩) 1 1) [r] := recK.one_new W3 r 46
          generalize W3.alloc (Obj.cells (rcL r).toArray 46) = W4 at *
          have own2 := hown.below z2
          have hb2 := bnext hb z2
          have hbs := hb2.size
          have hl1 : (m.length + [r].length) * 136 ≤ 140737488355328 := by rw [List.length_singleton]; omega
          have hl2 : m.length + [r].length ≤ 140737488355328 := by rw [List.length_singleton]; omega
          generalize W3.heap.size = g8 at *
          clear hml
          go_upto_region 7 with (first | (guard_target =~ wpList _ _ _ (⟨some 32, _, _, _, _, _⟩ :: _) _ _; refine recT.load (op := ⟨some 32, .load _ _, _, _, _, _⟩) (by rfl) _ (by rfl) g9 0 (by rfl) r hZ.rangeK ?_) | (guard_target =~ wpList _ _ _ (⟨some 33, _, _, _, _, _⟩ :: _) _ _; refine @wpList_lit _ _ ⟨some 33, .buildSlice 34 1 #[(0, .tmp 32)], _, _, _, _⟩ _ _ _ (by rfl) 34 1 _ (by rfl) #[(0, .agg (rcL r).toArray)] (by kernel_rfl) _ _ hlit ?_) | (guard_target =~ wpList _ _ _ (⟨some 34, _, _, _, _, _⟩ :: _) _ _; refine recK.wpList_append Try.underlying34 rec_info rfl (o := ⟨some 34, _, _, _, _, _⟩) rfl _ _ rfl rfl w.heap.size _ _ m [r] rfl rfl own2 one2 hl1 hl2 hbs ?_; intro v' w' own' bel'))
          go_wp2_with fail
          go_roundw
          case rel => exact ⟨k + 1, hlK.out, by go_num, by rw [hsn.out]; exact own', hb2.trans bel'⟩
          case measure => (have := hlK.out; simp [intOf] <;> omega)
    · obtain rfl : k = l.length := by omega
      rw [List.take_length] at hown
      go_wp2_with fail
      go_ret
      exact ⟨_, rfl, hown.reads, hb⟩

end Go.Proofs.Ytdkgcggpgombaaa
