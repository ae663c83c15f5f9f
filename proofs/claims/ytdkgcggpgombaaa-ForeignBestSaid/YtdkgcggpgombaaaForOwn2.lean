/- The program's own Hear (gen_forown.py). -/
import Derived.Test.YtdkgcggpgombaaaForOwn1
import Derived.BigQuiet
namespace Go.Proofs.Ytdkgcggpgombaaa
open Go.RowKit Go.Proofs
set_option maxRecDepth 50000
set_option linter.unusedVariables false
set_option linter.unusedSimpArgs false

theorem StrT.op_store_mid {α : Type} {K : RowK α} {T : TypeId} (hT : StrT K T) {op : Oper} {a : Act} {w : World} {K' : Act → World → Prop} {Q : Exit → Act → World → Prop} (x y : Operand) (ho : op.op = .store T x y)
    (g o : Nat) (c : α) (xs : List Value) (t : TypeId) (hx : a.eval x = .pointer (some ⟨g, o, none⟩)) (hy : a.eval y = .agg (K.enc c).toArray) (hB : Box w g xs t) (hn : o + K.n ≤ xs.length)
    (h : K' (a.put op.dst undef) (w.setCells g o (K.enc c))) : op.wp Try.prog a w K' Q :=
  wp_store_mid _ x y ho g o (K.enc c).toArray hx hy (hB.there o _ (by simpa [K.len] using hn)) (by rw [hT.size]; simp [K.len]) (all_oneCell_toArray (K.one c)) h

/-- A record is stored in the table at g: what else stands. -/
theorem rec_stored {w0 w : World} {g G : Nat} {t t2 : TypeId} {own port win : Int} {rs : List Rc} {n : Nat} {xs : List Value} (hB : Box w g (tabL own port win rs n) t) (ho : Only g w0 w) (hM : Box w G xs t2) (hne : G ≠ g) (h : rs.length = 5) (i : Nat) (hi : i < 5) (r : Rc) :
    ∃ W, W = w.setCells g (3 + i * 17) (recK.enc r) ∧ Box W g (tabL own port win (rs.set i r) n) t ∧ Only g w0 W ∧ Box W G xs t2 :=
  ⟨_, rfl, hB.rec_set h i hi r, ho.cells _ _ _, Box.cells_other hne _ _ _ hM⟩

theorem putF_at (t : Ft) (h : Hd) (d : Bd) (now : Int) (l : List Rc) (m P : Nat) (hP : findN h.sc h.sp l = P) (hi : P < l.length) :
    putF t h d now l m = if oldR l[P] h.sq now then (l, 9) else (l.set P (recF t h d l[P].la now), 0) := by
  subst hP
  exact putF_there t h d now l m hi

theorem hear_refused {t : Ft} {h : Hd} {d : Bd} {now : Int} (hE : refE t.own h d now ≠ 0) : hearE t h d now = refE t.own h d now ∧ hearT t h d now = t := by
  unfold refE at *
  unfold hearE hearT
  split
  · exact ⟨rfl, rfl⟩
  · split
    · exact ⟨rfl, rfl⟩
    · split
      · exact ⟨rfl, rfl⟩
      · rename_i h1 h2 h3
        rw [if_neg h1, if_neg h2, if_neg h3] at hE
        exact absurd rfl hE
theorem hear_heard {t : Ft} {h : Hd} {d : Bd} {now : Int} (hE : refE t.own h d now = 0) : hearE t h d now = (putF t h d now t.l 0).2 ∧ hearT t h d now = { t with l := (putF t h d now t.l 0).1 } ∧ 0 ≤ now ∧ now ≤ 1099511627776 := by
  unfold refE at hE
  unfold hearE hearT
  split at hE
  · cases hE
  · split at hE
    · cases hE
    · split at hE
      · cases hE
      · rename_i h1 h2 h3
        rw [if_neg h1, if_neg h2, if_neg h3, if_neg h1, if_neg h2, if_neg h3]
        exact ⟨rfl, rfl, by omega, by omega⟩
set_option maxRecDepth 100000 in
set_option maxHeartbeats 8000000 in
theorem ownHearF : CHearF TabR := by
  intro g t h d now w FA hms
  obtain ⟨rs, h5, hn, hB, ht, hw, hin⟩ := tab_open FA
  obtain ⟨own, port, win, l⟩ := t
  replace hn : l.length ≤ 5 := hn
  replace hB : Box w g (tabL own port win rs l.length) 55 := hB
  replace ht := hid (show rs.take l.length = l from ht)
  replace hw := hid (show 1 ≤ win ∧ win ≤ 1048576 from hw)
  have HIN := hid (show ∀ r ∈ l, RcIn r from hin)
  have HMS := hid hms
  clear FA hin hms
  obtain ⟨n, hn2⟩ : ∃ n : Nat, n = l.length := ⟨_, rfl⟩
  rw [← hn2] at hn hB ht
  have HLL := hid (show l.length ≤ 5 by omega)
  replace hn2 := hid hn2
  have z0 := bnew w (Obj.cells (msgF h d).toArray 31)
  have hM := Box.new w (msgF h d) 31
  have hb := z0
  clear z0
  have hT := hB.below hb
  have hgl := hB.lt
  have ho := Only.of_below g hb
  go_enter Try.func9, Try.ntmps9
  go_upto_region 1 with fail
  change Code.wp Try.prog _ _ _ (w.alloc (Obj.cells (msgF h d).toArray 31))
  generalize (w.alloc (Obj.cells (msgF h d).toArray 31)) = W at *
  generalize hG : w.heap.size = G at *
  rw [← hG] at hb
  have l_hM : w.heap.size ≤ G := by omega
  have H5 := hid h5
  have hne : G ≠ g := by omega
  clear hgl h5
  go_wp2_with (guard_target =~ wpList _ _ _ (⟨some 12, _, _, _, _, _⟩ :: _) _ _; refine wpList_load_msg (op := ⟨some 12, .load _ _, _, _, _, _⟩) (by rfl) _ (by rfl) G (by rfl) (msgF h d) _ hM (msgF_length _ _) ?_)
  refine (refused_any g own port win rs n h d now _ hT).mono ?_
  rintro e w1 ⟨rfl, b1⟩
  replace hT := hT.below b1
  replace hM := hM.below b1
  replace hb := bnext hb b1
  replace ho := ho.next b1
  clear b1
  by_cases hE0 : refE own h d now = 0
  · obtain ⟨s1, s2, s3, s4⟩ := hear_heard (t := ⟨own, port, win, l⟩) (h := h) (d := d) (now := now) hE0
    dsimp only at s1 s2
    have S12 := hid (And.intro s1 s2)
    clear s1 s2
    rw [hE0]
    clear hE0
    have c4 := hM.cell 4 _ rfl
    have c5 := hM.cell 5 _ rfl
    go_wp2_with fail
    refine (find_any g own port win rs n h.sc h.sp _ hT H5.out hn).mono ?_
    rintro e w2 ⟨rfl, b2⟩
    replace hT := hT.below b2
    replace hM := hM.below b2
    replace hb := bnext hb b2
    replace ho := ho.next b2
    clear b2
    rw [ht.out]
    clear c4 c5
    have t88 := hT.cell 88 _ (tab_count H5.out)
    have hPle := findN_le h.sc h.sp l
    by_cases hP : findN h.sc h.sp l < l.length
    · obtain ⟨P, hPe⟩ : ∃ P, findN h.sc h.sp l = P := ⟨_, rfl⟩
      rw [hPe] at hP hPle ⊢
      have hpf := putF_at ⟨own, port, win, l⟩ h d now l 0 P hPe hP
      obtain ⟨r0, hr0⟩ : ∃ r0, l[P] = r0 := ⟨_, rfl⟩
      have hrc := hid (show RcIn r0 from hr0 ▸ HIN.out _ (List.getElem_mem hP))
      have h5P : P < 5 := by have := HLL.out; omega
      have hPN : P < n := by have := hn2.out; omega
      have hrs := (take_at ht.out P hP (by have := H5.out; omega)).trans hr0
      have hRg : w2.rangeAt g (3 + P * 17) (rcL r0) := by have := hT.rec H5.out P h5P; rwa [hrs] at this
      rw [hr0] at hpf
      rw [hpf] at S12
      clear hrs hr0 hPe
      have hPn : (P : Int) < (n : Int) := by omega
      have hP5 : (P : Int) < 5 := by omega
      have hP0 : (0 : Int) ≤ (P : Int) := by omega
      have hPf := hid hP
      clear hpf hP hPle
      have z1 := bnew w2 (Obj.cells (rcL zeroR).toArray 46)
      have hX := Box.new w2 (rcL zeroR) 46
      go_upto_region 8 with (first | (guard_target =~ wpList _ _ _ (⟨some 33, _, _, _, _, _⟩ :: _) _ _; refine recT.load (op := ⟨some 33, .load _ _, _, _, _, _⟩) (by rfl) _ (by rfl) g (3 + P * 17) (by rfl) r0 hRg ?_) | (guard_target =~ wpList _ _ _ (⟨none, _, _, _, _, _⟩ :: _) _ _; refine recT.store (op := ⟨none, .store _ _ _, _, _, _, _⟩) (by rfl) _ _ (by rfl) w2.heap.size r0 zeroR _ (by rfl) (by rfl) hX ?_))
      have hZ := hX.rowK (rcL r0)
      have hW := below_setRow z1 (Nat.le_refl _) (rcL r0).toArray
      change Code.wp Try.prog _ _ _ ((w2.alloc (Obj.cells (rcL zeroR).toArray 46)).setRow w2.heap.size (rcL r0).toArray)
      generalize (w2.alloc (Obj.cells (rcL zeroR).toArray 46)).setRow w2.heap.size (rcL r0).toArray = w3 at *
      clear z1 hX hRg t88
      replace hT := hT.below hW
      replace hM := hM.below hW
      replace hb := bnext hb hW
      replace ho := ho.next hW
      clear hW
      generalize w2.heap.size = g9 at *
      have c6 := hM.cell 6 _ rfl
      go_wp2_with (guard_target =~ wpList _ _ _ (⟨some 34, _, _, _, _, _⟩ :: _) _ _; refine recT.load (op := ⟨some 34, .load _ _, _, _, _, _⟩) (by rfl) _ (by rfl) g9 0 (by rfl) r0 hZ.rangeK ?_)
      refine (late_any r0 h.sq now _).mono ?_
      rintro e w4 ⟨rfl, b4⟩
      replace hZ := hZ.below b4
      replace hT := hT.below b4
      replace hM := hM.below b4
      replace hb := bnext hb b4
      replace ho := ho.next b4
      clear b4
      clear c6
      by_cases hold : oldR r0 h.sq now
      · rw [if_pos hold] at S12
        rw [decide_eq_true hold]
        clear hold
        go_wp2_with fail
        go_ret
        exact ⟨ret_int S12.out.1.symm, by rw [S12.out.2]; exact tab_shut H5.out HLL.out (by dsimp only; rw [← hn2.out]; exact hT) (by dsimp only; rw [← hn2.out]; exact ht.out) hw.out HIN.out, ho⟩
      · rw [if_neg hold] at S12
        rw [decide_eq_false hold]
        clear hold
        have c16 := hZ.cell 16 _ rfl
        go_upto_region 11 with fail
        clear c16 hZ
        have hP5b : ¬ (P : Int) = 5 := by omega
        go_upto_region 13 with fail
        try clear t88
        refine wp_region_held_drew (S := fun w' => Box w' G (msgF h d) 31) (by kernel_rfl) (hM.below (Below.drew (Below.refl _ _))) ?_
        intro hS
        have hbd := Below.drew (Below.refl w4.heap.size w4)
        replace hT := hT.below hbd
        replace hb := bnext hb hbd
        replace ho := ho.next hbd
        clear hM hbd
        generalize w4.drew = WD at *
        refine rtake 0 rfl (by rfl) (by kernel_rfl) (by kernel_rfl) (by kernel_rfl) (fun _ _ _ h => h) hS (fun wx hwx => by go_simp; try with_reducible rfl) ?_
        try simp only [Act.put, List.setIfInBounds_toArray, List.set_cons_zero, List.set_cons_succ]
        refine rtake 1 rfl (by rfl) (by kernel_rfl) (by kernel_rfl) (by kernel_rfl) (fun _ _ _ h => h) hS (fun wx hwx => by go_simp; try with_reducible rfl) ?_
        try simp only [Act.put, List.setIfInBounds_toArray, List.set_cons_zero, List.set_cons_succ]
        refine rtake 2 rfl (by rfl) (by kernel_rfl) (by kernel_rfl) (by kernel_rfl) (fun _ _ _ h => h) hS (fun wx hwx => by go_simp; try with_reducible rfl) ?_
        try simp only [Act.put, List.setIfInBounds_toArray, List.set_cons_zero, List.set_cons_succ]
        refine rtake 3 rfl (by rfl) (by kernel_rfl) (by kernel_rfl) (by kernel_rfl) (fun _ _ _ h => h) hS (fun wx hwx => by exact exec_load_msg _ rfl G rfl (msgF h d) _ hwx (msgF_length _ _)) ?_
        try simp only [Act.put, List.setIfInBounds_toArray, List.set_cons_zero, List.set_cons_succ]
        refine rtake 5 rfl (by rfl) (by kernel_rfl) (by kernel_rfl) (by kernel_rfl) (fun _ _ _ h => h) hS (fun wx hwx => by exact exec_load_msg _ rfl G rfl (msgF h d) _ hwx (msgF_length _ _)) ?_
        try simp only [Act.put, List.setIfInBounds_toArray, List.set_cons_zero, List.set_cons_succ]
        refine rtake 7 rfl (by rfl) (by kernel_rfl) (by kernel_rfl) (by kernel_rfl) (fun _ _ _ h => h) hS (fun wx hwx => by go_simp; try with_reducible rfl) ?_
        try simp only [Act.put, List.setIfInBounds_toArray, List.set_cons_zero, List.set_cons_succ]
        refine rtake 8 rfl (by rfl) (by kernel_rfl) (by kernel_rfl) (by kernel_rfl) (fun _ _ _ h => h) hS (fun wx hwx => by have q6 := hwx.cell 6 _ rfl; go_simp; try with_reducible rfl) ?_
        try simp only [Act.put, List.setIfInBounds_toArray, List.set_cons_zero, List.set_cons_succ]
        refine rtake 9 rfl (by rfl) (by kernel_rfl) (by kernel_rfl) (by kernel_rfl) (fun _ _ _ h => h) hS (fun wx hwx => by go_simp; try with_reducible rfl) ?_
        try simp only [Act.put, List.setIfInBounds_toArray, List.set_cons_zero, List.set_cons_succ]
        refine rtake 10 rfl (by rfl) (by kernel_rfl) (by kernel_rfl) (by kernel_rfl) (fun _ _ _ h => h) hS (fun wx hwx => by go_simp; try with_reducible rfl) ?_
        try simp only [Act.put, List.setIfInBounds_toArray, List.set_cons_zero, List.set_cons_succ]
        refine rtake 12 rfl (by rfl) (by kernel_rfl) (by kernel_rfl) (by kernel_rfl) (fun _ _ _ h => h) hS (fun wx hwx => by go_simp; try with_reducible rfl) ?_
        try simp only [Act.put, List.setIfInBounds_toArray, List.set_cons_zero, List.set_cons_succ]
        refine rtake 13 rfl (by rfl) (by kernel_rfl) (by kernel_rfl) (by kernel_rfl) (fun _ _ _ h => h) hS (fun wx hwx => by go_simp; try with_reducible rfl) ?_
        try simp only [Act.put, List.setIfInBounds_toArray, List.set_cons_zero, List.set_cons_succ]
        refine rcall 4 rfl (by kernel_rfl) (by rfl) (fun K' hK => ?_)
        go_simp
        refine (vector_any g own port win rs n h d _ hT).mono ?_
        rintro e wq ⟨rfl, bq⟩
        replace hT := hT.below bq
        replace hS := hS.below bq
        replace hb := bnext hb bq
        replace ho := ho.next bq
        refine hK.out _ _ hS ?_
        clear hK K' bq
        try simp only [Act.put, List.setIfInBounds_toArray, List.set_cons_zero, List.set_cons_succ]
        refine rcall 6 rfl (by kernel_rfl) (by rfl) (fun K' hK => ?_)
        go_simp
        refine (times_any h d _).mono ?_
        rintro e wz ⟨rfl, bq⟩
        replace hT := hT.below bq
        replace hS := hS.below bq
        replace hb := bnext hb bq
        replace ho := ho.next bq
        refine hK.out _ _ hS ?_
        clear hK K' bq
        try simp only [Act.put, List.setIfInBounds_toArray, List.set_cons_zero, List.set_cons_succ]
        obtain ⟨r1, hr1⟩ : ∃ r1 : Rc, r1 = ⟨⟨d.p1, d.qc, d.qa, d.qv, d.p2, d.gr, d.sr, h.sc, h.sp, own, port⟩, d.ut, h.fl % 64, d.og, h.sq, r0.la, now⟩ := ⟨_, rfl⟩
        replace hr1 := hid hr1
        refine rtake 11 rfl (by rfl) (by kernel_rfl) (by kernel_rfl) (by kernel_rfl) (fun _ _ _ h => h) hS (fun wx hwx => by exact exec_build_any _ _ rfl _ rfl (rcL r1).toArray (by rw [hr1.out]; kernel_rfl)) ?_
        try simp only [Act.put, List.setIfInBounds_toArray, List.set_cons_zero, List.set_cons_succ]
        refine rtake 14 rfl (by rfl) (by kernel_rfl) (by kernel_rfl) (by kernel_rfl) (fun _ _ _ h => h) hS (fun wx hwx => by go_simp; try with_reducible rfl) ?_
        try simp only [Act.put, List.setIfInBounds_toArray, List.set_cons_zero, List.set_cons_succ]
        refine rcall 15 rfl (by kernel_rfl) (by rfl) (fun K' hK => ?_)
        refine recT.op_store_mid (op := ⟨none, .store _ _ _, _, _, _, _⟩) _ _ rfl g (3 + P * 17) r1 _ _ (by rfl) (by rfl) hT (by rw [tabL_length H5.out]; show 3 + P * 17 + 17 ≤ 89; omega) ?_
        obtain ⟨WZ, hWZ, hT', ho', hS'⟩ := rec_stored hT ho hS hne H5.out P (by omega) r1
        rw [← hWZ]
        refine hK.out _ _ hS' ?_
        clear hK K' hWZ hT ho hS
        have hT := hT'
        have ho := ho'
        have hS := hS'
        clear hT' ho' hS'
        try simp only [Act.put, List.setIfInBounds_toArray, List.set_cons_zero, List.set_cons_succ]
        refine wpAnyH_done (by kernel_rfl) ?_ _
        clear hS hb
        have h5s : (rs.set P r1).length = 5 := by rw [List.length_set]; exact H5.out
        have t88 := hT.cell 88 _ (tab_count h5s)
        have f88 := hT.free 88
        replace ho := ho.cell 88 (.int .i64 ((n : Nat) : Int))
        replace hT := hT.set 88 (.int .i64 ((n : Nat) : Int))
        rw [tab_set h5s] at hT
        have hT2 := hid hT
        have ho2 := hid ho
        clear hT ho h5s
        have hw1 : wrap64 ((P : Int) + 1) = (P : Int) + 1 := by unfold wrap64; omega
        have hm1 := (show (P : Int) + 1 ≤ (n : Int) by omega)
        go_wp2_with fail
        go_ret
        have hrf : r1 = recF ⟨own, port, win, l⟩ h d r0.la now := hr1.out
        have hl : (l.set P r1).length = n := by rw [List.length_set]; exact hn2.out.symm
        refine ⟨ret_int S12.out.1.symm, ?_, ho2.out⟩
        rw [S12.out.2, ← hrf]
        refine tab_shut (rs := rs.set P r1) (by rw [List.length_set]; exact H5.out) (by dsimp only; rw [hl]; exact hn) (by dsimp only; rw [hl]; exact hT2.out) (take_set (by rw [← hn2.out]; exact ht.out) P hPf.out r1) hw.out ?_
        intro r hr
        rcases List.mem_or_eq_of_mem_set hr with h1 | rfl
        · exact HIN.out r h1
        · rw [hr1.out]
          exact ⟨HMS.out.1, by have := hrc.out.2.2; exact ⟨by dsimp only; omega, this.2⟩, s3, s4⟩
    · have hPn : findN h.sc h.sp l = l.length := by omega
      have hpf := putF_not ⟨own, port, win, l⟩ h d now l 0 hPn
      rw [hpf] at S12
      rw [hPn, ← hn2.out]
      clear hP hpf hPle hPn
      by_cases hn5 : n = 5
      · rw [if_pos (by have := hn2.out; omega)] at S12
        subst hn5
        go_wp2_with fail
        go_ret
        exact ⟨ret_int S12.out.1.symm, by rw [S12.out.2]; exact tab_shut H5.out HLL.out (by dsimp only; rw [← hn2.out]; exact hT) (by dsimp only; rw [← hn2.out]; exact ht.out) hw.out HIN.out, ho⟩
      · rw [if_neg (by have := hn2.out; omega)] at S12
        have hnI : ¬ (n : Int) = 5 := by omega
        have hn5I : (n : Int) < 5 := by omega
        have hn0I : (0 : Int) ≤ (n : Int) := by omega
        go_upto_region 13 with fail
        try clear t88
        refine wp_region_held_drew (S := fun w' => Box w' G (msgF h d) 31) (by kernel_rfl) (hM.below (Below.drew (Below.refl _ _))) ?_
        intro hS
        have hbd := Below.drew (Below.refl w2.heap.size w2)
        replace hT := hT.below hbd
        replace hb := bnext hb hbd
        replace ho := ho.next hbd
        clear hM hbd
        generalize w2.drew = WD at *
        refine rtake 0 rfl (by rfl) (by kernel_rfl) (by kernel_rfl) (by kernel_rfl) (fun _ _ _ h => h) hS (fun wx hwx => by go_simp; try with_reducible rfl) ?_
        try simp only [Act.put, List.setIfInBounds_toArray, List.set_cons_zero, List.set_cons_succ]
        refine rtake 1 rfl (by rfl) (by kernel_rfl) (by kernel_rfl) (by kernel_rfl) (fun _ _ _ h => h) hS (fun wx hwx => by go_simp; try with_reducible rfl) ?_
        try simp only [Act.put, List.setIfInBounds_toArray, List.set_cons_zero, List.set_cons_succ]
        refine rtake 2 rfl (by rfl) (by kernel_rfl) (by kernel_rfl) (by kernel_rfl) (fun _ _ _ h => h) hS (fun wx hwx => by go_simp; try with_reducible rfl) ?_
        try simp only [Act.put, List.setIfInBounds_toArray, List.set_cons_zero, List.set_cons_succ]
        refine rtake 3 rfl (by rfl) (by kernel_rfl) (by kernel_rfl) (by kernel_rfl) (fun _ _ _ h => h) hS (fun wx hwx => by exact exec_load_msg _ rfl G rfl (msgF h d) _ hwx (msgF_length _ _)) ?_
        try simp only [Act.put, List.setIfInBounds_toArray, List.set_cons_zero, List.set_cons_succ]
        refine rtake 5 rfl (by rfl) (by kernel_rfl) (by kernel_rfl) (by kernel_rfl) (fun _ _ _ h => h) hS (fun wx hwx => by exact exec_load_msg _ rfl G rfl (msgF h d) _ hwx (msgF_length _ _)) ?_
        try simp only [Act.put, List.setIfInBounds_toArray, List.set_cons_zero, List.set_cons_succ]
        refine rtake 7 rfl (by rfl) (by kernel_rfl) (by kernel_rfl) (by kernel_rfl) (fun _ _ _ h => h) hS (fun wx hwx => by go_simp; try with_reducible rfl) ?_
        try simp only [Act.put, List.setIfInBounds_toArray, List.set_cons_zero, List.set_cons_succ]
        refine rtake 8 rfl (by rfl) (by kernel_rfl) (by kernel_rfl) (by kernel_rfl) (fun _ _ _ h => h) hS (fun wx hwx => by have q6 := hwx.cell 6 _ rfl; go_simp; try with_reducible rfl) ?_
        try simp only [Act.put, List.setIfInBounds_toArray, List.set_cons_zero, List.set_cons_succ]
        refine rtake 9 rfl (by rfl) (by kernel_rfl) (by kernel_rfl) (by kernel_rfl) (fun _ _ _ h => h) hS (fun wx hwx => by go_simp; try with_reducible rfl) ?_
        try simp only [Act.put, List.setIfInBounds_toArray, List.set_cons_zero, List.set_cons_succ]
        refine rtake 10 rfl (by rfl) (by kernel_rfl) (by kernel_rfl) (by kernel_rfl) (fun _ _ _ h => h) hS (fun wx hwx => by go_simp; try with_reducible rfl) ?_
        try simp only [Act.put, List.setIfInBounds_toArray, List.set_cons_zero, List.set_cons_succ]
        refine rtake 12 rfl (by rfl) (by kernel_rfl) (by kernel_rfl) (by kernel_rfl) (fun _ _ _ h => h) hS (fun wx hwx => by go_simp; try with_reducible rfl) ?_
        try simp only [Act.put, List.setIfInBounds_toArray, List.set_cons_zero, List.set_cons_succ]
        refine rtake 13 rfl (by rfl) (by kernel_rfl) (by kernel_rfl) (by kernel_rfl) (fun _ _ _ h => h) hS (fun wx hwx => by go_simp; try with_reducible rfl) ?_
        try simp only [Act.put, List.setIfInBounds_toArray, List.set_cons_zero, List.set_cons_succ]
        refine rcall 4 rfl (by kernel_rfl) (by rfl) (fun K' hK => ?_)
        go_simp
        refine (vector_any g own port win rs n h d _ hT).mono ?_
        rintro e wq ⟨rfl, bq⟩
        replace hT := hT.below bq
        replace hS := hS.below bq
        replace hb := bnext hb bq
        replace ho := ho.next bq
        refine hK.out _ _ hS ?_
        clear hK K' bq
        try simp only [Act.put, List.setIfInBounds_toArray, List.set_cons_zero, List.set_cons_succ]
        refine rcall 6 rfl (by kernel_rfl) (by rfl) (fun K' hK => ?_)
        go_simp
        refine (times_any h d _).mono ?_
        rintro e wz ⟨rfl, bq⟩
        replace hT := hT.below bq
        replace hS := hS.below bq
        replace hb := bnext hb bq
        replace ho := ho.next bq
        refine hK.out _ _ hS ?_
        clear hK K' bq
        try simp only [Act.put, List.setIfInBounds_toArray, List.set_cons_zero, List.set_cons_succ]
        obtain ⟨r1, hr1⟩ : ∃ r1 : Rc, r1 = ⟨⟨d.p1, d.qc, d.qa, d.qv, d.p2, d.gr, d.sr, h.sc, h.sp, own, port⟩, d.ut, h.fl % 64, d.og, h.sq, -1, now⟩ := ⟨_, rfl⟩
        replace hr1 := hid hr1
        refine rtake 11 rfl (by rfl) (by kernel_rfl) (by kernel_rfl) (by kernel_rfl) (fun _ _ _ h => h) hS (fun wx hwx => by exact exec_build_any _ _ rfl _ rfl (rcL r1).toArray (by rw [hr1.out]; kernel_rfl)) ?_
        try simp only [Act.put, List.setIfInBounds_toArray, List.set_cons_zero, List.set_cons_succ]
        refine rtake 14 rfl (by rfl) (by kernel_rfl) (by kernel_rfl) (by kernel_rfl) (fun _ _ _ h => h) hS (fun wx hwx => by go_simp; try with_reducible rfl) ?_
        try simp only [Act.put, List.setIfInBounds_toArray, List.set_cons_zero, List.set_cons_succ]
        refine rcall 15 rfl (by kernel_rfl) (by rfl) (fun K' hK => ?_)
        refine recT.op_store_mid (op := ⟨none, .store _ _ _, _, _, _, _⟩) _ _ rfl g (3 + n * 17) r1 _ _ (by rfl) (by rfl) hT (by rw [tabL_length H5.out]; show 3 + n * 17 + 17 ≤ 89; omega) ?_
        obtain ⟨WZ, hWZ, hT', ho', hS'⟩ := rec_stored hT ho hS hne H5.out n (by omega) r1
        rw [← hWZ]
        refine hK.out _ _ hS' ?_
        clear hK K' hWZ hT ho hS
        have hT := hT'
        have ho := ho'
        have hS := hS'
        clear hT' ho' hS'
        try simp only [Act.put, List.setIfInBounds_toArray, List.set_cons_zero, List.set_cons_succ]
        refine wpAnyH_done (by kernel_rfl) ?_ _
        clear hS hb
        have h5s : (rs.set n r1).length = 5 := by rw [List.length_set]; exact H5.out
        have t88 := hT.cell 88 _ (tab_count h5s)
        have f88 := hT.free 88
        replace ho := ho.cell 88 (.int .i64 ((n + 1 : Nat) : Int))
        replace hT := hT.set 88 (.int .i64 ((n + 1 : Nat) : Int))
        rw [tab_set h5s] at hT
        have hT2 := hid hT
        have ho2 := hid ho
        clear hT ho h5s
        have hw1 : wrap64 ((n : Int) + 1) = (n : Int) + 1 := by unfold wrap64; omega
        have hm1 := (show ¬ (n : Int) + 1 ≤ (n : Int) by omega)
        go_wp2_with fail
        go_ret
        have hrf : r1 = recF ⟨own, port, win, l⟩ h d (-1) now := hr1.out
        have hl : (l ++ [r1]).length = n + 1 := by rw [List.length_append, ← hn2.out]; rfl
        refine ⟨ret_int S12.out.1.symm, ?_, ho2.out⟩
        rw [S12.out.2, ← hrf]
        refine tab_shut (rs := rs.set n r1) (by rw [List.length_set]; exact H5.out) (by dsimp only; rw [hl]; omega) (by dsimp only; rw [hl]; exact hT2.out) (by dsimp only; have := take_more (rs := rs) (l := l) (by rw [← hn2.out]; exact ht.out) (by rw [H5.out, ← hn2.out]; omega) r1; rw [← hn2.out] at this; exact this) hw.out ?_
        intro r hr
        rcases List.mem_append.1 hr with h1 | h1
        · exact HIN.out r h1
        · obtain rfl := List.mem_singleton.1 h1
          rw [hr1.out]
          exact ⟨HMS.out.1, by dsimp only; omega, s3, s4⟩
  · have hE1 := hear_refused (t := ⟨own, port, win, l⟩) (h := h) (d := d) (now := now) hE0
    dsimp only at hE1
    have S12 := hid hE1
    clear hE1
    generalize refE own h d now = E at *
    go_wp2_with fail
    go_ret
    exact ⟨ret_int S12.out.1.symm, by rw [S12.out.2]; exact tab_shut H5.out HLL.out (by dsimp only; rw [← hn2.out]; exact hT) (by dsimp only; rw [← hn2.out]; exact ht.out) hw.out HIN.out, ho⟩
end Go.Proofs.Ytdkgcggpgombaaa
