/- The program's own Age (gen_forown.py). -/
import Derived.Test.YtdkgcggpgombaaaForOwn2
import Derived.BigQuiet
namespace Go.Proofs.Ytdkgcggpgombaaa
open Go.RowKit Go.Proofs
set_option maxRecDepth 50000
set_option linter.unusedVariables false
set_option linter.unusedSimpArgs false

theorem rec_stored1 {w0 w : World} {g : Nat} {t : TypeId} {own port win : Int} {rs : List Rc} {n : Nat} (hB : Box w g (tabL own port win rs n) t) (ho : Only g w0 w) (h : rs.length = 5) (i : Nat) (hi : i < 5) (r : Rc) :
    ∃ W, W = w.setCells g (3 + i * 17) (recK.enc r) ∧ Box W g (tabL own port win (rs.set i r) n) t ∧ Only g w0 W :=
  ⟨_, rfl, hB.rec_set h i hi r, ho.cells _ _ _⟩
theorem recs_source {w : World} {g : Nat} {t : TypeId} {own port win : Int} {rs : List Rc} {n : Nat} (hB : Box w g (tabL own port win rs n) t) (h : rs.length = 5) (m : Nat) :
    ∀ j v, (recK.cells (rs.drop m))[j]? = some v → w.cell? ((⟨g, 3 + m * 17, none⟩ : Addr).add j) = some v := by
  intro j v hj
  have hl := (List.getElem?_eq_some_iff.1 hj).1
  rw [recK.cells_length, List.length_drop, h] at hl
  have hl2 : j < (5 - m) * 17 := hl
  have e : recK.cells rs = recK.cells (rs.take m) ++ recK.cells (rs.drop m) := by rw [← recK.cells_append, List.take_append_drop]
  have e2 : (recK.cells (rs.take m)).length = m * 17 := by
    rw [recK.cells_length, List.length_take, h]
    show min m 5 * 17 = _
    omega
  rw [Addr.add_plain]
  refine hB.cell _ v ?_
  rw [show 3 + m * 17 + j = 3 + (m * 17 + j) by omega, tab_at h _ (by omega), e, List.getElem?_append_right (by omega), e2, show m * 17 + j - m * 17 = j by omega]
  exact hj
theorem closed_length {α : Type} {rs : List α} (h : rs.length = 5) (p : Nat) (hp : p < 5) : (rs.take p ++ rs.drop (p + 1) ++ rs.drop 4).length = 5 := by
  simp only [List.length_append, List.length_take, List.length_drop, h]
  omega
theorem split5 {α : Type} {rs : List α} (h : rs.length = 5) (p : Nat) (hp : p < 5) : rs = rs.take p ++ (rs.drop p).take (4 - p) ++ rs.drop 4 := by
  match rs, h with
  | [a, b, c, d, e], _ =>
    have hp5 : p = 0 ∨ p = 1 ∨ p = 2 ∨ p = 3 ∨ p = 4 := by omega
    rcases hp5 with rfl | rfl | rfl | rfl | rfl <;> rfl
theorem recs_closed {w0 w : World} {g : Nat} {t : TypeId} {own port win : Int} {rs : List Rc} {n : Nat} (hB : Box w g (tabL own port win rs n) t) (ho : Only g w0 w) (h : rs.length = 5) (p : Nat) (hp : p < 5) :
    ∃ W, W = w.setCells g (3 + p * 17) (recK.cells (rs.drop (p + 1))) ∧ Box W g (tabL own port win (rs.take p ++ rs.drop (p + 1) ++ rs.drop 4) n) t ∧ Only g w0 W := by
  refine ⟨_, rfl, ?_, ho.cells _ _ _⟩
  have hB2 : Box w g (tabL own port win (rs.take p ++ (rs.drop p).take (4 - p) ++ rs.drop 4) n) t := by rw [← split5 h p hp]; exact hB
  have h2 := Box.recs (rs.take p) (rs.drop (p + 1)) ((rs.drop p).take (4 - p)) (rs.drop 4) (by rw [List.length_take, List.length_drop, List.length_drop, h]; omega) hB2
  rw [show (rs.take p).length = p by rw [List.length_take]; omega] at h2
  exact h2

set_option maxRecDepth 100000 in
set_option maxHeartbeats 8000000 in
theorem remove_any (g : Nat) (t : Ft) (p : Nat) (w : World) (FA : FAt TabR w g t) (hp : p < t.l.length) :
    Calls Try.prog 22 #[.pointer (some ⟨g, 0, none⟩), .int .i64 (p : Int)] w fun e w' => e = .returned (.tuple #[]) ∧ FAt TabR w' g { t with l := t.l.eraseIdx p } ∧ Only g w w' := by
  obtain ⟨rs, h5, hn, hB, ht, hw, hin⟩ := tab_open FA
  obtain ⟨own, port, win, l⟩ := t
  replace hn : l.length ≤ 5 := hn
  replace hp : p < l.length := hp
  replace hB : Box w g (tabL own port win rs l.length) 55 := hB
  replace ht := hid (show rs.take l.length = l from ht)
  replace hw := hid (show 1 ≤ win ∧ win ≤ 1048576 from hw)
  have HIN := hid (show ∀ r ∈ l, RcIn r from hin)
  have H5 := hid h5
  have HP := hid hp
  have HN := hid hn
  clear FA hin
  obtain ⟨n, hn2⟩ : ∃ n : Nat, n = l.length := ⟨_, rfl⟩
  rw [← hn2] at hn hB ht hp
  replace hn2 := hid hn2
  have hp0 : (0 : Int) ≤ (p : Int) := by omega
  have hp5 : (p : Int) < 5 := by omega
  have hpl : (p : Int) ≤ 5 := by omega
  have hq0 : (0 : Int) ≤ (p : Int) + 1 := by omega
  have hq5 : (p : Int) + 1 ≤ 5 := by omega
  have hw1 : wrap64 ((p : Int) + 1) = (p : Int) + 1 := by unfold wrap64; omega
  have hpn : ¬ p = 5 := by omega
  have hpn2 : ¬ 5 = p := by omega
  have hto : ((p : Int) + 1).toNat = p + 1 := by omega
  have hw2 : IntKind.i64.wrap ((p : Int) + 1) = (p : Int) + 1 := by rw [IntKind.wrap_i64]; omega
  clear h5
  go_enter Try.func22, Try.ntmps22
  go_upto_region 0 with fail
  refine wp_region_held_drew (S := fun w' => True) (by kernel_rfl) True.intro ?_
  intro hS
  have hbd := Below.drew (Below.refl w.heap.size w)
  have ho := Only.of_below g hbd
  replace hB := hB.below hbd
  clear hbd
  generalize w.drew = WD at *
  refine rtake 0 rfl (by rfl) (by kernel_rfl) (by kernel_rfl) (by kernel_rfl) (fun _ _ _ h => h) hS (fun wx hwx => by go_simp; try with_reducible rfl) ?_
  try simp only [Act.put, List.setIfInBounds_toArray, List.set_cons_zero, List.set_cons_succ]
  refine rtake 1 rfl (by rfl) (by kernel_rfl) (by kernel_rfl) (by kernel_rfl) (fun _ _ _ h => h) hS (fun wx hwx => by go_simp; try with_reducible rfl) ?_
  try simp only [Act.put, List.setIfInBounds_toArray, List.set_cons_zero, List.set_cons_succ]
  refine rtake 2 rfl (by rfl) (by kernel_rfl) (by kernel_rfl) (by kernel_rfl) (fun _ _ _ h => h) hS (fun wx hwx => by go_simp; try with_reducible rfl) ?_
  try simp only [Act.put, List.setIfInBounds_toArray, List.set_cons_zero, List.set_cons_succ]
  refine rtake 3 rfl (by rfl) (by kernel_rfl) (by kernel_rfl) (by kernel_rfl) (fun _ _ _ h => h) hS (fun wx hwx => by go_simp; try with_reducible rfl) ?_
  try simp only [Act.put, List.setIfInBounds_toArray, List.set_cons_zero, List.set_cons_succ]
  refine rtake 4 rfl (by rfl) (by kernel_rfl) (by kernel_rfl) (by kernel_rfl) (fun _ _ _ h => h) hS (fun wx hwx => by go_simp; try with_reducible rfl) ?_
  try simp only [Act.put, List.setIfInBounds_toArray, List.set_cons_zero, List.set_cons_succ]
  refine rtake 5 rfl (by rfl) (by kernel_rfl) (by kernel_rfl) (by kernel_rfl) (fun _ _ _ h => h) hS (fun wx hwx => by go_simp; try with_reducible rfl) ?_
  try simp only [Act.put, List.setIfInBounds_toArray, List.set_cons_zero, List.set_cons_succ]
  refine rtake 6 rfl (by rfl) (by kernel_rfl) (by kernel_rfl) (by kernel_rfl) (fun _ _ _ h => h) hS (fun wx hwx => by go_simp; try with_reducible rfl) ?_
  try simp only [Act.put, List.setIfInBounds_toArray, List.set_cons_zero, List.set_cons_succ]
  refine rtake 7 rfl (by rfl) (by kernel_rfl) (by kernel_rfl) (by kernel_rfl) (fun _ _ _ h => h) hS (fun wx hwx => by go_simp; try with_reducible rfl) ?_
  try simp only [Act.put, List.setIfInBounds_toArray, List.set_cons_zero, List.set_cons_succ]
  refine rtake 8 rfl (by rfl) (by kernel_rfl) (by kernel_rfl) (by kernel_rfl) (fun _ _ _ h => h) hS (fun wx hwx => by go_simp; try with_reducible rfl) ?_
  try simp only [Act.put, List.setIfInBounds_toArray, List.set_cons_zero, List.set_cons_succ]
  refine rtake 9 rfl (by rfl) (by kernel_rfl) (by kernel_rfl) (by kernel_rfl) (fun _ _ _ h => h) hS (fun wx hwx => by go_simp; try with_reducible rfl) ?_
  try simp only [Act.put, List.setIfInBounds_toArray, List.set_cons_zero, List.set_cons_succ]
  by_cases hp4 : p = 4
  · subst hp4
    refine rtake 10 rfl (by rfl) (by kernel_rfl) (by kernel_rfl) (by kernel_rfl) (fun _ _ _ h => h) hS (fun wx hwx => by go_simp; try with_reducible rfl) ?_
    try simp only [Act.put, List.setIfInBounds_toArray, List.set_cons_zero, List.set_cons_succ]
    refine rcall 11 rfl (by kernel_rfl) (by rfl) (fun K' hK => ?_)
    refine RowK.op_copy (K := recK) _ _ _ _ 46 rfl g (3 + 4 * 17) (5 - 4) (5 - 4) ⟨g, 3, none⟩ 0 0 (rs.drop (4 + 1)) (by rfl) (by rfl) Try.underlying34 (by kernel_rfl) (by rw [List.length_drop, H5.out]; show _ = min _ _; omega) (by intro j v hj; rw [show rs.drop (4 + 1) = [] from List.drop_eq_nil_of_le (by rw [H5.out]; decide)] at hj; cases hj) (hB.there _ _ (by rw [tabL_length H5.out, recK.cells_length, List.length_drop, H5.out]; show 3 + 4 * 17 + (5 - (4 + 1)) * 17 ≤ 89; omega)) ?_
    obtain ⟨W1, hW1, hT, ho1⟩ := recs_closed hB ho H5.out 4 (by omega)
    rw [← hW1]
    refine hK.out _ _ True.intro ?_
    clear hK K' hW1 hB ho
    try simp only [Act.put, List.setIfInBounds_toArray, List.set_cons_zero, List.set_cons_succ]
    refine wpAnyH_done (by kernel_rfl) ?_ _
    have h5s : (rs.take 4 ++ rs.drop (4 + 1) ++ rs.drop 4).length = 5 := closed_length H5.out 4 (by omega)
    have hfin := hid (take_gone H5.out (show rs.take l.length = l by rw [← hn2.out]; exact ht.out) 4 HP.out HN.out zeroR)
    obtain ⟨m, rfl⟩ : ∃ m, n = m + 1 := ⟨n - 1, by omega⟩
    rw [← hn2.out, show m + 1 - 1 = m from rfl] at hfin
    generalize rs.take 4 ++ rs.drop (4 + 1) ++ rs.drop 4 = ss at *
    have t88 := hT.cell 88 _ (tab_count h5s)
    have f88 := hT.free 88
    have hwm : wrap64 (((m + 1 : Nat) : Int) - 1) = (m : Int) := by unfold wrap64; omega
    have hB2 := hT.set 88 (.int .i64 (m : Int))
    rw [tab_set h5s] at hB2
    have ho2 := ho1.cell 88 (.int .i64 (m : Int))
    replace hB2 := hid hB2
    replace ho2 := hid ho2
    have H5S := hid h5s
    clear hT ho1 h5s
    go_upto_region 2 with fail
    have hT := hB2.out
    have ho := ho2.out
    clear hB2 ho2
    generalize World.setCell _ _ _ = W2 at *
    have c88 := hT.cell 88 _ (tab_count H5S.out)
    refine wp_region_held_drew (S := fun w' => w'.cell? ⟨g, 88, none⟩ = some (.int .i64 (m : Int))) (by kernel_rfl) c88 ?_
    intro hS
    have hbd := Below.drew (Below.refl W2.heap.size W2)
    replace hT := hT.below hbd
    replace ho := ho.next hbd
    clear hbd c88 t88 f88
    generalize W2.drew = W3 at *
    have hmI : (m : Int) < 5 := by omega
    have hm0 : (0 : Int) ≤ (m : Int) := by omega
    refine rtake 0 rfl (by rfl) (by kernel_rfl) (by kernel_rfl) (by kernel_rfl) (fun _ _ _ h => h) hS (fun wx hwx => by go_simp; try with_reducible rfl) ?_
    try simp only [Act.put, List.setIfInBounds_toArray, List.set_cons_zero, List.set_cons_succ]
    refine rtake 1 rfl (by rfl) (by kernel_rfl) (by kernel_rfl) (by kernel_rfl) (fun _ _ _ h => h) hS (fun wx hwx => by go_simp; try with_reducible rfl) ?_
    try simp only [Act.put, List.setIfInBounds_toArray, List.set_cons_zero, List.set_cons_succ]
    refine rtake 2 rfl (by rfl) (by kernel_rfl) (by kernel_rfl) (by kernel_rfl) (fun _ _ _ h => h) hS (fun wx hwx => by go_simp; try with_reducible rfl) ?_
    try simp only [Act.put, List.setIfInBounds_toArray, List.set_cons_zero, List.set_cons_succ]
    refine rtake 3 rfl (by rfl) (by kernel_rfl) (by kernel_rfl) (by kernel_rfl) (fun _ _ _ h => h) hS (fun wx hwx => by go_simp; try with_reducible rfl) ?_
    try simp only [Act.put, List.setIfInBounds_toArray, List.set_cons_zero, List.set_cons_succ]
    refine rtake 4 rfl (by rfl) (by kernel_rfl) (by kernel_rfl) (by kernel_rfl) (fun _ _ _ h => h) hS (fun wx hwx => by go_simp; try with_reducible rfl) ?_
    try simp only [Act.put, List.setIfInBounds_toArray, List.set_cons_zero, List.set_cons_succ]
    refine rtake 5 rfl (by rfl) (by kernel_rfl) (by kernel_rfl) (by kernel_rfl) (fun _ _ _ h => h) hS (fun wx hwx => by exact exec_build_any _ _ rfl _ rfl (rcL zeroR).toArray (by kernel_rfl)) ?_
    try simp only [Act.put, List.setIfInBounds_toArray, List.set_cons_zero, List.set_cons_succ]
    refine rtake 6 rfl (by rfl) (by kernel_rfl) (by kernel_rfl) (by kernel_rfl) (fun _ _ _ h => h) hS (fun wx hwx => by go_simp; try with_reducible rfl) ?_
    try simp only [Act.put, List.setIfInBounds_toArray, List.set_cons_zero, List.set_cons_succ]
    refine rtake 7 rfl (by rfl) (by kernel_rfl) (by kernel_rfl) (by kernel_rfl) (fun _ _ _ h => h) hS (fun wx hwx => by go_simp; try with_reducible rfl) ?_
    try simp only [Act.put, List.setIfInBounds_toArray, List.set_cons_zero, List.set_cons_succ]
    refine rtake 8 rfl (by rfl) (by kernel_rfl) (by kernel_rfl) (by kernel_rfl) (fun _ _ _ h => h) hS (fun wx hwx => by go_simp; try with_reducible rfl) ?_
    try simp only [Act.put, List.setIfInBounds_toArray, List.set_cons_zero, List.set_cons_succ]
    refine rcall 9 rfl (by kernel_rfl) (by rfl) (fun K' hK => ?_)
    refine recT.op_store_mid (op := ⟨none, .store _ _ _, _, _, _, _⟩) _ _ rfl g (3 + m * 17) zeroR _ _ (by rfl) (by rfl) hT (by rw [tabL_length H5S.out]; show 3 + m * 17 + 17 ≤ 89; omega) ?_
    obtain ⟨W4, hW4, hT4, ho4⟩ := rec_stored1 hT ho H5S.out m (by omega) zeroR
    rw [← hW4]
    have hS4 := hT4.cell 88 _ (tab_count (by rw [List.length_set]; exact H5S.out))
    refine hK.out _ _ hS4 ?_
    clear hK K' hW4 hT ho hS4 hS
    try simp only [Act.put, List.setIfInBounds_toArray, List.set_cons_zero, List.set_cons_succ]
    refine wpAnyH_done (by kernel_rfl) ?_ _
    go_wp2_with fail
    go_end0
    have hm := hn2.out
    have hle : (l.eraseIdx 4).length = m := by rw [List.length_eraseIdx, if_pos HP.out]; omega
    exact ⟨rfl, tab_shut (rs := ss.set m zeroR) (by rw [List.length_set]; exact H5S.out) (by dsimp only; omega) (by dsimp only; rw [hle]; exact hT4) (by dsimp only; rw [hle]; exact hfin.out) hw.out (fun r hr => HIN.out r (List.mem_of_mem_eraseIdx hr)), ho4⟩
  · have hp4b : ¬ 5 = p + 1 := by omega
    refine rtake 10 rfl (by rfl) (by kernel_rfl) (by kernel_rfl) (by kernel_rfl) (fun _ _ _ h => h) hS (fun wx hwx => by go_simp; try with_reducible rfl) ?_
    try simp only [Act.put, List.setIfInBounds_toArray, List.set_cons_zero, List.set_cons_succ]
    refine rcall 11 rfl (by kernel_rfl) (by rfl) (fun K' hK => ?_)
    refine RowK.op_copy (K := recK) _ _ _ _ 46 rfl g (3 + p * 17) (5 - p) (5 - p) ⟨g, 3 + (p + 1) * 17, none⟩ (4 - p) (4 - p) (rs.drop (p + 1)) (by rfl) (by rfl) Try.underlying34 (by kernel_rfl) (by rw [List.length_drop, H5.out]; show _ = min _ _; omega) (recs_source hB H5.out (p + 1)) (hB.there _ _ (by rw [tabL_length H5.out, recK.cells_length, List.length_drop, H5.out]; show 3 + p * 17 + (5 - (p + 1)) * 17 ≤ 89; omega)) ?_
    obtain ⟨W1, hW1, hT, ho1⟩ := recs_closed hB ho H5.out p (by omega)
    rw [← hW1]
    refine hK.out _ _ True.intro ?_
    clear hK K' hW1 hB ho
    try simp only [Act.put, List.setIfInBounds_toArray, List.set_cons_zero, List.set_cons_succ]
    refine wpAnyH_done (by kernel_rfl) ?_ _
    have h5s : (rs.take p ++ rs.drop (p + 1) ++ rs.drop 4).length = 5 := closed_length H5.out p (by omega)
    have hfin := hid (take_gone H5.out (show rs.take l.length = l by rw [← hn2.out]; exact ht.out) p HP.out HN.out zeroR)
    obtain ⟨m, rfl⟩ : ∃ m, n = m + 1 := ⟨n - 1, by omega⟩
    rw [← hn2.out, show m + 1 - 1 = m from rfl] at hfin
    generalize rs.take p ++ rs.drop (p + 1) ++ rs.drop 4 = ss at *
    have t88 := hT.cell 88 _ (tab_count h5s)
    have f88 := hT.free 88
    have hwm : wrap64 (((m + 1 : Nat) : Int) - 1) = (m : Int) := by unfold wrap64; omega
    have hB2 := hT.set 88 (.int .i64 (m : Int))
    rw [tab_set h5s] at hB2
    have ho2 := ho1.cell 88 (.int .i64 (m : Int))
    replace hB2 := hid hB2
    replace ho2 := hid ho2
    have H5S := hid h5s
    clear hT ho1 h5s
    go_upto_region 2 with fail
    have hT := hB2.out
    have ho := ho2.out
    clear hB2 ho2
    generalize World.setCell _ _ _ = W2 at *
    have c88 := hT.cell 88 _ (tab_count H5S.out)
    refine wp_region_held_drew (S := fun w' => w'.cell? ⟨g, 88, none⟩ = some (.int .i64 (m : Int))) (by kernel_rfl) c88 ?_
    intro hS
    have hbd := Below.drew (Below.refl W2.heap.size W2)
    replace hT := hT.below hbd
    replace ho := ho.next hbd
    clear hbd c88 t88 f88
    generalize W2.drew = W3 at *
    have hmI : (m : Int) < 5 := by omega
    have hm0 : (0 : Int) ≤ (m : Int) := by omega
    refine rtake 0 rfl (by rfl) (by kernel_rfl) (by kernel_rfl) (by kernel_rfl) (fun _ _ _ h => h) hS (fun wx hwx => by go_simp; try with_reducible rfl) ?_
    try simp only [Act.put, List.setIfInBounds_toArray, List.set_cons_zero, List.set_cons_succ]
    refine rtake 1 rfl (by rfl) (by kernel_rfl) (by kernel_rfl) (by kernel_rfl) (fun _ _ _ h => h) hS (fun wx hwx => by go_simp; try with_reducible rfl) ?_
    try simp only [Act.put, List.setIfInBounds_toArray, List.set_cons_zero, List.set_cons_succ]
    refine rtake 2 rfl (by rfl) (by kernel_rfl) (by kernel_rfl) (by kernel_rfl) (fun _ _ _ h => h) hS (fun wx hwx => by go_simp; try with_reducible rfl) ?_
    try simp only [Act.put, List.setIfInBounds_toArray, List.set_cons_zero, List.set_cons_succ]
    refine rtake 3 rfl (by rfl) (by kernel_rfl) (by kernel_rfl) (by kernel_rfl) (fun _ _ _ h => h) hS (fun wx hwx => by go_simp; try with_reducible rfl) ?_
    try simp only [Act.put, List.setIfInBounds_toArray, List.set_cons_zero, List.set_cons_succ]
    refine rtake 4 rfl (by rfl) (by kernel_rfl) (by kernel_rfl) (by kernel_rfl) (fun _ _ _ h => h) hS (fun wx hwx => by go_simp; try with_reducible rfl) ?_
    try simp only [Act.put, List.setIfInBounds_toArray, List.set_cons_zero, List.set_cons_succ]
    refine rtake 5 rfl (by rfl) (by kernel_rfl) (by kernel_rfl) (by kernel_rfl) (fun _ _ _ h => h) hS (fun wx hwx => by exact exec_build_any _ _ rfl _ rfl (rcL zeroR).toArray (by kernel_rfl)) ?_
    try simp only [Act.put, List.setIfInBounds_toArray, List.set_cons_zero, List.set_cons_succ]
    refine rtake 6 rfl (by rfl) (by kernel_rfl) (by kernel_rfl) (by kernel_rfl) (fun _ _ _ h => h) hS (fun wx hwx => by go_simp; try with_reducible rfl) ?_
    try simp only [Act.put, List.setIfInBounds_toArray, List.set_cons_zero, List.set_cons_succ]
    refine rtake 7 rfl (by rfl) (by kernel_rfl) (by kernel_rfl) (by kernel_rfl) (fun _ _ _ h => h) hS (fun wx hwx => by go_simp; try with_reducible rfl) ?_
    try simp only [Act.put, List.setIfInBounds_toArray, List.set_cons_zero, List.set_cons_succ]
    refine rtake 8 rfl (by rfl) (by kernel_rfl) (by kernel_rfl) (by kernel_rfl) (fun _ _ _ h => h) hS (fun wx hwx => by go_simp; try with_reducible rfl) ?_
    try simp only [Act.put, List.setIfInBounds_toArray, List.set_cons_zero, List.set_cons_succ]
    refine rcall 9 rfl (by kernel_rfl) (by rfl) (fun K' hK => ?_)
    refine recT.op_store_mid (op := ⟨none, .store _ _ _, _, _, _, _⟩) _ _ rfl g (3 + m * 17) zeroR _ _ (by rfl) (by rfl) hT (by rw [tabL_length H5S.out]; show 3 + m * 17 + 17 ≤ 89; omega) ?_
    obtain ⟨W4, hW4, hT4, ho4⟩ := rec_stored1 hT ho H5S.out m (by omega) zeroR
    rw [← hW4]
    have hS4 := hT4.cell 88 _ (tab_count (by rw [List.length_set]; exact H5S.out))
    refine hK.out _ _ hS4 ?_
    clear hK K' hW4 hT ho hS4 hS
    try simp only [Act.put, List.setIfInBounds_toArray, List.set_cons_zero, List.set_cons_succ]
    refine wpAnyH_done (by kernel_rfl) ?_ _
    go_wp2_with fail
    go_end0
    have hm := hn2.out
    have hle : (l.eraseIdx p).length = m := by rw [List.length_eraseIdx, if_pos HP.out]; omega
    exact ⟨rfl, tab_shut (rs := ss.set m zeroR) (by rw [List.length_set]; exact H5S.out) (by dsimp only; omega) (by dsimp only; rw [hle]; exact hT4) (by dsimp only; rw [hle]; exact hfin.out) hw.out (fun r hr => HIN.out r (List.mem_of_mem_eraseIdx hr)), ho4⟩

set_option maxRecDepth 100000 in
set_option maxHeartbeats 8000000 in
theorem ownAgeF : CAgeF TabR := by
  intro g t now w FA
  obtain ⟨own, port, win, l⟩ := t
  have hw1 : 1 ≤ win ∧ win ≤ 1048576 := by obtain ⟨rs, -, -, -, -, hw, -⟩ := tab_open FA; exact hw
  have HIN := hid (show ∀ r ∈ l, RcIn r by obtain ⟨rs, -, -, -, -, -, hin⟩ := tab_open FA; exact hin)
  have hl5 : l.length ≤ 5 := by obtain ⟨rs, -, hn, -⟩ := tab_open FA; exact hn
  have c88 : w.cell? ⟨g, 88, none⟩ = some (.int .i64 (l.length : Int)) := by obtain ⟨rs, h5, -, hB, -⟩ := tab_open FA; exact hB.cell 88 _ (tab_count h5)
  have hwn : wrap64 ((l.length : Int) - 1) = (l.length : Int) - 1 := by unfold wrap64; omega
  obtain ⟨f, hf⟩ : ∃ f : Rc → Bool, f = fun r => withinB win r.la now := ⟨_, rfl⟩
  have HF := hid fun (r : Rc) (h : 0 ≤ r.la) => (show decide (now < r.la + win) = f r by rw [hf]; exact (within_of h hw1.1).symm)
  have hW := hid hw1
  have H5 := hid hl5
  have hT : ageT ⟨own, port, win, l⟩ now = ⟨own, port, win, l.filter f⟩ := by rw [hf]; rfl
  rw [hT]
  clear hT hf hl5 hw1
  go_enter Try.func11, Try.ntmps11
  go_wp2_with fail
  go_loopw [4] (fun i wr => ∃ (k : Nat) (z : Int), k ≤ l.length ∧ i = .int .i64 z ∧ Hid (z = (k : Int) - 1) ∧ FAt TabR wr g ⟨own, port, win, l.take k ++ (l.drop k).filter f⟩ ∧ Only g w wr) (fun i _ => (intOf i + 1).toNat)
  case atStart => exact ⟨l.length, _, Nat.le_refl _, rfl, (by first | exact hid hwn | exact hid rfl), by simpa using FA, Only.refl _ _⟩
  case round =>
    obtain ⟨k, z, hk, rfl, hz, FA, ho⟩ := hrel
    cases k with
    | zero =>
      obtain rfl : z = -1 := by have := hz.out; omega
      clear hz c88 hwn
      go_wp2_with fail
      go_end0
      exact ⟨rfl, by simpa using FA, ho⟩
    | succ j =>
      obtain rfl : z = (j : Int) := by have := hz.out; omega
      have hjl : j < l.length := by omega
      obtain ⟨L, hL⟩ : ∃ L : List Rc, L = l.take (j + 1) ++ (l.drop (j + 1)).filter f := ⟨_, rfl⟩
      rw [← hL] at FA
      have hjL : j < L.length := by rw [hL, List.length_append, List.length_take]; omega
      have hjr : L[j] = l[j] := by
        have h1 : L[j]? = l[j]? := by rw [hL, List.getElem?_append_left (by rw [List.length_take]; omega), List.getElem?_take_of_lt (by omega)]
        rw [List.getElem?_eq_getElem hjL, List.getElem?_eq_getElem hjl] at h1
        exact Option.some.inj h1
      obtain ⟨s1, s2⟩ := ageT_step (f := f) j hjl
      rw [← hL] at s1 s2
      have hrin := HIN.out _ (List.getElem_mem hjl)
      have hfr := HF.out l[j] hrin.2.2.1
      obtain ⟨rs, h5, hn, hB, ht, -, -⟩ := tab_open FA
      have hrs : rs[j] = l[j] := (take_at ht j hjL (by dsimp only at hn; omega)).trans hjr
      have hR := hB.rec h5 j (by dsimp only at hn; omega)
      rw [hrs] at hR
      have hla := hrin.2.2
      generalize l[j] = r at *
      have cla : wr.cell? ⟨g, 3 + j * 17 + 16, none⟩ = some (.int .i64 r.la) := hR 16 _ rfl
      have hj0 : (0 : Int) ≤ (j : Int) := by omega
      have hj5 : (j : Int) < 5 := by dsimp only at hn; omega
      have hwj : wrap64 ((j : Int) - 1) = (j : Int) - 1 := by unfold wrap64; omega
      have hLJ := hid hjL
      have hKJ := hid hk
      have S1 := hid s1
      have S2 := hid s2
      have hla2 := hid (show -1 ≤ r.la ∧ r.la ≤ 1099511627776 from ⟨by omega, hla.2⟩)
      have hBB := hid hB
      clear hz c88 hwn hL hjr hrin h5 hn hB ht hrs hR hla hjl hjL hk s1 s2
      dsimp only at hBB
      go_wp2_with fail
      refine (within_any g own port win rs L.length r.la now wr hBB.out hW.out hla2.out).mono ?_
      rintro e w' ⟨rfl, rfl⟩
      rw [hfr]
      clear hfr cla hBB
      cases hfb : f r
      · have hS := S2.out hfb
        clear S1 S2 hfb
        go_wp2_with fail
        refine (remove_any g ⟨own, port, win, L⟩ j _ FA hLJ.out).mono ?_
        rintro e w2 ⟨rfl, FA2, o2⟩
        dsimp only at FA2
        rw [hS] at FA2
        replace ho := ho.trans o2
        clear o2 FA hS
        go_wp2_with fail
        go_roundw
        case rel => exact ⟨j, _, by have := hKJ.out; omega, rfl, hid rfl, FA2, ho⟩
        case measure => (simp [intOf] <;> omega)
      · have hS := S1.out hfb
        clear S1 S2 hfb
        rw [hS] at FA
        clear hS
        go_wp2_with fail
        go_roundw
        case rel => exact ⟨j, _, by have := hKJ.out; omega, rfl, hid rfl, FA, ho⟩
        case measure => (simp [intOf] <;> omega)
end Go.Proofs.Ytdkgcggpgombaaa
