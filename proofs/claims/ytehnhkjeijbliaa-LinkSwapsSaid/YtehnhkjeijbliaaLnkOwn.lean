/- The program's own segment (gen_lnkown.py). -/
import Derived.Test.YtehnhkjeijbliaaLnkLaws2
import Derived.Test.YtehnhkjeijbliaaLnkLaws3
import Derived.Test.YtehnhkjeijbliaaObj
import Derived.Test.YtehnhkjeijbliaaCopyK
import Derived.Test.YtehnhkjeijbliaaBuild
import Derived.Test.YtehnhkjeijbliaaHop4
import Derived.BigQuiet
import Derived.Lib.UnsafeStr
import Derived.Lib.BufferWrite
namespace Go.Proofs.Ytehnhkjeijbliaa
open Go.RowKit Go.Proofs
set_option maxRecDepth 50000
set_option linter.unusedVariables false
set_option linter.unusedSimpArgs false

def frK : RowK (Int × ByteArray) := ⟨fun f => [.int .i64 f.1, .string f.2], 2, by decide, fun _ => rfl, by
  intro a u hu
  rcases List.mem_cons.1 hu with rfl | hu
  · rfl
  · rw [List.mem_singleton.1 hu]; rfl⟩
theorem frT : StrT frK 38 := ⟨⟨_, Try.underlying38, rfl⟩, by kernel_rfl⟩
def lkL (rs : List (Int × ByteArray)) (c l : Int) : List Value := frK.cells rs ++ [.int .i64 c, .int .i64 l]
variable {rs : List (Int × ByteArray)} {c l : Int} {w w' : World} {g : Nat} {s : Lz}
theorem frK_len (rs : List (Int × ByteArray)) : (frK.cells rs).length = rs.length * 2 := frK.cells_length rs
theorem lk_len (h : rs.length = 64) : (lkL rs c l).length = 130 := by unfold lkL; rw [List.length_append, frK_len, h]; rfl
theorem lk_at (h : rs.length = 64) (i j : Nat) (hi : i < rs.length) (hj : j < 2) : (lkL rs c l)[i * 2 + j]? = (frK.enc rs[i])[j]? := by
  unfold lkL
  rw [List.getElem?_append_left (by rw [frK_len]; omega)]
  exact frK.cells_get rs i j hi hj
theorem lk_count (h : rs.length = 64) : (lkL rs c l)[128]? = some (.int .i64 c) := by
  unfold lkL
  rw [List.getElem?_append_right (by rw [frK_len]; omega), frK_len, h]
  rfl
theorem lk_lost (h : rs.length = 64) : (lkL rs c l)[129]? = some (.int .i64 l) := by
  unfold lkL
  rw [List.getElem?_append_right (by rw [frK_len]; omega), frK_len, h]
  rfl
theorem lk_setc (h : rs.length = 64) (m : Int) : (lkL rs c l).set 128 (.int .i64 m) = lkL rs m l := by
  unfold lkL
  rw [List.set_append_right _ _ (by rw [frK_len]; omega), frK_len, h]
  rfl
theorem lk_setl (h : rs.length = 64) (m : Int) : (lkL rs c l).set 129 (.int .i64 m) = lkL rs c m := by
  unfold lkL
  rw [List.set_append_right _ _ (by rw [frK_len]; omega), frK_len, h]
  rfl
theorem lk_cells (h : rs.length = 64) (o : Nat) (ys : List (Int × ByteArray)) (ho : o + ys.length ≤ 64) (hB : Box w g (lkL rs c l) 41) :
    Box (w.setCells g (o * 2) (frK.cells ys)) g (lkL (rs.take o ++ ys ++ rs.drop (o + ys.length)) c l) 41 := by
  have e : lkL rs c l = frK.cells (rs.take o) ++ frK.cells ((rs.drop o).take ys.length) ++ (frK.cells (rs.drop (o + ys.length)) ++ [.int .i64 c, .int .i64 l]) := by
    unfold lkL
    rw [← List.append_assoc, ← frK.cells_append, ← frK.cells_append, List.append_assoc (rs.take o), ← List.drop_drop, List.take_append_drop, List.take_append_drop]
  rw [e] at hB
  have h1 := Box.mid (frK.cells ys) _ _ _ w (by rw [frK_len, frK_len, List.length_take, List.length_drop]; omega) hB
  rw [frK_len, List.length_take, show min o rs.length = o by omega] at h1
  have e2 : lkL (rs.take o ++ ys ++ rs.drop (o + ys.length)) c l = frK.cells (rs.take o) ++ frK.cells ys ++ (frK.cells (rs.drop (o + ys.length)) ++ [.int .i64 c, .int .i64 l]) := by
    unfold lkL
    rw [frK.cells_append, frK.cells_append, List.append_assoc]
  rw [e2]
  exact h1
theorem lk_cells_len (h : rs.length = 64) (o : Nat) (ys : List (Int × ByteArray)) (ho : o + ys.length ≤ 64) : (rs.take o ++ ys ++ rs.drop (o + ys.length)).length = 64 := by
  rw [List.length_append, List.length_append, List.length_take, List.length_drop]
  omega
theorem lk_put (h : rs.length = 64) (o : Nat) (ho : o < 64) (y : Int × ByteArray) (hB : Box w g (lkL rs c l) 41) : Box (w.setCells g (o * 2) (frK.enc y)) g (lkL (rs.set o y) c l) 41 := by
  have h1 := lk_cells h o [y] (show o + 1 ≤ 64 by omega) hB
  have e : frK.cells [y] = frK.enc y := by simp [RowK.cells]
  rw [e] at h1
  have e2 : rs.set o y = rs.take o ++ [y] ++ rs.drop (o + [y].length) := by
    rw [List.set_eq_take_append_cons_drop, if_pos (by omega)]
    simp
  rw [e2]
  exact h1
def LkR (xs : List Value) (s : Lz) : Prop := ∃ rs : List (Int × ByteArray), rs.length = 64 ∧ xs = lkL rs s.q.length s.lost ∧ rs.take s.q.length = s.q
theorem lk_open (h : ObAt 41 LkR w g s) : ∃ rs : List (Int × ByteArray), rs.length = 64 ∧ Box w g (lkL rs s.q.length s.lost) 41 ∧ rs.take s.q.length = s.q := by
  obtain ⟨xs, hB, rs, h1, rfl, h2⟩ := h
  exact ⟨rs, h1, hB, h2⟩
theorem lk_shut (h1 : rs.length = 64) (hB : Box w g (lkL rs s.q.length s.lost) 41) (h2 : rs.take s.q.length = s.q) : ObAt 41 LkR w g s := ⟨_, hB, rs, h1, rfl, h2⟩
theorem lk_same (h : rs.take s.q.length = s.q) (k : Nat) (hk : k < s.q.length) (hk2 : k < rs.length) : rs[k] = s.q[k] := by
  have e := congrArg (fun x : List (Int × ByteArray) => x[k]?) h
  rw [List.getElem?_take_of_lt hk, List.getElem?_eq_getElem hk2, List.getElem?_eq_getElem hk] at e
  exact Option.some.inj e
/-- The program's own segment as an object: one block. -/
def obL : Ob Lz where
  rel := fun w g F s => ObAt 41 LkR w g s ∧ F = fun k => k = g
  lt := by
    rintro w g F s ⟨h, rfl⟩ k rfl
    exact h.lt
  keep := by
    rintro w w' g F s ⟨⟨xs, hB, hR⟩, rfl⟩ e
    exact ⟨⟨xs, by unfold Box; rw [e g rfl]; exact hB, hR⟩, rfl⟩
theorem obL_goes {s' : Lz} (h : ObAt 41 LkR w' g s') (ho : Only g w w') : obL.Goes w (fun k => k = g) w' g s' := ⟨_, fun k hk => .inl hk, ⟨h, rfl⟩, Chg.of_only ho rfl⟩

set_option maxRecDepth 100000 in
set_option maxHeartbeats 8000000 in
theorem sclone_any (s : ByteArray) (w : World) (hlim : s.size ≤ 140737488355328) : Calls Try.prog 20 #[.string s] w fun e w' => e = .returned (.string s) ∧ Below w.heap.size w w' := by
  by_cases h0 : s.size = 0
  · have hs : s = ⟨#[]⟩ := by
      apply ByteArray.ext
      exact Array.eq_empty_of_size_eq_zero h0
    subst hs
    go_enter Try.func20, Try.ntmps20
    go_wp2
    go_ret
    exact ⟨rfl, Below.refl _ _⟩
  · have hco : Try.prog.cellsOf 5 = 1 := by kernel_rfl
    obtain ⟨M, hM⟩ : ∃ M, M = (cellsOf (List.replicate s.size 0)).toArray := ⟨_, rfl⟩
    have hMs : M.size = s.size := by rw [hM]; simp [cellsOf]
    have hmk : ∀ W : World, (Instr.makeSlice 27 (.int .i64 (s.size : Int)) (.int .i64 (s.size : Int))).run Try.prog W = .ok (.slice (some ⟨W.heap.size, 0, none⟩) s.size s.size) (W.alloc (.cells M 5)) := fun W => by
      rw [hM]
      exact make_bytes s.size (by omega) _ _ rfl rfl W
    clear hM
    have hcp := Go.Lib.run_copy_row_string (P := Try.prog) (w.alloc (.cells M 5)) 27 9 3 5 w.heap.size 0 s.size s.size s M 5 Try.underlying27 (by kernel_rfl) (heap_alloc_new w _) (Nat.le_refl _) (by omega)
    obtain ⟨Y, hY⟩ : ∃ Y, Y = (M.toList.take 0 ++ Go.Lib.byteCells s.data.toList ++ M.toList.drop (0 + s.size)).toArray := ⟨_, rfl⟩
    rw [← hY] at hcp
    have hYl : Y.toList = Go.Lib.byteCells s.data.toList := by
      rw [hY, List.toList_toArray, List.take_zero, List.nil_append, List.drop_of_length_le (by rw [Array.length_toList]; omega), List.append_nil]
    have hYs : Y.size = s.size := by rw [← Array.length_toList, hYl, Go.Lib.byteCells_length, ← Go.Lib.size_eq]
    have hgY : ((w.alloc (.cells M 5)).setRow w.heap.size Y).heap[w.heap.size]? = some (.cells Y 5 (0, 0)) := setRow_heap _ _ M _ 5 (0, 0) (heap_alloc_new w _)
    have hne : s.data.toList ≠ [] := fun e => h0 (by rw [Go.Lib.size_eq, e]; rfl)
    have hUS := Go.Lib.run_unsafeString_row (P := Try.prog) ((w.alloc (.cells M 5)).setRow w.heap.size Y) 46 3 9 5 Try.underlying46 hco w.heap.size Y.size (by unfold World.shape?; rw [hgY]) s.data.toList hne (by rw [← Go.Lib.size_eq]; omega) (by rw [← Go.Lib.size_eq]; omega)
      (fun j x hx => Go.Lib.cells_of_row hgY Y.size j _ (by rw [List.take_of_length_le (by rw [Array.length_toList]; exact Nat.le_refl _), hYl]; simp [Go.Lib.byteCells, hx]))
    rw [← Go.Lib.size_eq] at hUS
    clear hY
    go_enter Try.func20, Try.ntmps20
    go_wp2
    go_ret
    have hb1 : Below w.heap.size w (w.alloc (.cells M 5)) := (Below.refl _ w).alloc (Nat.le_refl _) _
    have hb2 : Below w.heap.size (w.alloc (.cells M 5)) ((w.alloc (.cells M 5)).setRow w.heap.size Y) := ⟨rfl, rfl, rfl, by simp, fun k hk => setRow_other _ _ _ _ (by omega)⟩
    exact ⟨rfl, Go.Lib.below_freeze (hb1.trans hb2) (p := ⟨w.heap.size, 0, none⟩) (Nat.le_refl _) _⟩
set_option maxRecDepth 100000 in
set_option maxHeartbeats 8000000 in
theorem clone_str (s : ByteArray) (w : World) (hlim : s.size ≤ 140737488355328) : Calls Try.prog 17 #[.string s] w fun e w' => e = .returned (.string s) ∧ Below w.heap.size w w' := by
  go_enter Try.func17, Try.ntmps17
  go_wp2_with fail
  refine (sclone_any s w hlim).mono ?_
  rintro e w1 ⟨rfl, bq⟩
  go_wp2_with fail
  go_ret
  exact ⟨rfl, bq⟩

set_option maxRecDepth 100000 in
set_option maxHeartbeats 8000000 in
theorem ownNewL : CNewL obL := by
  intro w
  have e : ObAt 41 LkR (w.alloc (Obj.cells (lkL (List.replicate 64 (0, ⟨#[]⟩)) 0 0).toArray 41)) w.heap.size nilL := lk_shut (s := nilL) (rs := List.replicate 64 (0, ⟨#[]⟩)) (by simp) (Box.new w _ _) rfl
  have b := bnew w (Obj.cells (lkL (List.replicate 64 (0, ⟨#[]⟩)) 0 0).toArray 41)
  go_enter Try.func6, Try.ntmps6
  go_wp2_with (guard_target =~ wpList _ _ _ (⟨some 1, _, _, _, _, _⟩ :: _) _ _; refine wpList_build_any (op := ⟨some 1, .build _ _, _, _, _, _⟩) (by rfl) _ _ (by rfl) _ (by rfl) (lkL (List.replicate 64 (0, ⟨#[]⟩)) 0 0).toArray (by kernel_rfl) ?_)
  go_ret
  exact ⟨_, rfl, ⟨_, fun k hk => Nat.le_of_eq (Eq.symm hk), e, rfl⟩, b⟩

set_option maxRecDepth 100000 in
set_option maxHeartbeats 8000000 in
theorem ownLenL : CLenL obL := by
  rintro g F s w ⟨FA, rfl⟩ hin
  obtain ⟨rs, h64, hB, -⟩ := lk_open FA
  have hc := hB.cell 128 _ (lk_count h64)
  clear hB h64 FA hin
  go_enter Try.func9, Try.ntmps9
  go_wp2_with fail
  go_ret
  exact ⟨rfl, Below.refl _ _⟩

set_option maxRecDepth 100000 in
set_option maxHeartbeats 8000000 in
theorem ownLostL : CLostL obL := by
  rintro g F s w ⟨FA, rfl⟩ hin
  obtain ⟨rs, h64, hB, -⟩ := lk_open FA
  have hc := hB.cell 129 _ (lk_lost h64)
  clear hB h64 FA hin
  go_enter Try.func10, Try.ntmps10
  go_wp2_with fail
  go_ret
  exact ⟨rfl, Below.refl _ _⟩

set_option maxRecDepth 100000 in
set_option maxHeartbeats 8000000 in
theorem since_no (FA : ObAt 41 LkR w g s) (i : Int) (hno : isL s i = false) : Calls Try.prog 19 #[.pointer (some ⟨g, 0, none⟩), .int .i64 i] w fun e w' => e = .returned (.slice none 0 0) ∧ w = w' := by
  obtain ⟨rs, h64, hB, -⟩ := lk_open FA
  have hc := hB.cell 128 _ (lk_count h64)
  have h := of_decide_eq_false hno
  obtain ⟨c, hcc⟩ : ∃ c : Int, (s.q.length : Int) = c := ⟨_, rfl⟩
  rw [hcc] at h hc
  clear hcc hB h64 FA hno
  by_cases h0 : i < 0
  · go_enter Try.func19, Try.ntmps19
    go_wp2_with fail
    go_ret
    exact ⟨rfl, rfl⟩
  · have h1 : c ≤ i := by omega
    have h2 : 0 ≤ i := by omega
    clear h
    go_enter Try.func19, Try.ntmps19
    go_wp2_with fail
    go_ret
    exact ⟨rfl, rfl⟩

set_option maxRecDepth 100000 in
set_option maxHeartbeats 8000000 in
theorem since_yes (FA : ObAt 41 LkR w g s) (hin : s.q.length ≤ 64) (i : Nat) (hi : i < s.q.length) : Calls Try.prog 19 #[.pointer (some ⟨g, 0, none⟩), .int .i64 (i : Int)] w fun e w' => e = .returned (.slice (some ⟨g, i * 2, none⟩) (s.q.length - i) (s.q.length - i)) ∧ Below w.heap.size w w' := by
  obtain ⟨rs, h64, hB, -⟩ := lk_open FA
  obtain ⟨c, hcc⟩ : ∃ c : Nat, s.q.length = c := ⟨_, rfl⟩
  rw [hcc] at hi hin hB ⊢
  have hc := hB.cell 128 _ (lk_count h64)
  have hlt : (i : Int) < (c : Int) := by omega
  have h0 : (0 : Int) ≤ (i : Int) := by omega
  have h1 : (i : Int) ≤ (c : Int) := by omega
  have h2 : (c : Int) ≤ 64 := by omega
  have h3 : (0 : Int) ≤ (c : Int) := by omega
  have h4 : (i : Int) ≤ 64 := by omega
  have HB := hid hB
  have HL := hid h64
  clear hcc FA hB h64
  go_enter Try.func19, Try.ntmps19
  go_upto_region 3 with fail
  refine wp_region_held_drew (S := fun w' => w'.cell? ⟨g, 128, none⟩ = some (.int .i64 (c : Int))) (by kernel_rfl) ((HB.out.below (Below.drew (Below.refl _ _))).cell 128 _ (lk_count HL.out)) ?_
  intro hS
  have hb := Below.drew (Below.refl w.heap.size w)
  generalize w.drew = WD at *
  refine rtake 0 rfl (by rfl) (by kernel_rfl) (by kernel_rfl) (by kernel_rfl) (fun _ _ _ h => h) hS (fun wx hwx => by go_simp; try with_reducible rfl) ?_
  try simp only [Act.put, List.setIfInBounds_toArray, List.set_cons_zero, List.set_cons_succ]
  refine rtake 1 rfl (by rfl) (by kernel_rfl) (by kernel_rfl) (by kernel_rfl) (fun _ _ _ h => h) hS (fun wx hwx => by go_simp; try with_reducible rfl) ?_
  try simp only [Act.put, List.setIfInBounds_toArray, List.set_cons_zero, List.set_cons_succ]
  refine rtake 2 rfl (by rfl) (by kernel_rfl) (by kernel_rfl) (by kernel_rfl) (fun _ _ _ h => h) hS (fun wx hwx => by go_simp; try with_reducible rfl) ?_
  try simp only [Act.put, List.setIfInBounds_toArray, List.set_cons_zero, List.set_cons_succ]
  refine rtake 3 rfl (by rfl) (by kernel_rfl) (by kernel_rfl) (by kernel_rfl) (fun _ _ _ h => h) hS (fun wx hwx => by go_simp; try with_reducible rfl) ?_
  try simp only [Act.put, List.setIfInBounds_toArray, List.set_cons_zero, List.set_cons_succ]
  refine rtake 4 rfl (by rfl) (by kernel_rfl) (by kernel_rfl) (by kernel_rfl) (fun _ _ _ h => h) hS (fun wx hwx => by go_simp; try with_reducible rfl) ?_
  try simp only [Act.put, List.setIfInBounds_toArray, List.set_cons_zero, List.set_cons_succ]
  refine rtake 5 rfl (by rfl) (by kernel_rfl) (by kernel_rfl) (by kernel_rfl) (fun _ _ _ h => h) hS (fun wx hwx => by go_simp; try with_reducible rfl) ?_
  try simp only [Act.put, List.setIfInBounds_toArray, List.set_cons_zero, List.set_cons_succ]
  refine rtake 6 rfl (by rfl) (by kernel_rfl) (by kernel_rfl) (by kernel_rfl) (fun _ _ _ h => h) hS (fun wx hwx => by go_simp; try with_reducible rfl) ?_
  try simp only [Act.put, List.setIfInBounds_toArray, List.set_cons_zero, List.set_cons_succ]
  refine rtake 7 rfl (by rfl) (by kernel_rfl) (by kernel_rfl) (by kernel_rfl) (fun _ _ _ h => h) hS (fun wx hwx => by go_simp; try with_reducible rfl) ?_
  try simp only [Act.put, List.setIfInBounds_toArray, List.set_cons_zero, List.set_cons_succ]
  refine rtake 8 rfl (by rfl) (by kernel_rfl) (by kernel_rfl) (by kernel_rfl) (fun _ _ _ h => h) hS (fun wx hwx => by go_simp; try with_reducible rfl) ?_
  try simp only [Act.put, List.setIfInBounds_toArray, List.set_cons_zero, List.set_cons_succ]
  refine rtake 9 rfl (by rfl) (by kernel_rfl) (by kernel_rfl) (by kernel_rfl) (fun _ _ _ h => h) hS (fun wx hwx => by go_simp; try with_reducible rfl) ?_
  try simp only [Act.put, List.setIfInBounds_toArray, List.set_cons_zero, List.set_cons_succ]
  refine rtake 10 rfl (by rfl) (by kernel_rfl) (by kernel_rfl) (by kernel_rfl) (fun _ _ _ h => h) hS (fun wx hwx => by go_simp; try with_reducible rfl) ?_
  try simp only [Act.put, List.setIfInBounds_toArray, List.set_cons_zero, List.set_cons_succ]
  refine rtake 11 rfl (by rfl) (by kernel_rfl) (by kernel_rfl) (by kernel_rfl) (fun _ _ _ h => h) hS (fun wx hwx => by go_simp; try with_reducible rfl) ?_
  try simp only [Act.put, List.setIfInBounds_toArray, List.set_cons_zero, List.set_cons_succ]
  refine rtake 12 rfl (by rfl) (by kernel_rfl) (by kernel_rfl) (by kernel_rfl) (fun _ _ _ h => h) hS (fun wx hwx => by go_simp; try with_reducible rfl) ?_
  try simp only [Act.put, List.setIfInBounds_toArray, List.set_cons_zero, List.set_cons_succ]
  refine rtake 13 rfl (by rfl) (by kernel_rfl) (by kernel_rfl) (by kernel_rfl) (fun _ _ _ h => h) hS (fun wx hwx => by go_simp; try with_reducible rfl) ?_
  try simp only [Act.put, List.setIfInBounds_toArray, List.set_cons_zero, List.set_cons_succ]
  refine wpAnyH_done (by kernel_rfl) ?_ _
  go_wp2_with fail
  go_ret
  exact ⟨rfl, hb⟩

end Go.Proofs.Ytehnhkjeijbliaa
