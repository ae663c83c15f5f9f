/- The program's own segment: Swap, Clear; the walks of chapter 25's laws (gen_lnkown.py). -/
import Derived.Test.YtehnhkjeijbliaaLnkOwn3
import Derived.Test.YtehnhkjeijbliaaChain
import Derived.BigQuiet
import Derived.Lib.SliceRun
namespace Go.Proofs.Ytehnhkjeijbliaa
open Go.RowKit Go.Proofs
set_option maxRecDepth 50000
set_option linter.unusedVariables false
set_option linter.unusedSimpArgs false

variable {rs : List (Int × ByteArray)} {c l : Int} {w w' : World} {g : Nat} {s : Lz}
theorem swap_row {q : List (Int × ByteArray)} {I : Nat} (ht : rs.take q.length = q) (hI : I + 1 < q.length) (a b : Int × ByteArray) : ((rs.set I a).set (I + 1) b).take ((q.set I a).set (I + 1) b).length = (q.set I a).set (I + 1) b := by
  rw [List.length_set, List.length_set, List.take_set, List.take_set, ht]
theorem zero_cells {α : Type} (K : RowK α) (z : α) (n : Nat) : (Builtin.zeroCells (K.enc z).toArray n).toList = K.cells (List.replicate n z) := by
  have hp := K.pos
  apply List.ext_getElem?
  intro i
  have hl : (Builtin.zeroCells (K.enc z).toArray n).toList.length = n * K.n := by simp [Builtin.zeroCells, K.len]
  by_cases h : i < n * K.n
  · have hq : i / K.n < n := by rw [Nat.div_lt_iff_lt_mul hp]; exact h
    have hr : i % K.n < K.n := Nat.mod_lt _ hp
    have e : i = i / K.n * K.n + i % K.n := by rw [Nat.mul_comm]; exact (Nat.div_add_mod i K.n).symm
    have h2 : (K.cells (List.replicate n z))[i]? = (K.enc z)[i % K.n]? := by
      have h3 := K.cells_get (List.replicate n z) (i / K.n) (i % K.n) (by simpa using hq) hr
      rw [← e, List.getElem_replicate] at h3
      exact h3
    rw [h2]
    have hr2 : i % K.n < (K.enc z).length := by rw [K.len]; exact hr
    rw [List.getElem?_eq_getElem hr2, List.getElem?_eq_getElem (by rw [hl]; exact h)]
    simp [Builtin.zeroCells, K.len]
    rw [List.getElem?_eq_getElem hr2]
    rfl
  · rw [List.getElem?_eq_none (by rw [hl]; omega), List.getElem?_eq_none (by rw [K.cells_length, List.length_replicate]; omega)]
/-- 'clear(s)' of elements of any number of cells. -/
theorem RowK.run_clear {α : Type} {K : RowK α} (w : World) (t e ty : TypeId) (z : Value) (z0 : α) (ht : Try.prog.underlying t = some (.slice e)) (hv : ∀ w, (zeroValue e).run Try.prog w = .ok z w) (hz : z.cells = (K.enc z0).toArray) (b o n c : Nat)
    (hc : w.there b o (K.cells (List.replicate n z0)).length) : (Builtin.clear_ #[t] ty #[.slice (some ⟨b, o, none⟩) n c]).run Try.prog w = .ok (.tuple #[]) (w.setCells b o (K.cells (List.replicate n z0))) := by
  cases n with
  | zero =>
    show _ = Result.ok _ w
    simp [Builtin.clear_, run_underlying ht]
  | succ m =>
    have hst := run_storeCells_cells (P := Try.prog) b o (K.cells (List.replicate (m + 1) z0)) 0 w (fun j hj => by simpa using (hc j hj).1) (fun j hj => by simpa using (hc j hj).2) (K.cells_one _)
    simp only [Nat.add_zero] at hst
    simp [Builtin.clear_, run_underlying ht, hv, hz, zero_cells K z0 (m + 1), hst]
theorem zero_frame (w : World) : (zeroValue 38).run Try.prog w = .ok (.agg (frK.enc (0, ⟨#[]⟩)).toArray) w := by kernel_rfl

set_option maxRecDepth 100000 in
set_option maxHeartbeats 8000000 in
theorem ownSwpL : CSwpL obL := by
  rintro g F s i w ⟨FA, rfl⟩ hin hi
  rcases isL_split s i with hno | ⟨I, rfl, hI⟩
  · have hE : swapB s i = false := by unfold swapB; rw [hno]; rfl
    have hL : swapL s i = s := by unfold swapL; rw [hE]; rfl
    rw [hE, hL]
    have HA := hid FA
    clear hE hL
    go_enter Try.func13, Try.ntmps13
    go_wp2_with fail
    refine (since_no FA i hno).mono ?_
    rintro e w1 ⟨rfl, rfl⟩
    clear FA
    go_wp2_with fail
    go_ret
    exact ⟨rfl, obL_goes HA.out (Only.refl _ _)⟩
  · have hS := hid (since_yes FA hin.1 I hI)
    obtain ⟨n, hn⟩ : ∃ n, s.q.length - I = n := ⟨_, rfl⟩
    rw [hn] at hS
    by_cases hI1 : I + 1 < s.q.length
    · have hc : ((I : Int) + 1) = ((I + 1 : Nat) : Int) := by omega
      have hE : swapB s (I : Int) = true := by unfold swapB; rw [isL_yes hI, hc, isL_yes hI1]; rfl
      have hL : swapL s (I : Int) = { s with q := (s.q.set I s.q[I + 1]).set (I + 1) s.q[I] } := by
        unfold swapL
        rw [hE, if_pos rfl, atL_get hI, hc, atL_get hI1, Int.toNat_natCast, Int.toNat_natCast]
      rw [hE, hL]
      obtain ⟨rs, h64, hB, ht⟩ := lk_open FA
      have hR0 : I < rs.length := by have := hin.1; omega
      have hR1 : I + 1 < rs.length := by have := hin.1; omega
      rw [← lk_same ht I hI hR0, ← lk_same ht (I + 1) hI1 hR1]
      have HT := hid (swap_row ht hI1 rs[I + 1] rs[I])
      have HQ := hid (show ((s.q.set I rs[I + 1]).set (I + 1) rs[I]).length = s.q.length by rw [List.length_set, List.length_set])
      obtain ⟨X, hX⟩ : ∃ X, rs[I] = X := ⟨_, rfl⟩
      obtain ⟨Y, hY⟩ : ∃ Y, rs[I + 1] = Y := ⟨_, rfl⟩
      have HR0' := hid fun (wx : World) (h : Below w.heap.size w wx) => lk_range h64 (hB.below h) I hR0
      have HR1' := hid fun (wx : World) (h : Below w.heap.size w wx) => lk_range h64 (hB.below h) (I + 1) hR1
      rw [hX] at HR0' HT HQ ⊢
      rw [hY] at HR1' HT HQ ⊢
      have HB := hid hB
      have H64 := hid h64
      have hI64 : I + 1 < 64 := by omega
      have hnI : (2 : Int) ≤ (n : Int) := by omega
      have hnI2 : (1 : Int) < (n : Int) := by omega
      have hnI3 : (0 : Int) < (n : Int) := by omega
      have hnN : 1 < n := by omega
      have hnN2 : 0 < n := by omega
      clear hE hL FA hin hI hI1 hc hB h64 ht hR0 hR1 hX hY hi hn
      go_enter Try.func13, Try.ntmps13
      go_wp2_with fail
      refine hS.out.mono ?_
      rintro e w1 ⟨rfl, bq⟩
      go_upto_region 4 with fail
      refine rwhole (by kernel_rfl) ?_
      have hbd := bnext bq (Below.drew (Below.refl w1.heap.size w1))
      generalize w1.drew = WD at *
      have hHeld : True := trivial
      have HR0 := HR0'.out _ hbd
      have HR1 := HR1'.out _ hbd
      rw [Nat.add_mul] at HR1
      have hBm := HB.out.below hbd
      have hth1 : I * 2 + frK.n ≤ (lkL rs (s.q.length : Int) s.lost).length := by rw [lk_len H64.out]; show _ + 2 ≤ _; omega
      have hBn := lk_put H64.out I (by omega) Y hBm
      have hth2 : I * 2 + 2 + frK.n ≤ (lkL (rs.set I Y) (s.q.length : Int) s.lost).length := by rw [lk_len (by rw [List.length_set]; exact H64.out)]; show _ + 2 ≤ _; omega
      have hBz := lk_put (by rw [List.length_set]; exact H64.out) (I + 1) hI64 X hBn
      rw [Nat.add_mul] at hBz
      have HA := hid (lk_shut (s := { s with q := (s.q.set I Y).set (I + 1) X }) (by rw [List.length_set, List.length_set]; exact H64.out) (by rw [HQ.out]; exact hBz) HT.out)
      have HO := hid (((Only.of_below g hbd).cells (frK.enc Y) (I * 2)).cells (frK.enc X) (I * 2 + 2))
      clear hBz hbd bq HR0' HR1'
      refine rtake 0 rfl (by rfl) (by kernel_rfl) (by kernel_rfl) (by kernel_rfl) (fun _ _ _ h => h) hHeld (fun wx hwx => by go_simp; try with_reducible rfl) ?_
      try simp only [Act.put, List.setIfInBounds_toArray, List.set_cons_zero, List.set_cons_succ]
      refine rtake 1 rfl (by rfl) (by kernel_rfl) (by kernel_rfl) (by kernel_rfl) (fun _ _ _ h => h) hHeld (fun wx hwx => by go_simp; try with_reducible rfl) ?_
      try simp only [Act.put, List.setIfInBounds_toArray, List.set_cons_zero, List.set_cons_succ]
      refine rtake 2 rfl (by rfl) (by kernel_rfl) (by kernel_rfl) (by kernel_rfl) (fun _ _ _ h => h) hHeld (fun wx hwx => by go_simp; try with_reducible rfl) ?_
      try simp only [Act.put, List.setIfInBounds_toArray, List.set_cons_zero, List.set_cons_succ]
      refine rtake 3 rfl (by rfl) (by kernel_rfl) (by kernel_rfl) (by kernel_rfl) (fun _ _ _ h => h) hHeld (fun wx hwx => by go_simp; try with_reducible rfl) ?_
      try simp only [Act.put, List.setIfInBounds_toArray, List.set_cons_zero, List.set_cons_succ]
      refine rtake 5 rfl (by rfl) (by kernel_rfl) (by kernel_rfl) (by kernel_rfl) (fun _ _ _ h => h) hHeld (fun wx hwx => by go_simp; try with_reducible rfl) ?_
      try simp only [Act.put, List.setIfInBounds_toArray, List.set_cons_zero, List.set_cons_succ]
      refine rtake 6 rfl (by rfl) (by kernel_rfl) (by kernel_rfl) (by kernel_rfl) (fun _ _ _ h => h) hHeld (fun wx hwx => by go_simp; try with_reducible rfl) ?_
      try simp only [Act.put, List.setIfInBounds_toArray, List.set_cons_zero, List.set_cons_succ]
      refine rtwo 4 7 rfl rfl (by kernel_rfl) (by rfl) (by rfl) (fun K hK => ?_) (fun K hK => ?_)
      · refine frT.op_load2 _ rfl g (I * 2 + 2) (by rfl) Y HR1 ?_
        refine hK.out _ _ trivial ?_
        clear hK K
        try simp only [Act.put, List.setIfInBounds_toArray, List.set_cons_zero, List.set_cons_succ]
        refine rcall 7 rfl (by kernel_rfl) (by rfl) (fun K hK => ?_)
        refine frT.op_load2 _ rfl g (I * 2) (by rfl) X HR0 ?_
        refine hK.out _ _ trivial ?_
        clear hK K
        try simp only [Act.put, List.setIfInBounds_toArray, List.set_cons_zero, List.set_cons_succ]
        refine rchain _ 8 4 rfl rfl (by kernel_rfl) (by kernel_rfl) ?_
        go_wp2_with (first | (guard_target =~ wpList _ _ _ (⟨none, _, _, _, _, _⟩ :: _) _ _; refine frT.store_mid (op := ⟨none, .store _ _ _, _, _, _, _⟩) (by rfl) _ _ (by rfl) g (I * 2) Y _ _ (by rfl) (by rfl) hBm hth1 ?_) | (guard_target =~ wpList _ _ _ (⟨none, _, _, _, _, _⟩ :: _) _ _; refine frT.store_mid (op := ⟨none, .store _ _ _, _, _, _, _⟩) (by rfl) _ _ (by rfl) g (I * 2 + 2) X _ _ (by rfl) (by rfl) hBn hth2 ?_))
        generalize (WD.setCells g (I * 2) (frK.enc Y)).setCells g (I * 2 + 2) (frK.enc X) = W2 at *
        go_ret
        exact ⟨rfl, obL_goes HA.out HO.out⟩
      · refine frT.op_load2 _ rfl g (I * 2) (by rfl) X HR0 ?_
        refine hK.out _ _ trivial ?_
        clear hK K
        try simp only [Act.put, List.setIfInBounds_toArray, List.set_cons_zero, List.set_cons_succ]
        refine rcall 4 rfl (by kernel_rfl) (by rfl) (fun K hK => ?_)
        refine frT.op_load2 _ rfl g (I * 2 + 2) (by rfl) Y HR1 ?_
        refine hK.out _ _ trivial ?_
        clear hK K
        try simp only [Act.put, List.setIfInBounds_toArray, List.set_cons_zero, List.set_cons_succ]
        refine rchain _ 8 4 rfl rfl (by kernel_rfl) (by kernel_rfl) ?_
        go_wp2_with (first | (guard_target =~ wpList _ _ _ (⟨none, _, _, _, _, _⟩ :: _) _ _; refine frT.store_mid (op := ⟨none, .store _ _ _, _, _, _, _⟩) (by rfl) _ _ (by rfl) g (I * 2) Y _ _ (by rfl) (by rfl) hBm hth1 ?_) | (guard_target =~ wpList _ _ _ (⟨none, _, _, _, _, _⟩ :: _) _ _; refine frT.store_mid (op := ⟨none, .store _ _ _, _, _, _, _⟩) (by rfl) _ _ (by rfl) g (I * 2 + 2) X _ _ (by rfl) (by rfl) hBn hth2 ?_))
        generalize (WD.setCells g (I * 2) (frK.enc Y)).setCells g (I * 2 + 2) (frK.enc X) = W2 at *
        go_ret
        exact ⟨rfl, obL_goes HA.out HO.out⟩
    · have hE : swapB s (I : Int) = false := (swap_last (by omega)).1
      have hL : swapL s (I : Int) = s := by unfold swapL; rw [hE]; rfl
      rw [hE, hL]
      have HA := hid FA
      obtain rfl : n = 1 := by omega
      clear hE hL FA hn
      go_enter Try.func13, Try.ntmps13
      go_wp2_with fail
      refine hS.out.mono ?_
      rintro e w1 ⟨rfl, bq⟩
      go_wp2_with fail
      go_ret
      exact ⟨rfl, obL_goes (HA.out.below bq) (Only.of_below g bq)⟩

set_option maxRecDepth 100000 in
set_option maxHeartbeats 8000000 in
theorem ownClrL : CClrL obL := by
  rintro g F s w ⟨FA, rfl⟩ hin
  obtain ⟨rs, h64, hB, ht⟩ := lk_open FA
  obtain ⟨n, hn⟩ : ∃ n, s.q.length = n := ⟨_, rfl⟩
  rw [hn] at hB
  have hn0 : (0 : Int) ≤ (n : Int) := by omega
  have hn1 : (n : Int) ≤ 64 := by have := hin.1; omega
  have hn2 : n ≤ 64 := by omega
  have HB := hid hB
  have H64 := hid h64
  clear FA hin hB h64 ht hn
  go_enter Try.func16, Try.ntmps16
  go_upto_region 0 with fail
  refine wp_region_held_drew (S := fun w' => w'.cell? ⟨g, 128, none⟩ = some (.int .i64 (n : Int))) (by kernel_rfl) ((HB.out.below (Below.drew (Below.refl _ _))).cell 128 _ (lk_count H64.out)) ?_
  intro hS
  have hb := Below.drew (Below.refl w.heap.size w)
  generalize w.drew = WD at *
  refine rtake 0 rfl (by rfl) (by kernel_rfl) (by kernel_rfl) (by kernel_rfl) (fun _ _ _ h => h) hS (fun wx hwx => by go_simp; try with_reducible rfl) ?_
  try simp only [Act.put, List.setIfInBounds_toArray, List.set_cons_zero, List.set_cons_succ]
  refine rtake 1 rfl (by rfl) (by kernel_rfl) (by kernel_rfl) (by kernel_rfl) (fun _ _ _ h => h) hS (fun wx hwx => by go_simp; try with_reducible rfl) ?_
  try simp only [Act.put, List.setIfInBounds_toArray, List.set_cons_zero, List.set_cons_succ]
  refine rtake 2 rfl (by rfl) (by kernel_rfl) (by kernel_rfl) (by kernel_rfl) (fun _ _ _ h => h) hS (fun wx hwx => by go_simp; try with_reducible rfl) ?_
  try simp only [Act.put, List.setIfInBounds_toArray, List.set_cons_zero, List.set_cons_succ]
  refine rtake 3 rfl (by rfl) (by kernel_rfl) (by kernel_rfl) (by kernel_rfl) (fun _ _ _ h => h) hS (fun wx hwx => by go_simp; try with_reducible rfl) ?_
  try simp only [Act.put, List.setIfInBounds_toArray, List.set_cons_zero, List.set_cons_succ]
  refine rtake 4 rfl (by rfl) (by kernel_rfl) (by kernel_rfl) (by kernel_rfl) (fun _ _ _ h => h) hS (fun wx hwx => by go_simp; try with_reducible rfl) ?_
  try simp only [Act.put, List.setIfInBounds_toArray, List.set_cons_zero, List.set_cons_succ]
  refine rtake 5 rfl (by rfl) (by kernel_rfl) (by kernel_rfl) (by kernel_rfl) (fun _ _ _ h => h) hS (fun wx hwx => by go_simp; try with_reducible rfl) ?_
  try simp only [Act.put, List.setIfInBounds_toArray, List.set_cons_zero, List.set_cons_succ]
  refine rtake 6 rfl (by rfl) (by kernel_rfl) (by kernel_rfl) (by kernel_rfl) (fun _ _ _ h => h) hS (fun wx hwx => by go_simp; try with_reducible rfl) ?_
  try simp only [Act.put, List.setIfInBounds_toArray, List.set_cons_zero, List.set_cons_succ]
  refine rtake 7 rfl (by rfl) (by kernel_rfl) (by kernel_rfl) (by kernel_rfl) (fun _ _ _ h => h) hS (fun wx hwx => by go_simp; try with_reducible rfl) ?_
  try simp only [Act.put, List.setIfInBounds_toArray, List.set_cons_zero, List.set_cons_succ]
  have hB1 := HB.out.below hb
  have hth : WD.there g 0 (frK.cells (List.replicate n ((0 : Int), (⟨#[]⟩ : ByteArray)))).length := hB1.there _ _ (by rw [lk_len H64.out, frK_len, List.length_replicate]; omega)
  have hB2 := lk_cells H64.out 0 (List.replicate n (0, ⟨#[]⟩)) (by rw [List.length_replicate]; omega) hB1
  have HL := hid (lk_cells_len H64.out 0 (List.replicate n (0, ⟨#[]⟩)) (by rw [List.length_replicate]; omega))
  have HO := hid ((Only.of_below g hb).cells (frK.cells (List.replicate n ((0 : Int), (⟨#[]⟩ : ByteArray)))) 0)
  rw [Nat.zero_mul] at hB2
  have hcl : ∀ ty, (Builtin.clear_ #[44] ty #[.slice (some ⟨g, 0, none⟩) n 64]).run Try.prog WD = .ok (.tuple #[]) (WD.setCells g 0 (frK.cells (List.replicate n ((0 : Int), (⟨#[]⟩ : ByteArray))))) := fun ty => RowK.run_clear (K := frK) WD _ _ ty _ _ Try.underlying44 zero_frame rfl g 0 n 64 hth
  have hS2 := hB2.cell 128 _ (lk_count HL.out)
  refine rcall 8 rfl (by kernel_rfl) (by rfl) (fun K' hK => ?_)
  go_simp
  generalize WD.setCells g 0 (frK.cells (List.replicate n ((0 : Int), (⟨#[]⟩ : ByteArray)))) = W2 at *
  refine hK.out _ _ hS2 ?_
  clear hK K' hS hB1 hb hcl hth
  generalize rs.take 0 ++ List.replicate n ((0 : Int), (⟨#[]⟩ : ByteArray)) ++ rs.drop (0 + (List.replicate n ((0 : Int), (⟨#[]⟩ : ByteArray))).length) = rs2 at *
  try simp only [Act.put, List.setIfInBounds_toArray, List.set_cons_zero, List.set_cons_succ]
  refine wpAnyH_done (by kernel_rfl) ?_ _
  have hf := hB2.free 128
  have hB3 := hB2.set 128 (.int .i64 0)
  rw [lk_setc HL.out] at hB3
  have HA : Hid (ObAt 41 LkR (W2.setCell ⟨g, 128, none⟩ (.int .i64 0)) g (clearL s)) := hid (lk_shut (s := clearL s) HL.out hB3 rfl)
  have HO2 := hid (HO.out.cell 128 (.int .i64 0))
  clear hB2 hB3
  go_wp2_with fail
  go_end0
  exact ⟨rfl, obL_goes HA.out HO2.out⟩

theorem linkTwices_walk (b : ByteArray) (h0 : b.size ≤ maxLen) (g0 : b.data.toList.length ≤ reachBytes) (n : Int) (h1 : (Lit.int .i64 n).wf = true) (w : World) :
    Calls Try.prog 5 #[.string b, .int .i64 n] w fun e w' => e = .returned (.bool true) ∧ Below w.heap.size w w' :=
  linkTwices_from ownNewL ownPutL ownTwcL ownLenL ownLostL ownLookL ownClrL b n w

theorem linkSwaps_walk {w : World} (v : Value) (l : List ByteArray) (hR : strK.Reads w v l) (hz : l.length * 16 ≤ 140737488351232) (i : Int) (h1 : (Lit.int .i64 i).wf = true) :
    Calls Try.prog 4 #[v, .int .i64 i] w fun e w' => e = .returned (.bool true) ∧ Below w.heap.size w w' :=
  linkSwaps_from ownNewL ownPutL ownTwcL ownLenL ownLostL ownLookL ownSwpL v l i w hR

theorem linkOrder_walk (n : Int) (h0 : (Lit.int .i64 n).wf = true) (w : World) :
    Calls Try.prog 3 #[.int .i64 n] w fun e w' => e = .returned (.bool true) ∧ Below w.heap.size w w' :=
  linkOrder_from ownNewL ownPutL ownTwcL ownLenL ownLostL ownTakeL n w

end Go.Proofs.Ytehnhkjeijbliaa
