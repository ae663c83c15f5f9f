/- carillonlaw22: Lengths, from contracts (gen_mgmlaws.py). -/
import Derived.Test.YtgjffmhlehcoiaaMgmLaws1
namespace Go.Proofs.Ytgjffmhlehcoiaa
open Go.RowKit Go.Proofs
set_option maxRecDepth 50000
set_option linter.unusedVariables false
set_option linter.unusedSimpArgs false

def a17K : RowK (List Int) := ⟨fun l => (List.range 17).map fun i => .int .i64 (l.getD i 0), 17, by decide, fun _ => rfl, by
  intro a v hv
  obtain ⟨i, -, rfl⟩ := List.mem_map.1 hv
  rfl⟩
theorem a17T : StrT a17K 47 := ⟨⟨_, Try.underlying47, rfl⟩, by kernel_rfl⟩
theorem a17_cell (l : List Int) (k : Nat) (hk : k < 17) : (a17K.enc l)[k]? = some (.int .i64 (l.getD k 0)) := by
  show ((List.range 17).map fun i => Value.int .i64 (l.getD i 0))[k]? = _
  rw [List.getElem?_map, List.getElem?_range hk]
  rfl
def idsL : List Int := [0, 8192, 8193, 8194, 8195, 8196, 8197, 8198, 8199, 8200, 8201, 8202, 8203, 8204, 8207, 8208, 0]
def sizL : List Int := [0, 20, 18, 32, 4, 26, 2, 2, 2, 2, 2, 2, 2, 2, 10, 2, 0]
theorem putS_len (x n : Int) (h : 0 ≤ n) (h8 : n ≤ 8) : (putS x n).length = n.toNat := putS_length x n h h8
theorem twoS_len (x : Int) : (twoS x).length = 2 := by unfold twoS; rw [List.length_append, putS_len _ _ (by decide) (by decide), putS_len _ _ (by decide) (by decide)]; rfl
theorem len_all (v : Vw) : ∀ k, k < 17 → ∃ s, ansP v 0 (idsL.getD k 0) [] = ⟨s, v.c, 0⟩ ∧ (s.length : Int) = sizL.getD k 0 := by
  intro k hk
  have h (id n : Int) (h1 : sizeI id = n) (h2 : 0 ≤ n) (h3 : cmdB id = false) (h4 : ((toldS v id).length : Int) = n) : ∃ s, ansP v 0 id [] = ⟨s, v.c, 0⟩ ∧ (s.length : Int) = n := by
    refine ⟨toldS v id, ?_, h4⟩
    unfold ansP
    rw [h1, h3, if_neg (by omega), if_neg (fun h => h.1 rfl), if_neg (fun h => absurd h.1 (by decide)), if_neg (fun h => by cases h.2), if_pos rfl]
  have q : ∀ c a v : Int, (qualS c a v).length = 4 := fun c a v => by unfold qualS; rw [List.length_append, List.length_append, putS_len _ _ (by decide) (by decide), putS_len _ _ (by decide) (by decide), putS_len _ _ (by decide) (by decide)]; rfl
  have pt : ∀ c p : Int, (portS c p).length = 10 := fun c p => by unfold portS; rw [List.length_append, putN_length, putS_len _ _ (by decide) (by decide)]; rfl
  have s1 : ∀ x : Int, (putS x 1).length = 1 := fun x => putS_len _ _ (by decide) (by decide)
  have s2 : ∀ x : Int, (putS x 2).length = 2 := fun x => putS_len _ _ (by decide) (by decide)
  have s8 : ∀ x : Int, (putS x 8).length = 8 := fun x => putS_len _ _ (by decide) (by decide)
  have s6 : ∀ x : Int, (putS x 6).length = 6 := fun x => putS_len _ _ (by decide) (by decide)
  have s4 : ∀ x : Int, (putS x 4).length = 4 := fun x => putS_len _ _ (by decide) (by decide)
  rcases (by omega : k = 0 ∨ k = 1 ∨ k = 2 ∨ k = 3 ∨ k = 4 ∨ k = 5 ∨ k = 6 ∨ k = 7 ∨ k = 8 ∨ k = 9 ∨ k = 10 ∨ k = 11 ∨ k = 12 ∨ k = 13 ∨ k = 14 ∨ k = 15 ∨ k = 16) with rfl | rfl | rfl | rfl | rfl | rfl | rfl | rfl | rfl | rfl | rfl | rfl | rfl | rfl | rfl | rfl | rfl
  · exact h 0 0 (by decide) (by decide) (by decide) rfl
  · exact h 8192 20 (by decide) (by decide) (by decide) (by show ((defS v.c).length : Int) = 20; unfold defS; simp only [List.length_append, s1, s2, q, putN_length]; rfl)
  · exact h 8193 18 (by decide) (by decide) (by decide) (by show ((curS v).length : Int) = 18; unfold curS; simp only [List.length_append, s2, s8]; rfl)
  · exact h 8194 32 (by decide) (by decide) (by decide) (by show ((parS v.p).length : Int) = 32; unfold parS; simp only [List.length_append, s1, q, pt, putN_length]; rfl)
  · exact h 8195 4 (by decide) (by decide) (by decide) (by show ((timS v.p).length : Int) = 4; unfold timS; simp only [List.length_append, s1, s2]; rfl)
  · exact h 8196 26 (by decide) (by decide) (by decide) (by show ((porS v).length : Int) = 26; unfold porS; simp only [List.length_append, s1, s8, pt]; rfl)
  · exact h 8197 2 (by decide) (by decide) (by decide) (by show ((twoS _).length : Int) = 2; rw [twoS_len]; rfl)
  · exact h 8198 2 (by decide) (by decide) (by decide) (by show ((twoS _).length : Int) = 2; rw [twoS_len]; rfl)
  · exact h 8199 2 (by decide) (by decide) (by decide) (by show ((twoS _).length : Int) = 2; rw [twoS_len]; rfl)
  · exact h 8200 2 (by decide) (by decide) (by decide) (by show ((twoS _).length : Int) = 2; rw [twoS_len]; rfl)
  · exact h 8201 2 (by decide) (by decide) (by decide) (by show ((twoS _).length : Int) = 2; rw [twoS_len]; rfl)
  · exact h 8202 2 (by decide) (by decide) (by decide) (by show ((twoS _).length : Int) = 2; rw [twoS_len]; rfl)
  · exact h 8203 2 (by decide) (by decide) (by decide) (by show ((twoS _).length : Int) = 2; rw [twoS_len]; rfl)
  · exact h 8204 2 (by decide) (by decide) (by decide) (by show ((twoS _).length : Int) = 2; rw [twoS_len]; rfl)
  · exact h 8207 10 (by decide) (by decide) (by decide) (by show ((stampS v.nw).length : Int) = 10; unfold stampS; simp only [List.length_append, s6, s4]; rfl)
  · exact h 8208 2 (by decide) (by decide) (by decide) (by show ((twoS _).length : Int) = 2; rw [twoS_len]; rfl)
  · exact h 0 0 (by decide) (by decide) (by decide) rfl

set_option maxRecDepth 100000 in
set_option maxHeartbeats 8000000 in
theorem mgmtLengths_from (HDef : CDefM) (HAns : CAnsM) (HKno : CKnoM) (HPer : CPerM) (c : Cf) (hc : ((0 ≤ c.cl ∧ c.cl < 18446744073709551616) ∧ ∀ x ∈ [c.po, c.dm, c.p1, c.p2, c.qc, c.qa, c.qv, c.la, c.ls, c.ld, c.tm, c.md, c.kp, c.ki, c.st, c.ut, c.fl, c.og], -9223372036854775808 ≤ x ∧ x ≤ 9223372036854775807)) (p : Pa) (hp : PaIn p) (off : Int) (hoff : (Lit.int .i64 off).wf = true) (nw : Int) (hnw : (Lit.int .i64 nw).wf = true) (w : World) :
    Calls Try.prog 5 #[.agg (cfL c).toArray, .agg (paL p).toArray, .int .i64 off, .int .i64 nw] w fun e w' => e = .returned (.bool true) ∧ Below w.heap.size w w' := by
  have z0 := bnew w (Obj.cells (cfK.enc c).toArray 28)
  have C := Box.new w (cfK.enc c) 28
  have z1 := bnew (w.alloc (Obj.cells (cfK.enc c).toArray 28)) (Obj.cells (paK.enc p).toArray 39)
  have P := Box.new (w.alloc (Obj.cells (cfK.enc c).toArray 28)) (paK.enc p) 39
  replace C := C.below z1
  have hb := z0
  replace hb := bnext hb z1
  clear z0
  clear z1
  have s1 : (w.alloc (Obj.cells (cfK.enc c).toArray 28)).heap.size = w.heap.size + 1 := by simp
  rw [s1] at P
  go_enter Try.func5, Try.ntmps5
  go_upto_region 1 with fail
  change Code.wp Try.prog _ _ _ ((w.alloc (Obj.cells (cfK.enc c).toArray 28)).alloc (Obj.cells (paK.enc p).toArray 39))
  generalize ((w.alloc (Obj.cells (cfK.enc c).toArray 28)).alloc (Obj.cells (paK.enc p).toArray 39)) = W at *
  clear s1
  generalize hG : w.heap.size = G at *
  rw [← hG] at hb
  have l_C : w.heap.size ≤ G := by omega
  have l_P : w.heap.size ≤ G + 1 := by omega
  have n_C_P : G ≠ G + 1 := by omega
  go_wp2_with (guard_target =~ wpList _ _ _ (⟨some 15, _, _, _, _, _⟩ :: _) _ _; refine cfT.load (op := ⟨some 15, .load _ _, _, _, _, _⟩) (by rfl) _ (by rfl) G 0 (by rfl) (c) C.rangeK ?_)
  refine (refChk10_any c W).mono ?_
  rintro e w1 ⟨rfl, bq⟩
  replace C := C.below bq
  replace P := P.below bq
  replace hb := bnext hb bq
  clear bq
  by_cases hok : CfOk c
  case neg =>
    have hE : checkE c = 15 := if_neg hok
    rw [hE]
    clear hE hok
    go_wp2_with fail
    refine (awake22_from HDef HAns HKno HPer _).mono ?_
    rintro e wz ⟨rfl, bz⟩
    go_wp2_with fail
    go_ret
    exact ⟨rfl, bnext hb bz⟩
  have hE : checkE c = 0 := if_pos hok
  rw [hE]
  clear hE
  obtain ⟨v, hv⟩ : ∃ v : Vw, v = ⟨c, p, off, 0, nw, 0, 0, 0⟩ := ⟨_, rfl⟩
  have hin : VwIn v := by rw [hv]; exact ⟨hok, hc.1, hp, i64_of_wf hoff, i640, i64_of_wf hnw, i640, i640, i640⟩
  have hvc : v.c = c := by rw [hv]
  have HAL := hid fun (k : Nat) (hk : k < 17) => len_all v k hk
  have HANS := hid fun (id : Int) (wx : World) => HAns v 0 id [] wx hin (by decide)
  have HV := hid hv
  clear hin hok hv
  go_upto_region 3 with fail
  have hn1 := bnew w1 (Obj.cells (a17K.enc ([])).toArray 47)
  have hM0 := Box.new w1 (a17K.enc ([])) 47
  go_upto_region 4 with (first | (guard_target =~ wpList _ _ _ (⟨some 19, _, _, _, _, _⟩ :: _) _ _; refine wpList_build_any (op := ⟨some 19, .build _ _, _, _, _, _⟩) (by rfl) _ _ (by rfl) _ (by rfl) ((a17K.enc idsL)).toArray (by kernel_rfl) ?_) | (guard_target =~ wpList _ _ _ (⟨none, _, _, _, _, _⟩ :: _) _ _; refine a17T.store (op := ⟨none, .store _ _ _, _, _, _, _⟩) (by rfl) _ _ (by rfl) (w1.heap.size) (idsL) ([]) _ (by rfl) (by rfl) hM0 ?_))
  have n_C_I : G ≠ w1.heap.size := by have h1 := C.lt; have h2 := Nat.le_refl w1.heap.size; omega
  have n_P_I : G + 1 ≠ w1.heap.size := by have h1 := P.lt; have h2 := Nat.le_refl w1.heap.size; omega
  have l_I : w.heap.size ≤ w1.heap.size := Nat.le_trans hb.size (Nat.le_refl w1.heap.size)
  have I := hM0.rowK (a17K.enc (idsL))
  replace C := (C.below hn1).rowK_other (k := w1.heap.size) n_C_I (a17K.enc (idsL)).toArray
  replace P := (P.below hn1).rowK_other (k := w1.heap.size) n_P_I (a17K.enc (idsL)).toArray
  have hW := below_setRow hn1 (Nat.le_refl _) (a17K.enc (idsL)).toArray
  replace hb := bnext hb hW
  change Code.wp Try.prog _ _ _ ((w1.alloc (Obj.cells (a17K.enc ([])).toArray 47)).setRow w1.heap.size (a17K.enc (idsL)).toArray)
  generalize (w1.alloc (Obj.cells (a17K.enc ([])).toArray 47)).setRow w1.heap.size (a17K.enc (idsL)).toArray = w2 at *
  clear hn1 hM0 hW
  generalize w1.heap.size = gi at *
  have hn1 := bnew w2 (Obj.cells (a17K.enc ([])).toArray 47)
  have hM0 := Box.new w2 (a17K.enc ([])) 47
  go_upto_region 5 with (first | (guard_target =~ wpList _ _ _ (⟨some 20, _, _, _, _, _⟩ :: _) _ _; refine wpList_build_any (op := ⟨some 20, .build _ _, _, _, _, _⟩) (by rfl) _ _ (by rfl) _ (by rfl) ((a17K.enc sizL)).toArray (by kernel_rfl) ?_) | (guard_target =~ wpList _ _ _ (⟨none, _, _, _, _, _⟩ :: _) _ _; refine a17T.store (op := ⟨none, .store _ _ _, _, _, _, _⟩) (by rfl) _ _ (by rfl) (w2.heap.size) (sizL) ([]) _ (by rfl) (by rfl) hM0 ?_))
  have n_C_Z : G ≠ w2.heap.size := by have h1 := C.lt; have h2 := Nat.le_refl w2.heap.size; omega
  have n_P_Z : G + 1 ≠ w2.heap.size := by have h1 := P.lt; have h2 := Nat.le_refl w2.heap.size; omega
  have n_I_Z : gi ≠ w2.heap.size := by have h1 := I.lt; have h2 := Nat.le_refl w2.heap.size; omega
  have l_Z : w.heap.size ≤ w2.heap.size := Nat.le_trans hb.size (Nat.le_refl w2.heap.size)
  have Z := hM0.rowK (a17K.enc (sizL))
  replace C := (C.below hn1).rowK_other (k := w2.heap.size) n_C_Z (a17K.enc (sizL)).toArray
  replace P := (P.below hn1).rowK_other (k := w2.heap.size) n_P_Z (a17K.enc (sizL)).toArray
  replace I := (I.below hn1).rowK_other (k := w2.heap.size) n_I_Z (a17K.enc (sizL)).toArray
  have hW := below_setRow hn1 (Nat.le_refl _) (a17K.enc (sizL)).toArray
  replace hb := bnext hb hW
  change Code.wp Try.prog _ _ _ ((w2.alloc (Obj.cells (a17K.enc ([])).toArray 47)).setRow w2.heap.size (a17K.enc (sizL)).toArray)
  generalize (w2.alloc (Obj.cells (a17K.enc ([])).toArray 47)).setRow w2.heap.size (a17K.enc (sizL)).toArray = w3 at *
  clear hn1 hM0 hW
  generalize w2.heap.size = gz at *
  have sm := same_cf c
  go_wp2_with fail
  go_loopw [11, 12, 13, 14] (fun iv _ _ _ wr => ∃ k : Nat, k ≤ 17 ∧ iv = .int .i64 (k : Int) ∧ Box wr G (cfK.enc c) 28 ∧ Box wr (G + 1) (paK.enc p) 39 ∧ Box wr gi (a17K.enc idsL) 47 ∧ Box wr gz (a17K.enc sizL) 47 ∧ Below w.heap.size w wr) (fun iv _ _ _ _ => 17 - (intOf iv).toNat)
  case atStart => exact ⟨0, by decide, rfl, C, P, I, Z, hb⟩
  case round =>
    clear C P I Z hb
    obtain ⟨k, hk, rfl, C, P, I, Z, hb⟩ := hrel
    by_cases hlt : k < 17
    · have hkI : (k : Int) < 17 := by omega
      obtain ⟨s, hAk, hsl⟩ := HAL.out k hlt
      have HAk := HANS.out (idsL.getD k 0)
      rw [hAk, hvc] at HAk
      have cI : ∀ wx, Below wr.heap.size wr wx → wx.cell? ⟨gi, k, none⟩ = some (.int .i64 (idsL.getD k 0)) := fun wx hx => (I.below hx).cell k _ (a17_cell idsL k hlt)
      have cZ : ∀ wx, Below wr.heap.size wr wx → wx.cell? ⟨gz, k, none⟩ = some (.int .i64 (s.length : Int)) := fun wx hx => ((Z.below hx).cell k _ (a17_cell sizL k hlt)).trans (by rw [hsl])
      have CI := hid cI
      have CZ := hid cZ
      have HAK := hid HAk
      have hlt2 := hid hlt
      generalize idsL.getD k 0 = id at *
      clear cI cZ hAk hsl HAk hlt
      go_upto_region 8 with fail
      refine wp_region_held_drew (S := fun w' => Below wr.drew.heap.size wr.drew w') (by kernel_rfl) (Below.refl _ _) ?_
      intro hHeld
      have bd := Below.drew (Below.refl wr.heap.size wr)
      replace C := C.below bd
      replace P := P.below bd
      replace I := I.below bd
      replace Z := Z.below bd
      generalize wr.drew = wd at *
      refine rtake 0 rfl (by rfl) (by kernel_rfl) (by kernel_rfl) (by kernel_rfl) (fun _ _ _ h => h) hHeld (fun wx hwx => cfT.exec _ rfl G 0 rfl c (C.below hwx).rangeK) ?_
      try simp only [Act.put, List.setIfInBounds_toArray, List.set_cons_zero, List.set_cons_succ]
      refine rtake 1 rfl (by rfl) (by kernel_rfl) (by kernel_rfl) (by kernel_rfl) (fun _ _ _ h => h) hHeld (fun wx hwx => paT.exec _ rfl (G + 1) 0 rfl p (P.below hwx).rangeK) ?_
      try simp only [Act.put, List.setIfInBounds_toArray, List.set_cons_zero, List.set_cons_succ]
      refine rtake 2 rfl (by rfl) (by kernel_rfl) (by kernel_rfl) (by kernel_rfl) (fun _ _ _ h => h) hHeld (fun wx hwx => by go_simp; try with_reducible rfl) ?_
      try simp only [Act.put, List.setIfInBounds_toArray, List.set_cons_zero, List.set_cons_succ]
      refine rtake 3 rfl (by rfl) (by kernel_rfl) (by kernel_rfl) (by kernel_rfl) (fun _ _ _ h => h) hHeld (fun wx hwx => by go_simp; try with_reducible rfl) ?_
      try simp only [Act.put, List.setIfInBounds_toArray, List.set_cons_zero, List.set_cons_succ]
      refine rtake 4 rfl (by rfl) (by kernel_rfl) (by kernel_rfl) (by kernel_rfl) (fun _ _ _ h => h) hHeld (fun wx hwx => exec_build_any _ _ rfl _ rfl (vwL v).toArray (by rw [HV.out]; kernel_rfl)) ?_
      try simp only [Act.put, List.setIfInBounds_toArray, List.set_cons_zero, List.set_cons_succ]
      refine rtake 5 rfl (by rfl) (by kernel_rfl) (by kernel_rfl) (by kernel_rfl) (fun _ _ _ h => h) hHeld (fun wx hwx => by go_simp; try with_reducible rfl) ?_
      try simp only [Act.put, List.setIfInBounds_toArray, List.set_cons_zero, List.set_cons_succ]
      refine rtake 6 rfl (by rfl) (by kernel_rfl) (by kernel_rfl) (by kernel_rfl) (fun _ _ _ h => h) hHeld (fun wx hwx => by go_simp; try with_reducible rfl) ?_
      try simp only [Act.put, List.setIfInBounds_toArray, List.set_cons_zero, List.set_cons_succ]
      refine rtake 7 rfl (by rfl) (by kernel_rfl) (by kernel_rfl) (by kernel_rfl) (fun _ _ _ h => h) hHeld (fun wx hwx => by have hci := CI.out wx (bnext bd hwx); go_simp; try with_reducible rfl) ?_
      try simp only [Act.put, List.setIfInBounds_toArray, List.set_cons_zero, List.set_cons_succ]
      refine rtwo 8 13 rfl rfl (by kernel_rfl) (by rfl) (by rfl) (fun K hK => ?_) (fun K hK => ?_)
      · go_simp
        refine (HAK.out wd).mono ?_
        rintro e w8 ⟨rfl, bq⟩
        refine hK.out _ _ bq ?_
        clear hK K
        refine wpAnyH_mono (S' := fun w' => Below w8.heap.size w8 w') (fun w' h => bnext bq h) _ _ _ _ ?_
        replace C := C.below bq
        replace P := P.below bq
        replace I := I.below bq
        replace Z := Z.below bq
        replace bd := bnext bd bq
        clear hHeld bq
        have hHeld := Below.refl w8.heap.size w8
        try simp only [Act.put, List.setIfInBounds_toArray, List.set_cons_zero, List.set_cons_succ]
        refine rtake 9 rfl (by rfl) (by kernel_rfl) (by kernel_rfl) (by kernel_rfl) (fun _ _ _ h => h) hHeld (fun wx hwx => by go_simp; try with_reducible rfl) ?_
        try simp only [Act.put, List.setIfInBounds_toArray, List.set_cons_zero, List.set_cons_succ]
        refine rtake 10 rfl (by rfl) (by kernel_rfl) (by kernel_rfl) (by kernel_rfl) (fun _ _ _ h => h) hHeld (fun wx hwx => by go_simp; try with_reducible rfl) ?_
        try simp only [Act.put, List.setIfInBounds_toArray, List.set_cons_zero, List.set_cons_succ]
        refine rtake 11 rfl (by rfl) (by kernel_rfl) (by kernel_rfl) (by kernel_rfl) (fun _ _ _ h => h) hHeld (fun wx hwx => by go_simp; try with_reducible rfl) ?_
        try simp only [Act.put, List.setIfInBounds_toArray, List.set_cons_zero, List.set_cons_succ]
        refine rtake 12 rfl (by rfl) (by kernel_rfl) (by kernel_rfl) (by kernel_rfl) (fun _ _ _ h => h) hHeld (fun wx hwx => by go_simp; try with_reducible rfl) ?_
        try simp only [Act.put, List.setIfInBounds_toArray, List.set_cons_zero, List.set_cons_succ]
        refine rcall 13 rfl (by kernel_rfl) (by rfl) (fun K hK => ?_)
        go_simp
        change K _ (w8.alloc (Obj.cells (cfK.enc zeroC).toArray 28))
        have D0 := Box.new w8 (cfK.enc zeroC) 28
        have hN := bnew w8 (Obj.cells (cfK.enc zeroC).toArray 28)
        refine hK.out _ _ hN ?_
        clear hK K hHeld
        have hHeld := hN
        obtain ⟨W9, hW9⟩ : ∃ W, w8.alloc (Obj.cells (cfK.enc zeroC).toArray 28) = W := ⟨_, rfl⟩
        obtain ⟨gd, hgd⟩ : ∃ g, w8.heap.size = g := ⟨_, rfl⟩
        have hlg : gd ≤ gd := Nat.le_refl _
        rw [hW9] at D0 hHeld hN
        rw [hW9]
        rw [hgd] at D0 hHeld
        rw [hgd]
        try simp only [Act.put, List.setIfInBounds_toArray, List.set_cons_zero, List.set_cons_succ]
        refine rtake 14 rfl (by rfl) (by kernel_rfl) (by kernel_rfl) (by kernel_rfl) (fun _ _ _ h => h) hHeld (fun wx hwx => by go_simp; try with_reducible rfl) ?_
        try simp only [Act.put, List.setIfInBounds_toArray, List.set_cons_zero, List.set_cons_succ]
        refine rcall 15 rfl (by kernel_rfl) (by rfl) (fun K hK => ?_)
        refine cfT.op_store (op := ⟨none, .store _ _ _, _, _, _, _⟩) _ _ rfl gd c zeroC _ rfl rfl D0 ?_
        have D := D0.rowK (cfK.enc c)
        have hHd := below_setRow hHeld hlg (cfK.enc c).toArray
        refine hK.out _ _ hHd ?_
        clear hK K hHeld
        have hHeld := hHd
        try simp only [Act.put, List.setIfInBounds_toArray, List.set_cons_zero, List.set_cons_succ]
        refine rtake 16 rfl (by rfl) (by kernel_rfl) (by kernel_rfl) (by kernel_rfl) (fun _ _ _ h => h) hHeld (fun wx hwx => by go_simp; try with_reducible rfl) ?_
        try simp only [Act.put, List.setIfInBounds_toArray, List.set_cons_zero, List.set_cons_succ]
        refine wpAnyH_done (by kernel_rfl) ?_ _
        replace hHd : Below w8.heap.size w8 (W9.setRow gd (cfK.enc c).toArray) := by rw [hgd]; exact hHd
        replace C := C.below hHd
        replace P := P.below hHd
        replace I := I.below hHd
        replace Z := Z.below hHd
        have cz := CZ.out _ (bnext bd hHd)
        have hbF := bnext hb (bnext bd hHd)
        generalize W9.setRow gd (cfK.enc c).toArray = wf at *
        go_wp2_with (first | (guard_target =~ wpList _ _ _ (⟨some 49, _, _, _, _, _⟩ :: _) _ _; refine cfT.load_g (op := ⟨some 49, .load _ _, _, _, _, _⟩) (by rfl) _ (by rfl) gd 0 (by rfl) (c) D.rangeK ?_) | (guard_target =~ wpList _ _ _ (⟨some 50, _, _, _, _, _⟩ :: _) _ _; refine cfT.load_g (op := ⟨some 50, .load _ _, _, _, _, _⟩) (by rfl) _ (by rfl) G 0 (by rfl) (c) C.rangeK ?_))
        go_roundw
        case rel => exact ⟨k + 1, hlt2.out, by go_num, C, P, I, Z, hbF⟩
        case measure => (have := hlt2.out; simp [intOf] <;> omega)
      · go_simp
        change K _ (wd.alloc (Obj.cells (cfK.enc zeroC).toArray 28))
        have D0 := Box.new wd (cfK.enc zeroC) 28
        have hN := bnew wd (Obj.cells (cfK.enc zeroC).toArray 28)
        refine hK.out _ _ hN ?_
        clear hK K hHeld
        have hHeld := hN
        obtain ⟨W9, hW9⟩ : ∃ W, wd.alloc (Obj.cells (cfK.enc zeroC).toArray 28) = W := ⟨_, rfl⟩
        obtain ⟨gd, hgd⟩ : ∃ g, wd.heap.size = g := ⟨_, rfl⟩
        have hlg : gd ≤ gd := Nat.le_refl _
        rw [hW9] at D0 hHeld hN
        rw [hW9]
        rw [hgd] at D0 hHeld
        rw [hgd]
        try simp only [Act.put, List.setIfInBounds_toArray, List.set_cons_zero, List.set_cons_succ]
        refine rcall 8 rfl (by kernel_rfl) (by rfl) (fun K hK => ?_)
        go_simp
        refine (HAK.out W9).mono ?_
        rintro e w8 ⟨rfl, bq⟩
        have hH2 := hHeld.trans (bq.mono (by have := hHeld.size; omega))
        refine hK.out _ _ hH2 ?_
        clear hK K hHeld
        have hHeld := hH2
        replace D0 := D0.below bq
        try simp only [Act.put, List.setIfInBounds_toArray, List.set_cons_zero, List.set_cons_succ]
        refine rtake 9 rfl (by rfl) (by kernel_rfl) (by kernel_rfl) (by kernel_rfl) (fun _ _ _ h => h) hHeld (fun wx hwx => by go_simp; try with_reducible rfl) ?_
        try simp only [Act.put, List.setIfInBounds_toArray, List.set_cons_zero, List.set_cons_succ]
        refine rtake 10 rfl (by rfl) (by kernel_rfl) (by kernel_rfl) (by kernel_rfl) (fun _ _ _ h => h) hHeld (fun wx hwx => by go_simp; try with_reducible rfl) ?_
        try simp only [Act.put, List.setIfInBounds_toArray, List.set_cons_zero, List.set_cons_succ]
        refine rtake 11 rfl (by rfl) (by kernel_rfl) (by kernel_rfl) (by kernel_rfl) (fun _ _ _ h => h) hHeld (fun wx hwx => by go_simp; try with_reducible rfl) ?_
        try simp only [Act.put, List.setIfInBounds_toArray, List.set_cons_zero, List.set_cons_succ]
        refine rtake 12 rfl (by rfl) (by kernel_rfl) (by kernel_rfl) (by kernel_rfl) (fun _ _ _ h => h) hHeld (fun wx hwx => by go_simp; try with_reducible rfl) ?_
        try simp only [Act.put, List.setIfInBounds_toArray, List.set_cons_zero, List.set_cons_succ]
        refine rtake 14 rfl (by rfl) (by kernel_rfl) (by kernel_rfl) (by kernel_rfl) (fun _ _ _ h => h) hHeld (fun wx hwx => by go_simp; try with_reducible rfl) ?_
        try simp only [Act.put, List.setIfInBounds_toArray, List.set_cons_zero, List.set_cons_succ]
        refine rcall 15 rfl (by kernel_rfl) (by rfl) (fun K hK => ?_)
        refine cfT.op_store (op := ⟨none, .store _ _ _, _, _, _, _⟩) _ _ rfl gd c zeroC _ rfl rfl D0 ?_
        have D := D0.rowK (cfK.enc c)
        have hHd := below_setRow hHeld hlg (cfK.enc c).toArray
        refine hK.out _ _ hHd ?_
        clear hK K hHeld
        have hHeld := hHd
        try simp only [Act.put, List.setIfInBounds_toArray, List.set_cons_zero, List.set_cons_succ]
        refine rtake 16 rfl (by rfl) (by kernel_rfl) (by kernel_rfl) (by kernel_rfl) (fun _ _ _ h => h) hHeld (fun wx hwx => by go_simp; try with_reducible rfl) ?_
        try simp only [Act.put, List.setIfInBounds_toArray, List.set_cons_zero, List.set_cons_succ]
        refine wpAnyH_done (by kernel_rfl) ?_ _
        replace hHd : Below wd.heap.size wd (w8.setRow gd (cfK.enc c).toArray) := by rw [hgd]; exact hHd
        replace C := C.below hHd
        replace P := P.below hHd
        replace I := I.below hHd
        replace Z := Z.below hHd
        have cz := CZ.out _ (bnext bd hHd)
        have hbF := bnext hb (bnext bd hHd)
        generalize w8.setRow gd (cfK.enc c).toArray = wf at *
        go_wp2_with (first | (guard_target =~ wpList _ _ _ (⟨some 49, _, _, _, _, _⟩ :: _) _ _; refine cfT.load_g (op := ⟨some 49, .load _ _, _, _, _, _⟩) (by rfl) _ (by rfl) gd 0 (by rfl) (c) D.rangeK ?_) | (guard_target =~ wpList _ _ _ (⟨some 50, _, _, _, _, _⟩ :: _) _ _; refine cfT.load_g (op := ⟨some 50, .load _ _, _, _, _, _⟩) (by rfl) _ (by rfl) G 0 (by rfl) (c) C.rangeK ?_))
        go_roundw
        case rel => exact ⟨k + 1, hlt2.out, by go_num, C, P, I, Z, hbF⟩
        case measure => (have := hlt2.out; simp [intOf] <;> omega)
    · obtain rfl : k = 17 := by omega
      clear hlt hk
      go_wp2_with fail
      refine (awake22_from HDef HAns HKno HPer _).mono ?_
      rintro e wz ⟨rfl, bz⟩
      go_wp2_with fail
      go_ret
      exact ⟨rfl, bnext hb bz⟩

end Go.Proofs.Ytgjffmhlehcoiaa
