/- carillonlaw22: Sets, from contracts (gen_mgmlaws.py). -/
import Derived.Test.YtgjffmhlehcoiaaMgmLaws2
import Derived.Test.YtgjffmhlehcoiaaPlace
namespace Go.Proofs.Ytgjffmhlehcoiaa
open Go.RowKit Go.Proofs
set_option maxRecDepth 50000
set_option linter.unusedVariables false
set_option linter.unusedSimpArgs false

theorem wrap8 (x : Int) (h0 : 0 ≤ x) (h1 : x < 256) : IntKind.i8.wrap x = if x < 128 then x else x - 256 := by
  have e : x % 256 = x := by omega
  unfold IntKind.wrap
  show (if (true && decide (x % 256 ≥ 128)) = true then x % 256 - 256 else x % 256) = _
  rw [e]
  by_cases h : x < 128
  · rw [if_pos h, if_neg (by simp; omega)]
  · rw [if_neg h, if_pos (by simp; omega)]
def sgI (b : UInt8) : Int := if (b.toNat : Int) < 128 then (b.toNat : Int) else (b.toNat : Int) - 256
theorem byte_lt (b : UInt8) : b.toNat < 256 := b.toNat_lt
theorem num_two (b s : UInt8) : (numAt [b, s] 0 1 : Int) = (b.toNat : Int) := by
  have : numAt [b, s] 0 1 = num [b] := rfl
  rw [this]
  simp [num]
theorem sign_two (b s : UInt8) : signedAt [b, s] 0 1 = sgI b := by
  have hn : numAt [b, s] 0 1 = b.toNat := by have := num_two b s; omega
  have := byte_lt b
  unfold signedAt sgI
  rw [hn]
  split <;> split <;> omega
theorem two_of (b : UInt8) (x : Int) (h : x % 256 = (b.toNat : Int)) : twoS x = [b, 0] := by
  unfold twoS putS
  have h1 : (min (max (1 : Int) 0) 8).toNat = 1 := by decide
  rw [h1]
  have e : (x % 18446744073709551616).toNat % 256 = b.toNat := by omega
  have : UInt8.ofNat ((x % 18446744073709551616).toNat / 256 ^ 0) = b := by
    apply UInt8.toNat_inj.1
    rw [UInt8.toNat_ofNat', Nat.pow_zero, Nat.div_one]
    exact e
  show [UInt8.ofNat ((x % 18446744073709551616).toNat / 256 ^ 0)] ++ [UInt8.ofNat (((0 : Int) % 18446744073709551616).toNat / 256 ^ 0)] = _
  rw [this]
  rfl
theorem two_b (b : UInt8) : twoS (b.toNat : Int) = [b, 0] := two_of b _ (by have := byte_lt b; omega)
theorem two_s (b : UInt8) : twoS (sgI b) = [b, 0] := two_of b _ (by have := byte_lt b; unfold sgI; split <;> omega)
theorem bytes2 (w : World) (b s : UInt8) : Bytes (w.alloc (Obj.cells #[.int .u8 (b.toNat : Int), .int .u8 (s.toNat : Int)] 5)) (.slice (some ⟨w.heap.size, 0, none⟩) 2 2) [b, s] := by
  have hB := Box.new w [.int .u8 (b.toNat : Int), .int .u8 (s.toNat : Int)] 5
  refine ⟨some ⟨w.heap.size, 0, none⟩, 2, rfl, Nat.le_refl _, by unfold maxLen; omega, .inr ⟨w.heap.size, 0, rfl, hB.lt, fun i hi => ?_⟩⟩
  rw [Nat.zero_add]
  have hi2 : i < 2 := hi
  rcases (by omega : i = 0 ∨ i = 1) with rfl | rfl
  · exact hB.cell 0 _ rfl
  · exact hB.cell 1 _ rfl
theorem str2 (w : World) (b s : UInt8) : (convert 42 9 (.slice (some ⟨w.heap.size, 0, none⟩) 2 2)).run Try.prog (w.alloc (Obj.cells #[.int .u8 (b.toNat : Int), .int .u8 (s.toNat : Int)] 5)) = .ok (.string ⟨#[b, s]⟩) (w.alloc (Obj.cells #[.int .u8 (b.toNat : Int), .int .u8 (s.toNat : Int)] 5)) := (bytes2 w b s).str
theorem str20 (w : World) (b : UInt8) : (convert 42 9 (.slice (some ⟨w.heap.size, 0, none⟩) 2 2)).run Try.prog (w.alloc (Obj.cells #[.int .u8 (b.toNat : Int), .int .u8 0] 5)) = .ok (.string ⟨#[b, 0]⟩) (w.alloc (Obj.cells #[.int .u8 (b.toNat : Int), .int .u8 0] 5)) := (bytes2 w b 0).str
theorem ans_set {c d : Cf} {id : Int} {b s : UInt8} (hs : sizeI id = 2) (hc : cmdB id = false) (hf : fixB id = false) (hd : setM c id [b, s] = d) : ansP (vw0 c) 1 id [b, s] = setA (vw0 c) id d := by
  unfold ansP
  rw [hs, hc, hf, if_neg (by decide), if_neg (fun h => h.2.1 rfl), if_neg (fun h => absurd h.1 (by decide)), if_neg (fun h => by cases h.2), if_neg (by decide), if_neg (fun h => by cases h.2), if_neg (fun h => h rfl), if_neg (by decide)]
  show setA (vw0 c) id (setM c id [b, s]) = _
  rw [hd]
theorem ans_get {d : Cf} {id : Int} (l : List UInt8) (hs : sizeI id = 2) (hc : cmdB id = false) : ansP (vw0 d) 0 id l = ⟨toldS (vw0 d) id, d, 0⟩ := by
  unfold ansP
  rw [hs, hc, if_neg (by decide), if_neg (fun h => h.1 rfl), if_neg (fun h => absurd h.1 (by decide)), if_neg (fun h => by cases h.2), if_pos rfl]
  rfl

set_option maxRecDepth 100000 in
set_option maxHeartbeats 8000000 in
theorem mgmtSets_from (HDef : CDefM) (HAns : CAnsM) (HKno : CKnoM) (HPer : CPerM) (c : Cf) (hc : ((0 ≤ c.cl ∧ c.cl < 18446744073709551616) ∧ ∀ x ∈ [c.po, c.dm, c.p1, c.p2, c.qc, c.qa, c.qv, c.la, c.ls, c.ld, c.tm, c.md, c.kp, c.ki, c.st, c.ut, c.fl, c.og], -9223372036854775808 ≤ x ∧ x ≤ 9223372036854775807)) (which : Int) (b s : UInt8) (w : World) :
    Calls Try.prog 3 #[.agg (cfL c).toArray, .int .i64 which, .int .u8 (b.toNat : Int), .int .u8 (s.toNat : Int)] w fun e w' => e = .returned (.bool true) ∧ Below w.heap.size w w' := by
  have z0 := bnew w (Obj.cells (cfK.enc c).toArray 28)
  have C := Box.new w (cfK.enc c) 28
  have hb := z0
  clear z0
  go_enter Try.func3, Try.ntmps3
  go_upto_region 1 with fail
  change Code.wp Try.prog _ _ _ (w.alloc (Obj.cells (cfK.enc c).toArray 28))
  generalize (w.alloc (Obj.cells (cfK.enc c).toArray 28)) = W at *
  generalize hG : w.heap.size = G at *
  rw [← hG] at hb
  have l_C : w.heap.size ≤ G := by omega
  go_wp2_with (guard_target =~ wpList _ _ _ (⟨some 18, _, _, _, _, _⟩ :: _) _ _; refine cfT.load (op := ⟨some 18, .load _ _, _, _, _, _⟩) (by rfl) _ (by rfl) G 0 (by rfl) (c) C.rangeK ?_)
  refine (refChk10_any c W).mono ?_
  rintro e w1 ⟨rfl, bq⟩
  replace C := C.below bq
  replace hb := bnext hb bq
  clear bq
  by_cases hok : CfOk c
  case neg =>
    have hE : checkE c = 15 := if_neg hok
    rw [hE]
    clear hE hok
    go_wp2_with fail
    refine (awake22_from HDef HAns HKno HPer _).mono ?_
    rintro e wz ⟨rfl, bz⟩
    go_wp2_with fail
    go_ret
    exact ⟨rfl, bnext hb bz⟩
  have hE : checkE c = 0 := if_pos hok
  rw [hE]
  clear hE
  have hb256 := byte_lt b
  have hB0 : (0 : Int) ≤ (b.toNat : Int) := by omega
  have hB1 : (b.toNat : Int) < 256 := by omega
  have hOK := hid hok
  clear hok
  go_wp2_with (guard_target =~ wpList _ _ _ (⟨some 22, _, _, _, _, _⟩ :: _) _ _; refine wpList_build_any (op := ⟨some 22, .build _ _, _, _, _, _⟩) (by rfl) _ _ (by rfl) _ (by rfl) ([.int .i64 8197, .int .i64 8198, .int .i64 8199, .int .i64 8208, .int .i64 8202, .int .i64 8203]).toArray (by kernel_rfl) ?_)
  refine (place_in which 6 _ (by decide) (by decide)).mono ?_
  rintro e w' ⟨y, rfl, hy0, hy1, -, rfl⟩
  rcases (by omega : y = 0 ∨ y = 1 ∨ y = 2 ∨ y = 3 ∨ y = 4 ∨ y = 5) with rfl | rfl | rfl | rfl | rfl | rfl
  · clear hy0 hy1
    go_upto_region 4 with (guard_target =~ wpList _ _ _ (⟨some 25, _, _, _, _, _⟩ :: _) _ _; refine @wpList_indexA _ _ ⟨some 25, .index 32 (.tmp 22) (.tmp 24), _, _, _, _⟩ _ _ _ (by rfl) 32 _ _ (by rfl) (.agg ([.int .i64 8197, .int .i64 8198, .int .i64 8199, .int .i64 8208, .int .i64 8202, .int .i64 8203]).toArray) (.int .i64 0) (.int .i64 8197) (by rfl) (by rfl) (by kernel_rfl) ?_)
    obtain ⟨d, hd⟩ : ∃ d : Cf, d = { c with p1 := (b.toNat : Int) } := ⟨_, rfl⟩
    have hset : setM c 8197 [b, s] = d := by
      rw [hd]
      show { c with p1 := _ } = _
      rw [num_two]
    have hA1 := ans_set (id := 8197) (by decide) (by decide) (by decide) hset
    have hG1 := ans_get (d := d) (id := 8197) [104, 111, 112] (by decide) (by decide)
    have ht : toldS (vw0 d) 8197 = [b, 0] := by
      show twoS d.p1 = _
      rw [hd]
      exact two_b b
    rw [ht] at hG1
    have hdc : d.cl = c.cl := by rw [hd]
    have HA := fun w => HAns (vw0 c) 1 8197 [b, s] w (vw0_in hOK.out hc.1) (by show 2 ≤ 300; decide)
    rw [hA1] at HA
    have HAH := hid HA
    have HD9 := hid hd
    clear hset hA1 HA
    have st2 := fun w => str2 w b s
    have hokd : CfOk d := by
      have h := hOK.out
      rw [hd]
      unfold CfOk at h ⊢
      exact ⟨h.1, h.2.1, h.2.2.1, h.2.2.2.1, ⟨(by show 0 ≤ (b.toNat : Int); omega), (by show (b.toNat : Int) ≤ 255; omega)⟩, h.2.2.2.2.2.1, h.2.2.2.2.2.2.1, h.2.2.2.2.2.2.2.1, h.2.2.2.2.2.2.2.2.1, h.2.2.2.2.2.2.2.2.2.1, h.2.2.2.2.2.2.2.2.2.2.1, h.2.2.2.2.2.2.2.2.2.2.2.1, h.2.2.2.2.2.2.2.2.2.2.2.2.1, h.2.2.2.2.2.2.2.2.2.2.2.2.2.1, h.2.2.2.2.2.2.2.2.2.2.2.2.2.2.1, h.2.2.2.2.2.2.2.2.2.2.2.2.2.2.2.1, h.2.2.2.2.2.2.2.2.2.2.2.2.2.2.2.2.1, h.2.2.2.2.2.2.2.2.2.2.2.2.2.2.2.2.2.1, h.2.2.2.2.2.2.2.2.2.2.2.2.2.2.2.2.2.2.1, h.2.2.2.2.2.2.2.2.2.2.2.2.2.2.2.2.2.2.2.1, h.2.2.2.2.2.2.2.2.2.2.2.2.2.2.2.2.2.2.2.2⟩
    have hA2 : setA (vw0 c) 8197 d = ⟨[b, 0], d, 0⟩ := by
      unfold setA
      rw [if_pos hokd]
      show An.mk (toldS (vw0 d) 8197) d 0 = _
      rw [ht]
    have HG := fun w => HAns (vw0 d) 0 8197 [104, 111, 112] w (vw0_in hokd (by rw [hdc]; exact hc.1)) (by show 3 ≤ 300; decide)
    rw [hG1] at HG
    have HGH := hid HG
    clear HG
    have HA := HAH.out
    rw [hA2] at HA
    replace HAH := hid HA
    clear HA hA2 hokd hG1 ht hdc hd
    have hwb : IntKind.i64.wrap (b.toNat : Int) = (b.toNat : Int) := by rw [IntKind.wrap_i64]; omega

    go_wp2_with (first | (guard_target =~ wpList _ _ _ (⟨some 27, _, _, _, _, _⟩ :: _) _ _; refine cfT.load (op := ⟨some 27, .load _ _, _, _, _, _⟩) (by rfl) _ (by rfl) G 0 (by rfl) (c) C.rangeK ?_) | (guard_target =~ wpList _ _ _ (⟨some 28, _, _, _, _, _⟩ :: _) _ _; refine wpList_build_any (op := ⟨some 28, .build _ _, _, _, _, _⟩) (by rfl) _ _ (by rfl) _ (by rfl) (vwL (vw0 c)).toArray (by kernel_rfl) ?_))
    have z1 := bnew w1 (Obj.cells #[.int .u8 (b.toNat : Int), .int .u8 (s.toNat : Int)] 5)
    generalize w1.alloc (Obj.cells #[.int .u8 (b.toNat : Int), .int .u8 (s.toNat : Int)] 5) = wA at *
    replace C := C.below z1
    replace hb := bnext hb z1
    clear z1
    refine (HAH.out wA).mono ?_
    rintro e w2 ⟨rfl, bq⟩
    replace C := C.below bq
    replace hb := bnext hb bq
    clear bq
    clear st2
    have hn1 := bnew w2 (Obj.cells (cfK.enc (zeroC)).toArray 28)
    have hM0 := Box.new w2 (cfK.enc (zeroC)) 28
    go_upto_region 5 with (guard_target =~ wpList _ _ _ (⟨none, _, _, _, _, _⟩ :: _) _ _; refine cfT.store (op := ⟨none, .store _ _ _, _, _, _, _⟩) (by rfl) _ _ (by rfl) (w2.heap.size) (d) (zeroC) _ (by rfl) (by rfl) hM0 ?_)
    have n_C_D : G ≠ w2.heap.size := by have h1 := C.lt; have h2 := Nat.le_refl w2.heap.size; omega
    have l_D : w.heap.size ≤ w2.heap.size := Nat.le_trans hb.size (Nat.le_refl w2.heap.size)
    have D := hM0.rowK (cfK.enc (d))
    replace C := (C.below hn1).rowK_other (k := w2.heap.size) n_C_D (cfK.enc (d)).toArray
    have hW := below_setRow hn1 (Nat.le_refl _) (cfK.enc (d)).toArray
    replace hb := bnext hb hW
    change Code.wp Try.prog _ _ _ ((w2.alloc (Obj.cells (cfK.enc (zeroC)).toArray 28)).setRow w2.heap.size (cfK.enc (d)).toArray)
    generalize (w2.alloc (Obj.cells (cfK.enc (zeroC)).toArray 28)).setRow w2.heap.size (cfK.enc (d)).toArray = w3 at *
    clear hn1 hM0 hW
    generalize w2.heap.size = g1 at *
    have hn1 := bnew w3 (Obj.cells (cfK.enc (zeroC)).toArray 28)
    have hM0 := Box.new w3 (cfK.enc (zeroC)) 28
    go_upto_region 6 with (first | (guard_target =~ wpList _ _ _ (⟨some 38, _, _, _, _, _⟩ :: _) _ _; refine cfT.load (op := ⟨some 38, .load _ _, _, _, _, _⟩) (by rfl) _ (by rfl) G 0 (by rfl) (c) C.rangeK ?_) | (guard_target =~ wpList _ _ _ (⟨none, _, _, _, _, _⟩ :: _) _ _; refine cfT.store (op := ⟨none, .store _ _ _, _, _, _, _⟩) (by rfl) _ _ (by rfl) (w3.heap.size) (c) (zeroC) _ (by rfl) (by rfl) hM0 ?_))
    have n_C_Wt : G ≠ w3.heap.size := by have h1 := C.lt; have h2 := Nat.le_refl w3.heap.size; omega
    have n_D_Wt : g1 ≠ w3.heap.size := by have h1 := D.lt; have h2 := Nat.le_refl w3.heap.size; omega
    have l_Wt : w.heap.size ≤ w3.heap.size := Nat.le_trans hb.size (Nat.le_refl w3.heap.size)
    have Wt := hM0.rowK (cfK.enc (c))
    replace C := (C.below hn1).rowK_other (k := w3.heap.size) n_C_Wt (cfK.enc (c)).toArray
    replace D := (D.below hn1).rowK_other (k := w3.heap.size) n_D_Wt (cfK.enc (c)).toArray
    have hW := below_setRow hn1 (Nat.le_refl _) (cfK.enc (c)).toArray
    replace hb := bnext hb hW
    change Code.wp Try.prog _ _ _ ((w3.alloc (Obj.cells (cfK.enc (zeroC)).toArray 28)).setRow w3.heap.size (cfK.enc (c)).toArray)
    generalize (w3.alloc (Obj.cells (cfK.enc (zeroC)).toArray 28)).setRow w3.heap.size (cfK.enc (c)).toArray = w4 at *
    clear hn1 hM0 hW
    generalize w3.heap.size = g2 at *
    have hc := Wt.cell 3 _ rfl
    have hf := Wt.free 3
    go_upto_region 22 with fail
    replace Wt := Wt.set 3 (.int .i64 ((b.toNat : Int)))
    replace C := C.other n_C_Wt 3 (.int .i64 ((b.toNat : Int)))
    replace D := D.other n_D_Wt 3 (.int .i64 ((b.toNat : Int)))
    replace hb := hb.setCell (p := ⟨g2, 3, none⟩) l_Wt (.int .i64 ((b.toNat : Int)))
    generalize World.setCell _ _ _ = w5 at *
    clear hc hf
    replace Wt : Box w5 g2 (cfK.enc d) 28 := by rw [HD9.out]; exact Wt
    have sm := same_cf d
    have st20 := fun w => str20 w b
    go_wp2_with (first | (guard_target =~ wpList _ _ _ (⟨some 103, _, _, _, _, _⟩ :: _) _ _; refine cfT.load (op := ⟨some 103, .load _ _, _, _, _, _⟩) (by rfl) _ (by rfl) g1 0 (by rfl) (d) D.rangeK ?_) | (guard_target =~ wpList _ _ _ (⟨some 104, _, _, _, _, _⟩ :: _) _ _; refine wpList_build_any (op := ⟨some 104, .build _ _, _, _, _, _⟩) (by rfl) _ _ (by rfl) _ (by rfl) (vwL (vw0 d)).toArray (by kernel_rfl) ?_))
    refine (HGH.out w5).mono ?_
    rintro e w6 ⟨rfl, bq⟩
    replace C := C.below bq
    replace D := D.below bq
    replace Wt := Wt.below bq
    replace hb := bnext hb bq
    clear bq
    have hn1 := bnew w6 (Obj.cells (cfK.enc (zeroC)).toArray 28)
    have hM0 := Box.new w6 (cfK.enc (zeroC)) 28
    go_upto_region 25 with (guard_target =~ wpList _ _ _ (⟨none, _, _, _, _, _⟩ :: _) _ _; refine cfT.store (op := ⟨none, .store _ _ _, _, _, _, _⟩) (by rfl) _ _ (by rfl) (w6.heap.size) (d) (zeroC) _ (by rfl) (by rfl) hM0 ?_)
    have n_C_F : G ≠ w6.heap.size := by have h1 := C.lt; have h2 := Nat.le_refl w6.heap.size; omega
    have n_D_F : g1 ≠ w6.heap.size := by have h1 := D.lt; have h2 := Nat.le_refl w6.heap.size; omega
    have n_Wt_F : g2 ≠ w6.heap.size := by have h1 := Wt.lt; have h2 := Nat.le_refl w6.heap.size; omega
    have l_F : w.heap.size ≤ w6.heap.size := Nat.le_trans hb.size (Nat.le_refl w6.heap.size)
    have F := hM0.rowK (cfK.enc (d))
    replace C := (C.below hn1).rowK_other (k := w6.heap.size) n_C_F (cfK.enc (d)).toArray
    replace D := (D.below hn1).rowK_other (k := w6.heap.size) n_D_F (cfK.enc (d)).toArray
    replace Wt := (Wt.below hn1).rowK_other (k := w6.heap.size) n_Wt_F (cfK.enc (d)).toArray
    have hW := below_setRow hn1 (Nat.le_refl _) (cfK.enc (d)).toArray
    replace hb := bnext hb hW
    change Code.wp Try.prog _ _ _ ((w6.alloc (Obj.cells (cfK.enc (zeroC)).toArray 28)).setRow w6.heap.size (cfK.enc (d)).toArray)
    generalize (w6.alloc (Obj.cells (cfK.enc (zeroC)).toArray 28)).setRow w6.heap.size (cfK.enc (d)).toArray = w7 at *
    clear hn1 hM0 hW
    generalize w6.heap.size = g3 at *
    go_wp2_with (first | (guard_target =~ wpList _ _ _ (⟨some 113, _, _, _, _, _⟩ :: _) _ _; refine cfT.load_g (op := ⟨some 113, .load _ _, _, _, _, _⟩) (by rfl) _ (by rfl) g1 0 (by rfl) (d) D.rangeK ?_) | (guard_target =~ wpList _ _ _ (⟨some 114, _, _, _, _, _⟩ :: _) _ _; refine cfT.load_g (op := ⟨some 114, .load _ _, _, _, _, _⟩) (by rfl) _ (by rfl) g2 0 (by rfl) (d) Wt.rangeK ?_) | (guard_target =~ wpList _ _ _ (⟨some 134, _, _, _, _, _⟩ :: _) _ _; refine cfT.load_g (op := ⟨some 134, .load _ _, _, _, _, _⟩) (by rfl) _ (by rfl) g3 0 (by rfl) (d) (F.below (bnew _ _)).rangeK ?_) | (guard_target =~ wpList _ _ _ (⟨some 135, _, _, _, _, _⟩ :: _) _ _; refine cfT.load_g (op := ⟨some 135, .load _ _, _, _, _, _⟩) (by rfl) _ (by rfl) g1 0 (by rfl) (d) (D.below (bnew _ _)).rangeK ?_))
    refine (awake22_from HDef HAns HKno HPer _).mono ?_
    rintro e wz ⟨rfl, bz⟩
    go_wp2_with fail
    go_ret
    exact ⟨rfl, bnext (bnext hb (bnew _ _)) bz⟩
  · clear hy0 hy1
    go_upto_region 4 with (guard_target =~ wpList _ _ _ (⟨some 25, _, _, _, _, _⟩ :: _) _ _; refine @wpList_indexA _ _ ⟨some 25, .index 32 (.tmp 22) (.tmp 24), _, _, _, _⟩ _ _ _ (by rfl) 32 _ _ (by rfl) (.agg ([.int .i64 8197, .int .i64 8198, .int .i64 8199, .int .i64 8208, .int .i64 8202, .int .i64 8203]).toArray) (.int .i64 1) (.int .i64 8198) (by rfl) (by rfl) (by kernel_rfl) ?_)
    obtain ⟨d, hd⟩ : ∃ d : Cf, d = { c with p2 := (b.toNat : Int) } := ⟨_, rfl⟩
    have hset : setM c 8198 [b, s] = d := by
      rw [hd]
      show { c with p2 := _ } = _
      rw [num_two]
    have hA1 := ans_set (id := 8198) (by decide) (by decide) (by decide) hset
    have hG1 := ans_get (d := d) (id := 8198) [104, 111, 112] (by decide) (by decide)
    have ht : toldS (vw0 d) 8198 = [b, 0] := by
      show twoS d.p2 = _
      rw [hd]
      exact two_b b
    rw [ht] at hG1
    have hdc : d.cl = c.cl := by rw [hd]
    have HA := fun w => HAns (vw0 c) 1 8198 [b, s] w (vw0_in hOK.out hc.1) (by show 2 ≤ 300; decide)
    rw [hA1] at HA
    have HAH := hid HA
    have HD9 := hid hd
    clear hset hA1 HA
    have st2 := fun w => str2 w b s
    have hokd : CfOk d := by
      have h := hOK.out
      rw [hd]
      unfold CfOk at h ⊢
      exact ⟨h.1, h.2.1, h.2.2.1, h.2.2.2.1, h.2.2.2.2.1, ⟨(by show 0 ≤ (b.toNat : Int); omega), (by show (b.toNat : Int) ≤ 255; omega)⟩, h.2.2.2.2.2.2.1, h.2.2.2.2.2.2.2.1, h.2.2.2.2.2.2.2.2.1, h.2.2.2.2.2.2.2.2.2.1, h.2.2.2.2.2.2.2.2.2.2.1, h.2.2.2.2.2.2.2.2.2.2.2.1, h.2.2.2.2.2.2.2.2.2.2.2.2.1, h.2.2.2.2.2.2.2.2.2.2.2.2.2.1, h.2.2.2.2.2.2.2.2.2.2.2.2.2.2.1, h.2.2.2.2.2.2.2.2.2.2.2.2.2.2.2.1, h.2.2.2.2.2.2.2.2.2.2.2.2.2.2.2.2.1, h.2.2.2.2.2.2.2.2.2.2.2.2.2.2.2.2.2.1, h.2.2.2.2.2.2.2.2.2.2.2.2.2.2.2.2.2.2.1, h.2.2.2.2.2.2.2.2.2.2.2.2.2.2.2.2.2.2.2.1, h.2.2.2.2.2.2.2.2.2.2.2.2.2.2.2.2.2.2.2.2⟩
    have hA2 : setA (vw0 c) 8198 d = ⟨[b, 0], d, 0⟩ := by
      unfold setA
      rw [if_pos hokd]
      show An.mk (toldS (vw0 d) 8198) d 0 = _
      rw [ht]
    have HG := fun w => HAns (vw0 d) 0 8198 [104, 111, 112] w (vw0_in hokd (by rw [hdc]; exact hc.1)) (by show 3 ≤ 300; decide)
    rw [hG1] at HG
    have HGH := hid HG
    clear HG
    have HA := HAH.out
    rw [hA2] at HA
    replace HAH := hid HA
    clear HA hA2 hokd hG1 ht hdc hd
    have hwb : IntKind.i64.wrap (b.toNat : Int) = (b.toNat : Int) := by rw [IntKind.wrap_i64]; omega

    go_wp2_with (first | (guard_target =~ wpList _ _ _ (⟨some 27, _, _, _, _, _⟩ :: _) _ _; refine cfT.load (op := ⟨some 27, .load _ _, _, _, _, _⟩) (by rfl) _ (by rfl) G 0 (by rfl) (c) C.rangeK ?_) | (guard_target =~ wpList _ _ _ (⟨some 28, _, _, _, _, _⟩ :: _) _ _; refine wpList_build_any (op := ⟨some 28, .build _ _, _, _, _, _⟩) (by rfl) _ _ (by rfl) _ (by rfl) (vwL (vw0 c)).toArray (by kernel_rfl) ?_))
    have z1 := bnew w1 (Obj.cells #[.int .u8 (b.toNat : Int), .int .u8 (s.toNat : Int)] 5)
    generalize w1.alloc (Obj.cells #[.int .u8 (b.toNat : Int), .int .u8 (s.toNat : Int)] 5) = wA at *
    replace C := C.below z1
    replace hb := bnext hb z1
    clear z1
    refine (HAH.out wA).mono ?_
    rintro e w2 ⟨rfl, bq⟩
    replace C := C.below bq
    replace hb := bnext hb bq
    clear bq
    clear st2
    have hn1 := bnew w2 (Obj.cells (cfK.enc (zeroC)).toArray 28)
    have hM0 := Box.new w2 (cfK.enc (zeroC)) 28
    go_upto_region 5 with (guard_target =~ wpList _ _ _ (⟨none, _, _, _, _, _⟩ :: _) _ _; refine cfT.store (op := ⟨none, .store _ _ _, _, _, _, _⟩) (by rfl) _ _ (by rfl) (w2.heap.size) (d) (zeroC) _ (by rfl) (by rfl) hM0 ?_)
    have n_C_D : G ≠ w2.heap.size := by have h1 := C.lt; have h2 := Nat.le_refl w2.heap.size; omega
    have l_D : w.heap.size ≤ w2.heap.size := Nat.le_trans hb.size (Nat.le_refl w2.heap.size)
    have D := hM0.rowK (cfK.enc (d))
    replace C := (C.below hn1).rowK_other (k := w2.heap.size) n_C_D (cfK.enc (d)).toArray
    have hW := below_setRow hn1 (Nat.le_refl _) (cfK.enc (d)).toArray
    replace hb := bnext hb hW
    change Code.wp Try.prog _ _ _ ((w2.alloc (Obj.cells (cfK.enc (zeroC)).toArray 28)).setRow w2.heap.size (cfK.enc (d)).toArray)
    generalize (w2.alloc (Obj.cells (cfK.enc (zeroC)).toArray 28)).setRow w2.heap.size (cfK.enc (d)).toArray = w3 at *
    clear hn1 hM0 hW
    generalize w2.heap.size = g1 at *
    have hn1 := bnew w3 (Obj.cells (cfK.enc (zeroC)).toArray 28)
    have hM0 := Box.new w3 (cfK.enc (zeroC)) 28
    go_upto_region 6 with (first | (guard_target =~ wpList _ _ _ (⟨some 38, _, _, _, _, _⟩ :: _) _ _; refine cfT.load (op := ⟨some 38, .load _ _, _, _, _, _⟩) (by rfl) _ (by rfl) G 0 (by rfl) (c) C.rangeK ?_) | (guard_target =~ wpList _ _ _ (⟨none, _, _, _, _, _⟩ :: _) _ _; refine cfT.store (op := ⟨none, .store _ _ _, _, _, _, _⟩) (by rfl) _ _ (by rfl) (w3.heap.size) (c) (zeroC) _ (by rfl) (by rfl) hM0 ?_))
    have n_C_Wt : G ≠ w3.heap.size := by have h1 := C.lt; have h2 := Nat.le_refl w3.heap.size; omega
    have n_D_Wt : g1 ≠ w3.heap.size := by have h1 := D.lt; have h2 := Nat.le_refl w3.heap.size; omega
    have l_Wt : w.heap.size ≤ w3.heap.size := Nat.le_trans hb.size (Nat.le_refl w3.heap.size)
    have Wt := hM0.rowK (cfK.enc (c))
    replace C := (C.below hn1).rowK_other (k := w3.heap.size) n_C_Wt (cfK.enc (c)).toArray
    replace D := (D.below hn1).rowK_other (k := w3.heap.size) n_D_Wt (cfK.enc (c)).toArray
    have hW := below_setRow hn1 (Nat.le_refl _) (cfK.enc (c)).toArray
    replace hb := bnext hb hW
    change Code.wp Try.prog _ _ _ ((w3.alloc (Obj.cells (cfK.enc (zeroC)).toArray 28)).setRow w3.heap.size (cfK.enc (c)).toArray)
    generalize (w3.alloc (Obj.cells (cfK.enc (zeroC)).toArray 28)).setRow w3.heap.size (cfK.enc (c)).toArray = w4 at *
    clear hn1 hM0 hW
    generalize w3.heap.size = g2 at *
    have hc := Wt.cell 4 _ rfl
    have hf := Wt.free 4
    go_upto_region 22 with fail
    replace Wt := Wt.set 4 (.int .i64 ((b.toNat : Int)))
    replace C := C.other n_C_Wt 4 (.int .i64 ((b.toNat : Int)))
    replace D := D.other n_D_Wt 4 (.int .i64 ((b.toNat : Int)))
    replace hb := hb.setCell (p := ⟨g2, 4, none⟩) l_Wt (.int .i64 ((b.toNat : Int)))
    generalize World.setCell _ _ _ = w5 at *
    clear hc hf
    replace Wt : Box w5 g2 (cfK.enc d) 28 := by rw [HD9.out]; exact Wt
    have sm := same_cf d
    have st20 := fun w => str20 w b
    go_wp2_with (first | (guard_target =~ wpList _ _ _ (⟨some 103, _, _, _, _, _⟩ :: _) _ _; refine cfT.load (op := ⟨some 103, .load _ _, _, _, _, _⟩) (by rfl) _ (by rfl) g1 0 (by rfl) (d) D.rangeK ?_) | (guard_target =~ wpList _ _ _ (⟨some 104, _, _, _, _, _⟩ :: _) _ _; refine wpList_build_any (op := ⟨some 104, .build _ _, _, _, _, _⟩) (by rfl) _ _ (by rfl) _ (by rfl) (vwL (vw0 d)).toArray (by kernel_rfl) ?_))
    refine (HGH.out w5).mono ?_
    rintro e w6 ⟨rfl, bq⟩
    replace C := C.below bq
    replace D := D.below bq
    replace Wt := Wt.below bq
    replace hb := bnext hb bq
    clear bq
    have hn1 := bnew w6 (Obj.cells (cfK.enc (zeroC)).toArray 28)
    have hM0 := Box.new w6 (cfK.enc (zeroC)) 28
    go_upto_region 25 with (guard_target =~ wpList _ _ _ (⟨none, _, _, _, _, _⟩ :: _) _ _; refine cfT.store (op := ⟨none, .store _ _ _, _, _, _, _⟩) (by rfl) _ _ (by rfl) (w6.heap.size) (d) (zeroC) _ (by rfl) (by rfl) hM0 ?_)
    have n_C_F : G ≠ w6.heap.size := by have h1 := C.lt; have h2 := Nat.le_refl w6.heap.size; omega
    have n_D_F : g1 ≠ w6.heap.size := by have h1 := D.lt; have h2 := Nat.le_refl w6.heap.size; omega
    have n_Wt_F : g2 ≠ w6.heap.size := by have h1 := Wt.lt; have h2 := Nat.le_refl w6.heap.size; omega
    have l_F : w.heap.size ≤ w6.heap.size := Nat.le_trans hb.size (Nat.le_refl w6.heap.size)
    have F := hM0.rowK (cfK.enc (d))
    replace C := (C.below hn1).rowK_other (k := w6.heap.size) n_C_F (cfK.enc (d)).toArray
    replace D := (D.below hn1).rowK_other (k := w6.heap.size) n_D_F (cfK.enc (d)).toArray
    replace Wt := (Wt.below hn1).rowK_other (k := w6.heap.size) n_Wt_F (cfK.enc (d)).toArray
    have hW := below_setRow hn1 (Nat.le_refl _) (cfK.enc (d)).toArray
    replace hb := bnext hb hW
    change Code.wp Try.prog _ _ _ ((w6.alloc (Obj.cells (cfK.enc (zeroC)).toArray 28)).setRow w6.heap.size (cfK.enc (d)).toArray)
    generalize (w6.alloc (Obj.cells (cfK.enc (zeroC)).toArray 28)).setRow w6.heap.size (cfK.enc (d)).toArray = w7 at *
    clear hn1 hM0 hW
    generalize w6.heap.size = g3 at *
    go_wp2_with (first | (guard_target =~ wpList _ _ _ (⟨some 113, _, _, _, _, _⟩ :: _) _ _; refine cfT.load_g (op := ⟨some 113, .load _ _, _, _, _, _⟩) (by rfl) _ (by rfl) g1 0 (by rfl) (d) D.rangeK ?_) | (guard_target =~ wpList _ _ _ (⟨some 114, _, _, _, _, _⟩ :: _) _ _; refine cfT.load_g (op := ⟨some 114, .load _ _, _, _, _, _⟩) (by rfl) _ (by rfl) g2 0 (by rfl) (d) Wt.rangeK ?_) | (guard_target =~ wpList _ _ _ (⟨some 134, _, _, _, _, _⟩ :: _) _ _; refine cfT.load_g (op := ⟨some 134, .load _ _, _, _, _, _⟩) (by rfl) _ (by rfl) g3 0 (by rfl) (d) (F.below (bnew _ _)).rangeK ?_) | (guard_target =~ wpList _ _ _ (⟨some 135, _, _, _, _, _⟩ :: _) _ _; refine cfT.load_g (op := ⟨some 135, .load _ _, _, _, _, _⟩) (by rfl) _ (by rfl) g1 0 (by rfl) (d) (D.below (bnew _ _)).rangeK ?_))
    refine (awake22_from HDef HAns HKno HPer _).mono ?_
    rintro e wz ⟨rfl, bz⟩
    go_wp2_with fail
    go_ret
    exact ⟨rfl, bnext (bnext hb (bnew _ _)) bz⟩
  · clear hy0 hy1
    go_upto_region 4 with (guard_target =~ wpList _ _ _ (⟨some 25, _, _, _, _, _⟩ :: _) _ _; refine @wpList_indexA _ _ ⟨some 25, .index 32 (.tmp 22) (.tmp 24), _, _, _, _⟩ _ _ _ (by rfl) 32 _ _ (by rfl) (.agg ([.int .i64 8197, .int .i64 8198, .int .i64 8199, .int .i64 8208, .int .i64 8202, .int .i64 8203]).toArray) (.int .i64 2) (.int .i64 8199) (by rfl) (by rfl) (by kernel_rfl) ?_)
    obtain ⟨d, hd⟩ : ∃ d : Cf, d = { c with dm := (b.toNat : Int) } := ⟨_, rfl⟩
    have hset : setM c 8199 [b, s] = d := by
      rw [hd]
      show { c with dm := _ } = _
      rw [num_two]
    have hA1 := ans_set (id := 8199) (by decide) (by decide) (by decide) hset
    have hG1 := ans_get (d := d) (id := 8199) [104, 111, 112] (by decide) (by decide)
    have ht : toldS (vw0 d) 8199 = [b, 0] := by
      show twoS d.dm = _
      rw [hd]
      exact two_b b
    rw [ht] at hG1
    have hdc : d.cl = c.cl := by rw [hd]
    have HA := fun w => HAns (vw0 c) 1 8199 [b, s] w (vw0_in hOK.out hc.1) (by show 2 ≤ 300; decide)
    rw [hA1] at HA
    have HAH := hid HA
    have HD9 := hid hd
    clear hset hA1 HA
    have st2 := fun w => str2 w b s
    by_cases hcond : (b.toNat : Int) < 128
    · have hokd : CfOk d := by
        have h := hOK.out
        rw [hd]
        unfold CfOk at h ⊢
        exact ⟨h.1, h.2.1, h.2.2.1, ⟨(by show 0 ≤ (b.toNat : Int); omega), (by show (b.toNat : Int) ≤ 127; omega)⟩, h.2.2.2.2.1, h.2.2.2.2.2.1, h.2.2.2.2.2.2.1, h.2.2.2.2.2.2.2.1, h.2.2.2.2.2.2.2.2.1, h.2.2.2.2.2.2.2.2.2.1, h.2.2.2.2.2.2.2.2.2.2.1, h.2.2.2.2.2.2.2.2.2.2.2.1, h.2.2.2.2.2.2.2.2.2.2.2.2.1, h.2.2.2.2.2.2.2.2.2.2.2.2.2.1, h.2.2.2.2.2.2.2.2.2.2.2.2.2.2.1, h.2.2.2.2.2.2.2.2.2.2.2.2.2.2.2.1, h.2.2.2.2.2.2.2.2.2.2.2.2.2.2.2.2.1, h.2.2.2.2.2.2.2.2.2.2.2.2.2.2.2.2.2.1, h.2.2.2.2.2.2.2.2.2.2.2.2.2.2.2.2.2.2.1, h.2.2.2.2.2.2.2.2.2.2.2.2.2.2.2.2.2.2.2.1, h.2.2.2.2.2.2.2.2.2.2.2.2.2.2.2.2.2.2.2.2⟩
      have hA2 : setA (vw0 c) 8199 d = ⟨[b, 0], d, 0⟩ := by
        unfold setA
        rw [if_pos hokd]
        show An.mk (toldS (vw0 d) 8199) d 0 = _
        rw [ht]
      have HG := fun w => HAns (vw0 d) 0 8199 [104, 111, 112] w (vw0_in hokd (by rw [hdc]; exact hc.1)) (by show 3 ≤ 300; decide)
      rw [hG1] at HG
      have HGH := hid HG
      clear HG
      have HA := HAH.out
      rw [hA2] at HA
      replace HAH := hid HA
      clear HA hA2 hokd hG1 ht hdc hd
      have hwb : IntKind.i64.wrap (b.toNat : Int) = (b.toNat : Int) := by rw [IntKind.wrap_i64]; omega
      have q1 : decide ((b.toNat : Int) < 128) = true := decide_eq_true hcond
      clear hcond
      go_wp2_with (first | (guard_target =~ wpList _ _ _ (⟨some 27, _, _, _, _, _⟩ :: _) _ _; refine cfT.load (op := ⟨some 27, .load _ _, _, _, _, _⟩) (by rfl) _ (by rfl) G 0 (by rfl) (c) C.rangeK ?_) | (guard_target =~ wpList _ _ _ (⟨some 28, _, _, _, _, _⟩ :: _) _ _; refine wpList_build_any (op := ⟨some 28, .build _ _, _, _, _, _⟩) (by rfl) _ _ (by rfl) _ (by rfl) (vwL (vw0 c)).toArray (by kernel_rfl) ?_))
      have z1 := bnew w1 (Obj.cells #[.int .u8 (b.toNat : Int), .int .u8 (s.toNat : Int)] 5)
      generalize w1.alloc (Obj.cells #[.int .u8 (b.toNat : Int), .int .u8 (s.toNat : Int)] 5) = wA at *
      replace C := C.below z1
      replace hb := bnext hb z1
      clear z1
      refine (HAH.out wA).mono ?_
      rintro e w2 ⟨rfl, bq⟩
      replace C := C.below bq
      replace hb := bnext hb bq
      clear bq
      clear st2
      have hn1 := bnew w2 (Obj.cells (cfK.enc (zeroC)).toArray 28)
      have hM0 := Box.new w2 (cfK.enc (zeroC)) 28
      go_upto_region 5 with (guard_target =~ wpList _ _ _ (⟨none, _, _, _, _, _⟩ :: _) _ _; refine cfT.store (op := ⟨none, .store _ _ _, _, _, _, _⟩) (by rfl) _ _ (by rfl) (w2.heap.size) (d) (zeroC) _ (by rfl) (by rfl) hM0 ?_)
      have n_C_D : G ≠ w2.heap.size := by have h1 := C.lt; have h2 := Nat.le_refl w2.heap.size; omega
      have l_D : w.heap.size ≤ w2.heap.size := Nat.le_trans hb.size (Nat.le_refl w2.heap.size)
      have D := hM0.rowK (cfK.enc (d))
      replace C := (C.below hn1).rowK_other (k := w2.heap.size) n_C_D (cfK.enc (d)).toArray
      have hW := below_setRow hn1 (Nat.le_refl _) (cfK.enc (d)).toArray
      replace hb := bnext hb hW
      change Code.wp Try.prog _ _ _ ((w2.alloc (Obj.cells (cfK.enc (zeroC)).toArray 28)).setRow w2.heap.size (cfK.enc (d)).toArray)
      generalize (w2.alloc (Obj.cells (cfK.enc (zeroC)).toArray 28)).setRow w2.heap.size (cfK.enc (d)).toArray = w3 at *
      clear hn1 hM0 hW
      generalize w2.heap.size = g1 at *
      have hn1 := bnew w3 (Obj.cells (cfK.enc (zeroC)).toArray 28)
      have hM0 := Box.new w3 (cfK.enc (zeroC)) 28
      go_upto_region 6 with (first | (guard_target =~ wpList _ _ _ (⟨some 38, _, _, _, _, _⟩ :: _) _ _; refine cfT.load (op := ⟨some 38, .load _ _, _, _, _, _⟩) (by rfl) _ (by rfl) G 0 (by rfl) (c) C.rangeK ?_) | (guard_target =~ wpList _ _ _ (⟨none, _, _, _, _, _⟩ :: _) _ _; refine cfT.store (op := ⟨none, .store _ _ _, _, _, _, _⟩) (by rfl) _ _ (by rfl) (w3.heap.size) (c) (zeroC) _ (by rfl) (by rfl) hM0 ?_))
      have n_C_Wt : G ≠ w3.heap.size := by have h1 := C.lt; have h2 := Nat.le_refl w3.heap.size; omega
      have n_D_Wt : g1 ≠ w3.heap.size := by have h1 := D.lt; have h2 := Nat.le_refl w3.heap.size; omega
      have l_Wt : w.heap.size ≤ w3.heap.size := Nat.le_trans hb.size (Nat.le_refl w3.heap.size)
      have Wt := hM0.rowK (cfK.enc (c))
      replace C := (C.below hn1).rowK_other (k := w3.heap.size) n_C_Wt (cfK.enc (c)).toArray
      replace D := (D.below hn1).rowK_other (k := w3.heap.size) n_D_Wt (cfK.enc (c)).toArray
      have hW := below_setRow hn1 (Nat.le_refl _) (cfK.enc (c)).toArray
      replace hb := bnext hb hW
      change Code.wp Try.prog _ _ _ ((w3.alloc (Obj.cells (cfK.enc (zeroC)).toArray 28)).setRow w3.heap.size (cfK.enc (c)).toArray)
      generalize (w3.alloc (Obj.cells (cfK.enc (zeroC)).toArray 28)).setRow w3.heap.size (cfK.enc (c)).toArray = w4 at *
      clear hn1 hM0 hW
      generalize w3.heap.size = g2 at *
      have hc := Wt.cell 2 _ rfl
      have hf := Wt.free 2
      go_upto_region 22 with fail
      replace Wt := Wt.set 2 (.int .i64 ((b.toNat : Int)))
      replace C := C.other n_C_Wt 2 (.int .i64 ((b.toNat : Int)))
      replace D := D.other n_D_Wt 2 (.int .i64 ((b.toNat : Int)))
      replace hb := hb.setCell (p := ⟨g2, 2, none⟩) l_Wt (.int .i64 ((b.toNat : Int)))
      generalize World.setCell _ _ _ = w5 at *
      clear hc hf
      replace Wt : Box w5 g2 (cfK.enc d) 28 := by rw [HD9.out]; exact Wt
      have sm := same_cf d
      have st20 := fun w => str20 w b
      go_wp2_with (first | (guard_target =~ wpList _ _ _ (⟨some 103, _, _, _, _, _⟩ :: _) _ _; refine cfT.load (op := ⟨some 103, .load _ _, _, _, _, _⟩) (by rfl) _ (by rfl) g1 0 (by rfl) (d) D.rangeK ?_) | (guard_target =~ wpList _ _ _ (⟨some 104, _, _, _, _, _⟩ :: _) _ _; refine wpList_build_any (op := ⟨some 104, .build _ _, _, _, _, _⟩) (by rfl) _ _ (by rfl) _ (by rfl) (vwL (vw0 d)).toArray (by kernel_rfl) ?_))
      refine (HGH.out w5).mono ?_
      rintro e w6 ⟨rfl, bq⟩
      replace C := C.below bq
      replace D := D.below bq
      replace Wt := Wt.below bq
      replace hb := bnext hb bq
      clear bq
      have hn1 := bnew w6 (Obj.cells (cfK.enc (zeroC)).toArray 28)
      have hM0 := Box.new w6 (cfK.enc (zeroC)) 28
      go_upto_region 25 with (guard_target =~ wpList _ _ _ (⟨none, _, _, _, _, _⟩ :: _) _ _; refine cfT.store (op := ⟨none, .store _ _ _, _, _, _, _⟩) (by rfl) _ _ (by rfl) (w6.heap.size) (d) (zeroC) _ (by rfl) (by rfl) hM0 ?_)
      have n_C_F : G ≠ w6.heap.size := by have h1 := C.lt; have h2 := Nat.le_refl w6.heap.size; omega
      have n_D_F : g1 ≠ w6.heap.size := by have h1 := D.lt; have h2 := Nat.le_refl w6.heap.size; omega
      have n_Wt_F : g2 ≠ w6.heap.size := by have h1 := Wt.lt; have h2 := Nat.le_refl w6.heap.size; omega
      have l_F : w.heap.size ≤ w6.heap.size := Nat.le_trans hb.size (Nat.le_refl w6.heap.size)
      have F := hM0.rowK (cfK.enc (d))
      replace C := (C.below hn1).rowK_other (k := w6.heap.size) n_C_F (cfK.enc (d)).toArray
      replace D := (D.below hn1).rowK_other (k := w6.heap.size) n_D_F (cfK.enc (d)).toArray
      replace Wt := (Wt.below hn1).rowK_other (k := w6.heap.size) n_Wt_F (cfK.enc (d)).toArray
      have hW := below_setRow hn1 (Nat.le_refl _) (cfK.enc (d)).toArray
      replace hb := bnext hb hW
      change Code.wp Try.prog _ _ _ ((w6.alloc (Obj.cells (cfK.enc (zeroC)).toArray 28)).setRow w6.heap.size (cfK.enc (d)).toArray)
      generalize (w6.alloc (Obj.cells (cfK.enc (zeroC)).toArray 28)).setRow w6.heap.size (cfK.enc (d)).toArray = w7 at *
      clear hn1 hM0 hW
      generalize w6.heap.size = g3 at *
      go_wp2_with (first | (guard_target =~ wpList _ _ _ (⟨some 113, _, _, _, _, _⟩ :: _) _ _; refine cfT.load_g (op := ⟨some 113, .load _ _, _, _, _, _⟩) (by rfl) _ (by rfl) g1 0 (by rfl) (d) D.rangeK ?_) | (guard_target =~ wpList _ _ _ (⟨some 114, _, _, _, _, _⟩ :: _) _ _; refine cfT.load_g (op := ⟨some 114, .load _ _, _, _, _, _⟩) (by rfl) _ (by rfl) g2 0 (by rfl) (d) Wt.rangeK ?_) | (guard_target =~ wpList _ _ _ (⟨some 134, _, _, _, _, _⟩ :: _) _ _; refine cfT.load_g (op := ⟨some 134, .load _ _, _, _, _, _⟩) (by rfl) _ (by rfl) g3 0 (by rfl) (d) (F.below (bnew _ _)).rangeK ?_) | (guard_target =~ wpList _ _ _ (⟨some 135, _, _, _, _, _⟩ :: _) _ _; refine cfT.load_g (op := ⟨some 135, .load _ _, _, _, _, _⟩) (by rfl) _ (by rfl) g1 0 (by rfl) (d) (D.below (bnew _ _)).rangeK ?_))
      refine (awake22_from HDef HAns HKno HPer _).mono ?_
      rintro e wz ⟨rfl, bz⟩
      go_wp2_with fail
      go_ret
      exact ⟨rfl, bnext (bnext hb (bnew _ _)) bz⟩
    · have hokd : ¬ CfOk d := by
        rw [hd]
        intro h
        unfold CfOk at h
        have h9 : 0 ≤ (b.toNat : Int) ∧ (b.toNat : Int) ≤ 127 := h.2.2.2.1
        exact hcond (by have := h9.2; omega)
      have hA2 : setA (vw0 c) 8199 d = ⟨[], c, 4⟩ := if_neg hokd
      have HA := HAH.out
      rw [hA2] at HA
      replace HAH := hid HA
      clear HA hA2 hokd hG1 ht hdc hd
      have hwb : IntKind.i64.wrap (b.toNat : Int) = (b.toNat : Int) := by rw [IntKind.wrap_i64]; omega
      have q1 : decide ((b.toNat : Int) < 128) = false := decide_eq_false hcond
      clear hcond
      go_wp2_with (first | (guard_target =~ wpList _ _ _ (⟨some 27, _, _, _, _, _⟩ :: _) _ _; refine cfT.load (op := ⟨some 27, .load _ _, _, _, _, _⟩) (by rfl) _ (by rfl) G 0 (by rfl) (c) C.rangeK ?_) | (guard_target =~ wpList _ _ _ (⟨some 28, _, _, _, _, _⟩ :: _) _ _; refine wpList_build_any (op := ⟨some 28, .build _ _, _, _, _, _⟩) (by rfl) _ _ (by rfl) _ (by rfl) (vwL (vw0 c)).toArray (by kernel_rfl) ?_))
      have z1 := bnew w1 (Obj.cells #[.int .u8 (b.toNat : Int), .int .u8 (s.toNat : Int)] 5)
      generalize w1.alloc (Obj.cells #[.int .u8 (b.toNat : Int), .int .u8 (s.toNat : Int)] 5) = wA at *
      replace C := C.below z1
      replace hb := bnext hb z1
      clear z1
      refine (HAH.out wA).mono ?_
      rintro e w2 ⟨rfl, bq⟩
      replace C := C.below bq
      replace hb := bnext hb bq
      clear bq
      clear st2
      have hn1 := bnew w2 (Obj.cells (cfK.enc (zeroC)).toArray 28)
      have hM0 := Box.new w2 (cfK.enc (zeroC)) 28
      go_upto_region 5 with (guard_target =~ wpList _ _ _ (⟨none, _, _, _, _, _⟩ :: _) _ _; refine cfT.store (op := ⟨none, .store _ _ _, _, _, _, _⟩) (by rfl) _ _ (by rfl) (w2.heap.size) (c) (zeroC) _ (by rfl) (by rfl) hM0 ?_)
      have n_C_D : G ≠ w2.heap.size := by have h1 := C.lt; have h2 := Nat.le_refl w2.heap.size; omega
      have l_D : w.heap.size ≤ w2.heap.size := Nat.le_trans hb.size (Nat.le_refl w2.heap.size)
      have D := hM0.rowK (cfK.enc (c))
      replace C := (C.below hn1).rowK_other (k := w2.heap.size) n_C_D (cfK.enc (c)).toArray
      have hW := below_setRow hn1 (Nat.le_refl _) (cfK.enc (c)).toArray
      replace hb := bnext hb hW
      change Code.wp Try.prog _ _ _ ((w2.alloc (Obj.cells (cfK.enc (zeroC)).toArray 28)).setRow w2.heap.size (cfK.enc (c)).toArray)
      generalize (w2.alloc (Obj.cells (cfK.enc (zeroC)).toArray 28)).setRow w2.heap.size (cfK.enc (c)).toArray = w3 at *
      clear hn1 hM0 hW
      generalize w2.heap.size = g1 at *
      have hn1 := bnew w3 (Obj.cells (cfK.enc (zeroC)).toArray 28)
      have hM0 := Box.new w3 (cfK.enc (zeroC)) 28
      go_upto_region 6 with (first | (guard_target =~ wpList _ _ _ (⟨some 38, _, _, _, _, _⟩ :: _) _ _; refine cfT.load (op := ⟨some 38, .load _ _, _, _, _, _⟩) (by rfl) _ (by rfl) G 0 (by rfl) (c) C.rangeK ?_) | (guard_target =~ wpList _ _ _ (⟨none, _, _, _, _, _⟩ :: _) _ _; refine cfT.store (op := ⟨none, .store _ _ _, _, _, _, _⟩) (by rfl) _ _ (by rfl) (w3.heap.size) (c) (zeroC) _ (by rfl) (by rfl) hM0 ?_))
      have n_C_Wt : G ≠ w3.heap.size := by have h1 := C.lt; have h2 := Nat.le_refl w3.heap.size; omega
      have n_D_Wt : g1 ≠ w3.heap.size := by have h1 := D.lt; have h2 := Nat.le_refl w3.heap.size; omega
      have l_Wt : w.heap.size ≤ w3.heap.size := Nat.le_trans hb.size (Nat.le_refl w3.heap.size)
      have Wt := hM0.rowK (cfK.enc (c))
      replace C := (C.below hn1).rowK_other (k := w3.heap.size) n_C_Wt (cfK.enc (c)).toArray
      replace D := (D.below hn1).rowK_other (k := w3.heap.size) n_D_Wt (cfK.enc (c)).toArray
      have hW := below_setRow hn1 (Nat.le_refl _) (cfK.enc (c)).toArray
      replace hb := bnext hb hW
      change Code.wp Try.prog _ _ _ ((w3.alloc (Obj.cells (cfK.enc (zeroC)).toArray 28)).setRow w3.heap.size (cfK.enc (c)).toArray)
      generalize (w3.alloc (Obj.cells (cfK.enc (zeroC)).toArray 28)).setRow w3.heap.size (cfK.enc (c)).toArray = w4 at *
      clear hn1 hM0 hW
      generalize w3.heap.size = g2 at *
      have hc := Wt.cell 2 _ rfl
      have hf := Wt.free 2
      go_upto_region 22 with fail
      replace Wt := Wt.set 2 (.int .i64 ((b.toNat : Int)))
      replace C := C.other n_C_Wt 2 (.int .i64 ((b.toNat : Int)))
      replace D := D.other n_D_Wt 2 (.int .i64 ((b.toNat : Int)))
      replace hb := hb.setCell (p := ⟨g2, 2, none⟩) l_Wt (.int .i64 ((b.toNat : Int)))
      generalize World.setCell _ _ _ = w5 at *
      clear hc hf
      have sm := same_cf c
      go_wp2_with (first | (guard_target =~ wpList _ _ _ (⟨some 91, _, _, _, _, _⟩ :: _) _ _; refine cfT.load_g (op := ⟨some 91, .load _ _, _, _, _, _⟩) (by rfl) _ (by rfl) g1 0 (by rfl) (c) D.rangeK ?_) | (guard_target =~ wpList _ _ _ (⟨some 92, _, _, _, _, _⟩ :: _) _ _; refine cfT.load_g (op := ⟨some 92, .load _ _, _, _, _, _⟩) (by rfl) _ (by rfl) G 0 (by rfl) (c) C.rangeK ?_))
      refine (awake22_from HDef HAns HKno HPer _).mono ?_
      rintro e wz ⟨rfl, bz⟩
      go_wp2_with fail
      go_ret
      exact ⟨rfl, bnext hb bz⟩
  · clear hy0 hy1
    go_upto_region 4 with (guard_target =~ wpList _ _ _ (⟨some 25, _, _, _, _, _⟩ :: _) _ _; refine @wpList_indexA _ _ ⟨some 25, .index 32 (.tmp 22) (.tmp 24), _, _, _, _⟩ _ _ _ (by rfl) 32 _ _ (by rfl) (.agg ([.int .i64 8197, .int .i64 8198, .int .i64 8199, .int .i64 8208, .int .i64 8202, .int .i64 8203]).toArray) (.int .i64 3) (.int .i64 8208) (by rfl) (by rfl) (by kernel_rfl) ?_)
    obtain ⟨d, hd⟩ : ∃ d : Cf, d = { c with qa := (b.toNat : Int) } := ⟨_, rfl⟩
    have hset : setM c 8208 [b, s] = d := by
      rw [hd]
      show { c with qa := _ } = _
      rw [num_two]
    have hA1 := ans_set (id := 8208) (by decide) (by decide) (by decide) hset
    have hG1 := ans_get (d := d) (id := 8208) [104, 111, 112] (by decide) (by decide)
    have ht : toldS (vw0 d) 8208 = [b, 0] := by
      show twoS d.qa = _
      rw [hd]
      exact two_b b
    rw [ht] at hG1
    have hdc : d.cl = c.cl := by rw [hd]
    have HA := fun w => HAns (vw0 c) 1 8208 [b, s] w (vw0_in hOK.out hc.1) (by show 2 ≤ 300; decide)
    rw [hA1] at HA
    have HAH := hid HA
    have HD9 := hid hd
    clear hset hA1 HA
    have st2 := fun w => str2 w b s
    have hokd : CfOk d := by
      have h := hOK.out
      rw [hd]
      unfold CfOk at h ⊢
      exact ⟨h.1, h.2.1, h.2.2.1, h.2.2.2.1, h.2.2.2.2.1, h.2.2.2.2.2.1, h.2.2.2.2.2.2.1, ⟨(by show 0 ≤ (b.toNat : Int); omega), (by show (b.toNat : Int) ≤ 255; omega)⟩, h.2.2.2.2.2.2.2.2.1, h.2.2.2.2.2.2.2.2.2.1, h.2.2.2.2.2.2.2.2.2.2.1, h.2.2.2.2.2.2.2.2.2.2.2.1, h.2.2.2.2.2.2.2.2.2.2.2.2.1, h.2.2.2.2.2.2.2.2.2.2.2.2.2.1, h.2.2.2.2.2.2.2.2.2.2.2.2.2.2.1, h.2.2.2.2.2.2.2.2.2.2.2.2.2.2.2.1, h.2.2.2.2.2.2.2.2.2.2.2.2.2.2.2.2.1, h.2.2.2.2.2.2.2.2.2.2.2.2.2.2.2.2.2.1, h.2.2.2.2.2.2.2.2.2.2.2.2.2.2.2.2.2.2.1, h.2.2.2.2.2.2.2.2.2.2.2.2.2.2.2.2.2.2.2.1, h.2.2.2.2.2.2.2.2.2.2.2.2.2.2.2.2.2.2.2.2⟩
    have hA2 : setA (vw0 c) 8208 d = ⟨[b, 0], d, 0⟩ := by
      unfold setA
      rw [if_pos hokd]
      show An.mk (toldS (vw0 d) 8208) d 0 = _
      rw [ht]
    have HG := fun w => HAns (vw0 d) 0 8208 [104, 111, 112] w (vw0_in hokd (by rw [hdc]; exact hc.1)) (by show 3 ≤ 300; decide)
    rw [hG1] at HG
    have HGH := hid HG
    clear HG
    have HA := HAH.out
    rw [hA2] at HA
    replace HAH := hid HA
    clear HA hA2 hokd hG1 ht hdc hd
    have hwb : IntKind.i64.wrap (b.toNat : Int) = (b.toNat : Int) := by rw [IntKind.wrap_i64]; omega

    go_wp2_with (first | (guard_target =~ wpList _ _ _ (⟨some 27, _, _, _, _, _⟩ :: _) _ _; refine cfT.load (op := ⟨some 27, .load _ _, _, _, _, _⟩) (by rfl) _ (by rfl) G 0 (by rfl) (c) C.rangeK ?_) | (guard_target =~ wpList _ _ _ (⟨some 28, _, _, _, _, _⟩ :: _) _ _; refine wpList_build_any (op := ⟨some 28, .build _ _, _, _, _, _⟩) (by rfl) _ _ (by rfl) _ (by rfl) (vwL (vw0 c)).toArray (by kernel_rfl) ?_))
    have z1 := bnew w1 (Obj.cells #[.int .u8 (b.toNat : Int), .int .u8 (s.toNat : Int)] 5)
    generalize w1.alloc (Obj.cells #[.int .u8 (b.toNat : Int), .int .u8 (s.toNat : Int)] 5) = wA at *
    replace C := C.below z1
    replace hb := bnext hb z1
    clear z1
    refine (HAH.out wA).mono ?_
    rintro e w2 ⟨rfl, bq⟩
    replace C := C.below bq
    replace hb := bnext hb bq
    clear bq
    clear st2
    have hn1 := bnew w2 (Obj.cells (cfK.enc (zeroC)).toArray 28)
    have hM0 := Box.new w2 (cfK.enc (zeroC)) 28
    go_upto_region 5 with (guard_target =~ wpList _ _ _ (⟨none, _, _, _, _, _⟩ :: _) _ _; refine cfT.store (op := ⟨none, .store _ _ _, _, _, _, _⟩) (by rfl) _ _ (by rfl) (w2.heap.size) (d) (zeroC) _ (by rfl) (by rfl) hM0 ?_)
    have n_C_D : G ≠ w2.heap.size := by have h1 := C.lt; have h2 := Nat.le_refl w2.heap.size; omega
    have l_D : w.heap.size ≤ w2.heap.size := Nat.le_trans hb.size (Nat.le_refl w2.heap.size)
    have D := hM0.rowK (cfK.enc (d))
    replace C := (C.below hn1).rowK_other (k := w2.heap.size) n_C_D (cfK.enc (d)).toArray
    have hW := below_setRow hn1 (Nat.le_refl _) (cfK.enc (d)).toArray
    replace hb := bnext hb hW
    change Code.wp Try.prog _ _ _ ((w2.alloc (Obj.cells (cfK.enc (zeroC)).toArray 28)).setRow w2.heap.size (cfK.enc (d)).toArray)
    generalize (w2.alloc (Obj.cells (cfK.enc (zeroC)).toArray 28)).setRow w2.heap.size (cfK.enc (d)).toArray = w3 at *
    clear hn1 hM0 hW
    generalize w2.heap.size = g1 at *
    have hn1 := bnew w3 (Obj.cells (cfK.enc (zeroC)).toArray 28)
    have hM0 := Box.new w3 (cfK.enc (zeroC)) 28
    go_upto_region 6 with (first | (guard_target =~ wpList _ _ _ (⟨some 38, _, _, _, _, _⟩ :: _) _ _; refine cfT.load (op := ⟨some 38, .load _ _, _, _, _, _⟩) (by rfl) _ (by rfl) G 0 (by rfl) (c) C.rangeK ?_) | (guard_target =~ wpList _ _ _ (⟨none, _, _, _, _, _⟩ :: _) _ _; refine cfT.store (op := ⟨none, .store _ _ _, _, _, _, _⟩) (by rfl) _ _ (by rfl) (w3.heap.size) (c) (zeroC) _ (by rfl) (by rfl) hM0 ?_))
    have n_C_Wt : G ≠ w3.heap.size := by have h1 := C.lt; have h2 := Nat.le_refl w3.heap.size; omega
    have n_D_Wt : g1 ≠ w3.heap.size := by have h1 := D.lt; have h2 := Nat.le_refl w3.heap.size; omega
    have l_Wt : w.heap.size ≤ w3.heap.size := Nat.le_trans hb.size (Nat.le_refl w3.heap.size)
    have Wt := hM0.rowK (cfK.enc (c))
    replace C := (C.below hn1).rowK_other (k := w3.heap.size) n_C_Wt (cfK.enc (c)).toArray
    replace D := (D.below hn1).rowK_other (k := w3.heap.size) n_D_Wt (cfK.enc (c)).toArray
    have hW := below_setRow hn1 (Nat.le_refl _) (cfK.enc (c)).toArray
    replace hb := bnext hb hW
    change Code.wp Try.prog _ _ _ ((w3.alloc (Obj.cells (cfK.enc (zeroC)).toArray 28)).setRow w3.heap.size (cfK.enc (c)).toArray)
    generalize (w3.alloc (Obj.cells (cfK.enc (zeroC)).toArray 28)).setRow w3.heap.size (cfK.enc (c)).toArray = w4 at *
    clear hn1 hM0 hW
    generalize w3.heap.size = g2 at *
    have hc := Wt.cell 6 _ rfl
    have hf := Wt.free 6
    go_upto_region 22 with fail
    replace Wt := Wt.set 6 (.int .i64 ((b.toNat : Int)))
    replace C := C.other n_C_Wt 6 (.int .i64 ((b.toNat : Int)))
    replace D := D.other n_D_Wt 6 (.int .i64 ((b.toNat : Int)))
    replace hb := hb.setCell (p := ⟨g2, 6, none⟩) l_Wt (.int .i64 ((b.toNat : Int)))
    generalize World.setCell _ _ _ = w5 at *
    clear hc hf
    replace Wt : Box w5 g2 (cfK.enc d) 28 := by rw [HD9.out]; exact Wt
    have sm := same_cf d
    have st20 := fun w => str20 w b
    go_wp2_with (first | (guard_target =~ wpList _ _ _ (⟨some 103, _, _, _, _, _⟩ :: _) _ _; refine cfT.load (op := ⟨some 103, .load _ _, _, _, _, _⟩) (by rfl) _ (by rfl) g1 0 (by rfl) (d) D.rangeK ?_) | (guard_target =~ wpList _ _ _ (⟨some 104, _, _, _, _, _⟩ :: _) _ _; refine wpList_build_any (op := ⟨some 104, .build _ _, _, _, _, _⟩) (by rfl) _ _ (by rfl) _ (by rfl) (vwL (vw0 d)).toArray (by kernel_rfl) ?_))
    refine (HGH.out w5).mono ?_
    rintro e w6 ⟨rfl, bq⟩
    replace C := C.below bq
    replace D := D.below bq
    replace Wt := Wt.below bq
    replace hb := bnext hb bq
    clear bq
    have hn1 := bnew w6 (Obj.cells (cfK.enc (zeroC)).toArray 28)
    have hM0 := Box.new w6 (cfK.enc (zeroC)) 28
    go_upto_region 25 with (guard_target =~ wpList _ _ _ (⟨none, _, _, _, _, _⟩ :: _) _ _; refine cfT.store (op := ⟨none, .store _ _ _, _, _, _, _⟩) (by rfl) _ _ (by rfl) (w6.heap.size) (d) (zeroC) _ (by rfl) (by rfl) hM0 ?_)
    have n_C_F : G ≠ w6.heap.size := by have h1 := C.lt; have h2 := Nat.le_refl w6.heap.size; omega
    have n_D_F : g1 ≠ w6.heap.size := by have h1 := D.lt; have h2 := Nat.le_refl w6.heap.size; omega
    have n_Wt_F : g2 ≠ w6.heap.size := by have h1 := Wt.lt; have h2 := Nat.le_refl w6.heap.size; omega
    have l_F : w.heap.size ≤ w6.heap.size := Nat.le_trans hb.size (Nat.le_refl w6.heap.size)
    have F := hM0.rowK (cfK.enc (d))
    replace C := (C.below hn1).rowK_other (k := w6.heap.size) n_C_F (cfK.enc (d)).toArray
    replace D := (D.below hn1).rowK_other (k := w6.heap.size) n_D_F (cfK.enc (d)).toArray
    replace Wt := (Wt.below hn1).rowK_other (k := w6.heap.size) n_Wt_F (cfK.enc (d)).toArray
    have hW := below_setRow hn1 (Nat.le_refl _) (cfK.enc (d)).toArray
    replace hb := bnext hb hW
    change Code.wp Try.prog _ _ _ ((w6.alloc (Obj.cells (cfK.enc (zeroC)).toArray 28)).setRow w6.heap.size (cfK.enc (d)).toArray)
    generalize (w6.alloc (Obj.cells (cfK.enc (zeroC)).toArray 28)).setRow w6.heap.size (cfK.enc (d)).toArray = w7 at *
    clear hn1 hM0 hW
    generalize w6.heap.size = g3 at *
    go_wp2_with (first | (guard_target =~ wpList _ _ _ (⟨some 113, _, _, _, _, _⟩ :: _) _ _; refine cfT.load_g (op := ⟨some 113, .load _ _, _, _, _, _⟩) (by rfl) _ (by rfl) g1 0 (by rfl) (d) D.rangeK ?_) | (guard_target =~ wpList _ _ _ (⟨some 114, _, _, _, _, _⟩ :: _) _ _; refine cfT.load_g (op := ⟨some 114, .load _ _, _, _, _, _⟩) (by rfl) _ (by rfl) g2 0 (by rfl) (d) Wt.rangeK ?_) | (guard_target =~ wpList _ _ _ (⟨some 134, _, _, _, _, _⟩ :: _) _ _; refine cfT.load_g (op := ⟨some 134, .load _ _, _, _, _, _⟩) (by rfl) _ (by rfl) g3 0 (by rfl) (d) (F.below (bnew _ _)).rangeK ?_) | (guard_target =~ wpList _ _ _ (⟨some 135, _, _, _, _, _⟩ :: _) _ _; refine cfT.load_g (op := ⟨some 135, .load _ _, _, _, _, _⟩) (by rfl) _ (by rfl) g1 0 (by rfl) (d) (D.below (bnew _ _)).rangeK ?_))
    refine (awake22_from HDef HAns HKno HPer _).mono ?_
    rintro e wz ⟨rfl, bz⟩
    go_wp2_with fail
    go_ret
    exact ⟨rfl, bnext (bnext hb (bnew _ _)) bz⟩
  · clear hy0 hy1
    go_upto_region 4 with (guard_target =~ wpList _ _ _ (⟨some 25, _, _, _, _, _⟩ :: _) _ _; refine @wpList_indexA _ _ ⟨some 25, .index 32 (.tmp 22) (.tmp 24), _, _, _, _⟩ _ _ _ (by rfl) 32 _ _ (by rfl) (.agg ([.int .i64 8197, .int .i64 8198, .int .i64 8199, .int .i64 8208, .int .i64 8202, .int .i64 8203]).toArray) (.int .i64 4) (.int .i64 8202) (by rfl) (by rfl) (by kernel_rfl) ?_)
    obtain ⟨d, hd⟩ : ∃ d : Cf, d = { c with tm := (b.toNat : Int) } := ⟨_, rfl⟩
    have hset : setM c 8202 [b, s] = d := by
      rw [hd]
      show { c with tm := _ } = _
      rw [num_two]
    have hA1 := ans_set (id := 8202) (by decide) (by decide) (by decide) hset
    have hG1 := ans_get (d := d) (id := 8202) [104, 111, 112] (by decide) (by decide)
    have ht : toldS (vw0 d) 8202 = [b, 0] := by
      show twoS d.tm = _
      rw [hd]
      exact two_b b
    rw [ht] at hG1
    have hdc : d.cl = c.cl := by rw [hd]
    have HA := fun w => HAns (vw0 c) 1 8202 [b, s] w (vw0_in hOK.out hc.1) (by show 2 ≤ 300; decide)
    rw [hA1] at HA
    have HAH := hid HA
    have HD9 := hid hd
    clear hset hA1 HA
    have st2 := fun w => str2 w b s
    by_cases hcond : 2 ≤ (b.toNat : Int) ∧ (b.toNat : Int) ≤ 10
    · have hokd : CfOk d := by
        have h := hOK.out
        rw [hd]
        unfold CfOk at h ⊢
        exact ⟨h.1, h.2.1, h.2.2.1, h.2.2.2.1, h.2.2.2.2.1, h.2.2.2.2.2.1, h.2.2.2.2.2.2.1, h.2.2.2.2.2.2.2.1, h.2.2.2.2.2.2.2.2.1, h.2.2.2.2.2.2.2.2.2.1, h.2.2.2.2.2.2.2.2.2.2.1, h.2.2.2.2.2.2.2.2.2.2.2.1, hcond, h.2.2.2.2.2.2.2.2.2.2.2.2.2.1, h.2.2.2.2.2.2.2.2.2.2.2.2.2.2.1, h.2.2.2.2.2.2.2.2.2.2.2.2.2.2.2.1, h.2.2.2.2.2.2.2.2.2.2.2.2.2.2.2.2.1, h.2.2.2.2.2.2.2.2.2.2.2.2.2.2.2.2.2.1, h.2.2.2.2.2.2.2.2.2.2.2.2.2.2.2.2.2.2.1, h.2.2.2.2.2.2.2.2.2.2.2.2.2.2.2.2.2.2.2.1, h.2.2.2.2.2.2.2.2.2.2.2.2.2.2.2.2.2.2.2.2⟩
      have hA2 : setA (vw0 c) 8202 d = ⟨[b, 0], d, 0⟩ := by
        unfold setA
        rw [if_pos hokd]
        show An.mk (toldS (vw0 d) 8202) d 0 = _
        rw [ht]
      have HG := fun w => HAns (vw0 d) 0 8202 [104, 111, 112] w (vw0_in hokd (by rw [hdc]; exact hc.1)) (by show 3 ≤ 300; decide)
      rw [hG1] at HG
      have HGH := hid HG
      clear HG
      have HA := HAH.out
      rw [hA2] at HA
      replace HAH := hid HA
      clear HA hA2 hokd hG1 ht hdc hd
      have hwb : IntKind.i64.wrap (b.toNat : Int) = (b.toNat : Int) := by rw [IntKind.wrap_i64]; omega
      have q1 : decide ((2 : Int) ≤ (b.toNat : Int)) = true := decide_eq_true hcond.1
      have q2 : decide ((b.toNat : Int) ≤ 10) = true := decide_eq_true hcond.2
      clear hcond
      go_wp2_with (first | (guard_target =~ wpList _ _ _ (⟨some 27, _, _, _, _, _⟩ :: _) _ _; refine cfT.load (op := ⟨some 27, .load _ _, _, _, _, _⟩) (by rfl) _ (by rfl) G 0 (by rfl) (c) C.rangeK ?_) | (guard_target =~ wpList _ _ _ (⟨some 28, _, _, _, _, _⟩ :: _) _ _; refine wpList_build_any (op := ⟨some 28, .build _ _, _, _, _, _⟩) (by rfl) _ _ (by rfl) _ (by rfl) (vwL (vw0 c)).toArray (by kernel_rfl) ?_))
      have z1 := bnew w1 (Obj.cells #[.int .u8 (b.toNat : Int), .int .u8 (s.toNat : Int)] 5)
      generalize w1.alloc (Obj.cells #[.int .u8 (b.toNat : Int), .int .u8 (s.toNat : Int)] 5) = wA at *
      replace C := C.below z1
      replace hb := bnext hb z1
      clear z1
      refine (HAH.out wA).mono ?_
      rintro e w2 ⟨rfl, bq⟩
      replace C := C.below bq
      replace hb := bnext hb bq
      clear bq
      clear st2
      have hn1 := bnew w2 (Obj.cells (cfK.enc (zeroC)).toArray 28)
      have hM0 := Box.new w2 (cfK.enc (zeroC)) 28
      go_upto_region 5 with (guard_target =~ wpList _ _ _ (⟨none, _, _, _, _, _⟩ :: _) _ _; refine cfT.store (op := ⟨none, .store _ _ _, _, _, _, _⟩) (by rfl) _ _ (by rfl) (w2.heap.size) (d) (zeroC) _ (by rfl) (by rfl) hM0 ?_)
      have n_C_D : G ≠ w2.heap.size := by have h1 := C.lt; have h2 := Nat.le_refl w2.heap.size; omega
      have l_D : w.heap.size ≤ w2.heap.size := Nat.le_trans hb.size (Nat.le_refl w2.heap.size)
      have D := hM0.rowK (cfK.enc (d))
      replace C := (C.below hn1).rowK_other (k := w2.heap.size) n_C_D (cfK.enc (d)).toArray
      have hW := below_setRow hn1 (Nat.le_refl _) (cfK.enc (d)).toArray
      replace hb := bnext hb hW
      change Code.wp Try.prog _ _ _ ((w2.alloc (Obj.cells (cfK.enc (zeroC)).toArray 28)).setRow w2.heap.size (cfK.enc (d)).toArray)
      generalize (w2.alloc (Obj.cells (cfK.enc (zeroC)).toArray 28)).setRow w2.heap.size (cfK.enc (d)).toArray = w3 at *
      clear hn1 hM0 hW
      generalize w2.heap.size = g1 at *
      have hn1 := bnew w3 (Obj.cells (cfK.enc (zeroC)).toArray 28)
      have hM0 := Box.new w3 (cfK.enc (zeroC)) 28
      go_upto_region 6 with (first | (guard_target =~ wpList _ _ _ (⟨some 38, _, _, _, _, _⟩ :: _) _ _; refine cfT.load (op := ⟨some 38, .load _ _, _, _, _, _⟩) (by rfl) _ (by rfl) G 0 (by rfl) (c) C.rangeK ?_) | (guard_target =~ wpList _ _ _ (⟨none, _, _, _, _, _⟩ :: _) _ _; refine cfT.store (op := ⟨none, .store _ _ _, _, _, _, _⟩) (by rfl) _ _ (by rfl) (w3.heap.size) (c) (zeroC) _ (by rfl) (by rfl) hM0 ?_))
      have n_C_Wt : G ≠ w3.heap.size := by have h1 := C.lt; have h2 := Nat.le_refl w3.heap.size; omega
      have n_D_Wt : g1 ≠ w3.heap.size := by have h1 := D.lt; have h2 := Nat.le_refl w3.heap.size; omega
      have l_Wt : w.heap.size ≤ w3.heap.size := Nat.le_trans hb.size (Nat.le_refl w3.heap.size)
      have Wt := hM0.rowK (cfK.enc (c))
      replace C := (C.below hn1).rowK_other (k := w3.heap.size) n_C_Wt (cfK.enc (c)).toArray
      replace D := (D.below hn1).rowK_other (k := w3.heap.size) n_D_Wt (cfK.enc (c)).toArray
      have hW := below_setRow hn1 (Nat.le_refl _) (cfK.enc (c)).toArray
      replace hb := bnext hb hW
      change Code.wp Try.prog _ _ _ ((w3.alloc (Obj.cells (cfK.enc (zeroC)).toArray 28)).setRow w3.heap.size (cfK.enc (c)).toArray)
      generalize (w3.alloc (Obj.cells (cfK.enc (zeroC)).toArray 28)).setRow w3.heap.size (cfK.enc (c)).toArray = w4 at *
      clear hn1 hM0 hW
      generalize w3.heap.size = g2 at *
      have hc := Wt.cell 12 _ rfl
      have hf := Wt.free 12
      go_upto_region 22 with fail
      replace Wt := Wt.set 12 (.int .i64 ((b.toNat : Int)))
      replace C := C.other n_C_Wt 12 (.int .i64 ((b.toNat : Int)))
      replace D := D.other n_D_Wt 12 (.int .i64 ((b.toNat : Int)))
      replace hb := hb.setCell (p := ⟨g2, 12, none⟩) l_Wt (.int .i64 ((b.toNat : Int)))
      generalize World.setCell _ _ _ = w5 at *
      clear hc hf
      replace Wt : Box w5 g2 (cfK.enc d) 28 := by rw [HD9.out]; exact Wt
      have sm := same_cf d
      have st20 := fun w => str20 w b
      go_wp2_with (first | (guard_target =~ wpList _ _ _ (⟨some 103, _, _, _, _, _⟩ :: _) _ _; refine cfT.load (op := ⟨some 103, .load _ _, _, _, _, _⟩) (by rfl) _ (by rfl) g1 0 (by rfl) (d) D.rangeK ?_) | (guard_target =~ wpList _ _ _ (⟨some 104, _, _, _, _, _⟩ :: _) _ _; refine wpList_build_any (op := ⟨some 104, .build _ _, _, _, _, _⟩) (by rfl) _ _ (by rfl) _ (by rfl) (vwL (vw0 d)).toArray (by kernel_rfl) ?_))
      refine (HGH.out w5).mono ?_
      rintro e w6 ⟨rfl, bq⟩
      replace C := C.below bq
      replace D := D.below bq
      replace Wt := Wt.below bq
      replace hb := bnext hb bq
      clear bq
      have hn1 := bnew w6 (Obj.cells (cfK.enc (zeroC)).toArray 28)
      have hM0 := Box.new w6 (cfK.enc (zeroC)) 28
      go_upto_region 25 with (guard_target =~ wpList _ _ _ (⟨none, _, _, _, _, _⟩ :: _) _ _; refine cfT.store (op := ⟨none, .store _ _ _, _, _, _, _⟩) (by rfl) _ _ (by rfl) (w6.heap.size) (d) (zeroC) _ (by rfl) (by rfl) hM0 ?_)
      have n_C_F : G ≠ w6.heap.size := by have h1 := C.lt; have h2 := Nat.le_refl w6.heap.size; omega
      have n_D_F : g1 ≠ w6.heap.size := by have h1 := D.lt; have h2 := Nat.le_refl w6.heap.size; omega
      have n_Wt_F : g2 ≠ w6.heap.size := by have h1 := Wt.lt; have h2 := Nat.le_refl w6.heap.size; omega
      have l_F : w.heap.size ≤ w6.heap.size := Nat.le_trans hb.size (Nat.le_refl w6.heap.size)
      have F := hM0.rowK (cfK.enc (d))
      replace C := (C.below hn1).rowK_other (k := w6.heap.size) n_C_F (cfK.enc (d)).toArray
      replace D := (D.below hn1).rowK_other (k := w6.heap.size) n_D_F (cfK.enc (d)).toArray
      replace Wt := (Wt.below hn1).rowK_other (k := w6.heap.size) n_Wt_F (cfK.enc (d)).toArray
      have hW := below_setRow hn1 (Nat.le_refl _) (cfK.enc (d)).toArray
      replace hb := bnext hb hW
      change Code.wp Try.prog _ _ _ ((w6.alloc (Obj.cells (cfK.enc (zeroC)).toArray 28)).setRow w6.heap.size (cfK.enc (d)).toArray)
      generalize (w6.alloc (Obj.cells (cfK.enc (zeroC)).toArray 28)).setRow w6.heap.size (cfK.enc (d)).toArray = w7 at *
      clear hn1 hM0 hW
      generalize w6.heap.size = g3 at *
      go_wp2_with (first | (guard_target =~ wpList _ _ _ (⟨some 113, _, _, _, _, _⟩ :: _) _ _; refine cfT.load_g (op := ⟨some 113, .load _ _, _, _, _, _⟩) (by rfl) _ (by rfl) g1 0 (by rfl) (d) D.rangeK ?_) | (guard_target =~ wpList _ _ _ (⟨some 114, _, _, _, _, _⟩ :: _) _ _; refine cfT.load_g (op := ⟨some 114, .load _ _, _, _, _, _⟩) (by rfl) _ (by rfl) g2 0 (by rfl) (d) Wt.rangeK ?_) | (guard_target =~ wpList _ _ _ (⟨some 134, _, _, _, _, _⟩ :: _) _ _; refine cfT.load_g (op := ⟨some 134, .load _ _, _, _, _, _⟩) (by rfl) _ (by rfl) g3 0 (by rfl) (d) (F.below (bnew _ _)).rangeK ?_) | (guard_target =~ wpList _ _ _ (⟨some 135, _, _, _, _, _⟩ :: _) _ _; refine cfT.load_g (op := ⟨some 135, .load _ _, _, _, _, _⟩) (by rfl) _ (by rfl) g1 0 (by rfl) (d) (D.below (bnew _ _)).rangeK ?_))
      refine (awake22_from HDef HAns HKno HPer _).mono ?_
      rintro e wz ⟨rfl, bz⟩
      go_wp2_with fail
      go_ret
      exact ⟨rfl, bnext (bnext hb (bnew _ _)) bz⟩
    · have hokd : ¬ CfOk d := by
        rw [hd]
        intro h
        unfold CfOk at h
        have h9 : 2 ≤ (b.toNat : Int) ∧ (b.toNat : Int) ≤ 10 := h.2.2.2.2.2.2.2.2.2.2.2.2.1
        exact hcond h9
      have hA2 : setA (vw0 c) 8202 d = ⟨[], c, 4⟩ := if_neg hokd
      have HA := HAH.out
      rw [hA2] at HA
      replace HAH := hid HA
      clear HA hA2 hokd hG1 ht hdc hd
      have hwb : IntKind.i64.wrap (b.toNat : Int) = (b.toNat : Int) := by rw [IntKind.wrap_i64]; omega
      by_cases hlo : (2 : Int) ≤ (b.toNat : Int)
      · have q1 : decide ((2 : Int) ≤ (b.toNat : Int)) = true := decide_eq_true hlo
        have q2 : decide ((b.toNat : Int) ≤ 10) = false := decide_eq_false (fun h => hcond ⟨hlo, h⟩)
        clear hcond hlo
        go_wp2_with (first | (guard_target =~ wpList _ _ _ (⟨some 27, _, _, _, _, _⟩ :: _) _ _; refine cfT.load (op := ⟨some 27, .load _ _, _, _, _, _⟩) (by rfl) _ (by rfl) G 0 (by rfl) (c) C.rangeK ?_) | (guard_target =~ wpList _ _ _ (⟨some 28, _, _, _, _, _⟩ :: _) _ _; refine wpList_build_any (op := ⟨some 28, .build _ _, _, _, _, _⟩) (by rfl) _ _ (by rfl) _ (by rfl) (vwL (vw0 c)).toArray (by kernel_rfl) ?_))
        have z1 := bnew w1 (Obj.cells #[.int .u8 (b.toNat : Int), .int .u8 (s.toNat : Int)] 5)
        generalize w1.alloc (Obj.cells #[.int .u8 (b.toNat : Int), .int .u8 (s.toNat : Int)] 5) = wA at *
        replace C := C.below z1
        replace hb := bnext hb z1
        clear z1
        refine (HAH.out wA).mono ?_
        rintro e w2 ⟨rfl, bq⟩
        replace C := C.below bq
        replace hb := bnext hb bq
        clear bq
        clear st2
        have hn1 := bnew w2 (Obj.cells (cfK.enc (zeroC)).toArray 28)
        have hM0 := Box.new w2 (cfK.enc (zeroC)) 28
        go_upto_region 5 with (guard_target =~ wpList _ _ _ (⟨none, _, _, _, _, _⟩ :: _) _ _; refine cfT.store (op := ⟨none, .store _ _ _, _, _, _, _⟩) (by rfl) _ _ (by rfl) (w2.heap.size) (c) (zeroC) _ (by rfl) (by rfl) hM0 ?_)
        have n_C_D : G ≠ w2.heap.size := by have h1 := C.lt; have h2 := Nat.le_refl w2.heap.size; omega
        have l_D : w.heap.size ≤ w2.heap.size := Nat.le_trans hb.size (Nat.le_refl w2.heap.size)
        have D := hM0.rowK (cfK.enc (c))
        replace C := (C.below hn1).rowK_other (k := w2.heap.size) n_C_D (cfK.enc (c)).toArray
        have hW := below_setRow hn1 (Nat.le_refl _) (cfK.enc (c)).toArray
        replace hb := bnext hb hW
        change Code.wp Try.prog _ _ _ ((w2.alloc (Obj.cells (cfK.enc (zeroC)).toArray 28)).setRow w2.heap.size (cfK.enc (c)).toArray)
        generalize (w2.alloc (Obj.cells (cfK.enc (zeroC)).toArray 28)).setRow w2.heap.size (cfK.enc (c)).toArray = w3 at *
        clear hn1 hM0 hW
        generalize w2.heap.size = g1 at *
        have hn1 := bnew w3 (Obj.cells (cfK.enc (zeroC)).toArray 28)
        have hM0 := Box.new w3 (cfK.enc (zeroC)) 28
        go_upto_region 6 with (first | (guard_target =~ wpList _ _ _ (⟨some 38, _, _, _, _, _⟩ :: _) _ _; refine cfT.load (op := ⟨some 38, .load _ _, _, _, _, _⟩) (by rfl) _ (by rfl) G 0 (by rfl) (c) C.rangeK ?_) | (guard_target =~ wpList _ _ _ (⟨none, _, _, _, _, _⟩ :: _) _ _; refine cfT.store (op := ⟨none, .store _ _ _, _, _, _, _⟩) (by rfl) _ _ (by rfl) (w3.heap.size) (c) (zeroC) _ (by rfl) (by rfl) hM0 ?_))
        have n_C_Wt : G ≠ w3.heap.size := by have h1 := C.lt; have h2 := Nat.le_refl w3.heap.size; omega
        have n_D_Wt : g1 ≠ w3.heap.size := by have h1 := D.lt; have h2 := Nat.le_refl w3.heap.size; omega
        have l_Wt : w.heap.size ≤ w3.heap.size := Nat.le_trans hb.size (Nat.le_refl w3.heap.size)
        have Wt := hM0.rowK (cfK.enc (c))
        replace C := (C.below hn1).rowK_other (k := w3.heap.size) n_C_Wt (cfK.enc (c)).toArray
        replace D := (D.below hn1).rowK_other (k := w3.heap.size) n_D_Wt (cfK.enc (c)).toArray
        have hW := below_setRow hn1 (Nat.le_refl _) (cfK.enc (c)).toArray
        replace hb := bnext hb hW
        change Code.wp Try.prog _ _ _ ((w3.alloc (Obj.cells (cfK.enc (zeroC)).toArray 28)).setRow w3.heap.size (cfK.enc (c)).toArray)
        generalize (w3.alloc (Obj.cells (cfK.enc (zeroC)).toArray 28)).setRow w3.heap.size (cfK.enc (c)).toArray = w4 at *
        clear hn1 hM0 hW
        generalize w3.heap.size = g2 at *
        have hc := Wt.cell 12 _ rfl
        have hf := Wt.free 12
        go_upto_region 22 with fail
        replace Wt := Wt.set 12 (.int .i64 ((b.toNat : Int)))
        replace C := C.other n_C_Wt 12 (.int .i64 ((b.toNat : Int)))
        replace D := D.other n_D_Wt 12 (.int .i64 ((b.toNat : Int)))
        replace hb := hb.setCell (p := ⟨g2, 12, none⟩) l_Wt (.int .i64 ((b.toNat : Int)))
        generalize World.setCell _ _ _ = w5 at *
        clear hc hf
        have sm := same_cf c
        go_wp2_with (first | (guard_target =~ wpList _ _ _ (⟨some 91, _, _, _, _, _⟩ :: _) _ _; refine cfT.load_g (op := ⟨some 91, .load _ _, _, _, _, _⟩) (by rfl) _ (by rfl) g1 0 (by rfl) (c) D.rangeK ?_) | (guard_target =~ wpList _ _ _ (⟨some 92, _, _, _, _, _⟩ :: _) _ _; refine cfT.load_g (op := ⟨some 92, .load _ _, _, _, _, _⟩) (by rfl) _ (by rfl) G 0 (by rfl) (c) C.rangeK ?_))
        refine (awake22_from HDef HAns HKno HPer _).mono ?_
        rintro e wz ⟨rfl, bz⟩
        go_wp2_with fail
        go_ret
        exact ⟨rfl, bnext hb bz⟩
      · have q1 : decide ((2 : Int) ≤ (b.toNat : Int)) = false := decide_eq_false hlo
        clear hcond hlo
        go_wp2_with (first | (guard_target =~ wpList _ _ _ (⟨some 27, _, _, _, _, _⟩ :: _) _ _; refine cfT.load (op := ⟨some 27, .load _ _, _, _, _, _⟩) (by rfl) _ (by rfl) G 0 (by rfl) (c) C.rangeK ?_) | (guard_target =~ wpList _ _ _ (⟨some 28, _, _, _, _, _⟩ :: _) _ _; refine wpList_build_any (op := ⟨some 28, .build _ _, _, _, _, _⟩) (by rfl) _ _ (by rfl) _ (by rfl) (vwL (vw0 c)).toArray (by kernel_rfl) ?_))
        have z1 := bnew w1 (Obj.cells #[.int .u8 (b.toNat : Int), .int .u8 (s.toNat : Int)] 5)
        generalize w1.alloc (Obj.cells #[.int .u8 (b.toNat : Int), .int .u8 (s.toNat : Int)] 5) = wA at *
        replace C := C.below z1
        replace hb := bnext hb z1
        clear z1
        refine (HAH.out wA).mono ?_
        rintro e w2 ⟨rfl, bq⟩
        replace C := C.below bq
        replace hb := bnext hb bq
        clear bq
        clear st2
        have hn1 := bnew w2 (Obj.cells (cfK.enc (zeroC)).toArray 28)
        have hM0 := Box.new w2 (cfK.enc (zeroC)) 28
        go_upto_region 5 with (guard_target =~ wpList _ _ _ (⟨none, _, _, _, _, _⟩ :: _) _ _; refine cfT.store (op := ⟨none, .store _ _ _, _, _, _, _⟩) (by rfl) _ _ (by rfl) (w2.heap.size) (c) (zeroC) _ (by rfl) (by rfl) hM0 ?_)
        have n_C_D : G ≠ w2.heap.size := by have h1 := C.lt; have h2 := Nat.le_refl w2.heap.size; omega
        have l_D : w.heap.size ≤ w2.heap.size := Nat.le_trans hb.size (Nat.le_refl w2.heap.size)
        have D := hM0.rowK (cfK.enc (c))
        replace C := (C.below hn1).rowK_other (k := w2.heap.size) n_C_D (cfK.enc (c)).toArray
        have hW := below_setRow hn1 (Nat.le_refl _) (cfK.enc (c)).toArray
        replace hb := bnext hb hW
        change Code.wp Try.prog _ _ _ ((w2.alloc (Obj.cells (cfK.enc (zeroC)).toArray 28)).setRow w2.heap.size (cfK.enc (c)).toArray)
        generalize (w2.alloc (Obj.cells (cfK.enc (zeroC)).toArray 28)).setRow w2.heap.size (cfK.enc (c)).toArray = w3 at *
        clear hn1 hM0 hW
        generalize w2.heap.size = g1 at *
        have hn1 := bnew w3 (Obj.cells (cfK.enc (zeroC)).toArray 28)
        have hM0 := Box.new w3 (cfK.enc (zeroC)) 28
        go_upto_region 6 with (first | (guard_target =~ wpList _ _ _ (⟨some 38, _, _, _, _, _⟩ :: _) _ _; refine cfT.load (op := ⟨some 38, .load _ _, _, _, _, _⟩) (by rfl) _ (by rfl) G 0 (by rfl) (c) C.rangeK ?_) | (guard_target =~ wpList _ _ _ (⟨none, _, _, _, _, _⟩ :: _) _ _; refine cfT.store (op := ⟨none, .store _ _ _, _, _, _, _⟩) (by rfl) _ _ (by rfl) (w3.heap.size) (c) (zeroC) _ (by rfl) (by rfl) hM0 ?_))
        have n_C_Wt : G ≠ w3.heap.size := by have h1 := C.lt; have h2 := Nat.le_refl w3.heap.size; omega
        have n_D_Wt : g1 ≠ w3.heap.size := by have h1 := D.lt; have h2 := Nat.le_refl w3.heap.size; omega
        have l_Wt : w.heap.size ≤ w3.heap.size := Nat.le_trans hb.size (Nat.le_refl w3.heap.size)
        have Wt := hM0.rowK (cfK.enc (c))
        replace C := (C.below hn1).rowK_other (k := w3.heap.size) n_C_Wt (cfK.enc (c)).toArray
        replace D := (D.below hn1).rowK_other (k := w3.heap.size) n_D_Wt (cfK.enc (c)).toArray
        have hW := below_setRow hn1 (Nat.le_refl _) (cfK.enc (c)).toArray
        replace hb := bnext hb hW
        change Code.wp Try.prog _ _ _ ((w3.alloc (Obj.cells (cfK.enc (zeroC)).toArray 28)).setRow w3.heap.size (cfK.enc (c)).toArray)
        generalize (w3.alloc (Obj.cells (cfK.enc (zeroC)).toArray 28)).setRow w3.heap.size (cfK.enc (c)).toArray = w4 at *
        clear hn1 hM0 hW
        generalize w3.heap.size = g2 at *
        have hc := Wt.cell 12 _ rfl
        have hf := Wt.free 12
        go_upto_region 22 with fail
        replace Wt := Wt.set 12 (.int .i64 ((b.toNat : Int)))
        replace C := C.other n_C_Wt 12 (.int .i64 ((b.toNat : Int)))
        replace D := D.other n_D_Wt 12 (.int .i64 ((b.toNat : Int)))
        replace hb := hb.setCell (p := ⟨g2, 12, none⟩) l_Wt (.int .i64 ((b.toNat : Int)))
        generalize World.setCell _ _ _ = w5 at *
        clear hc hf
        have sm := same_cf c
        go_wp2_with (first | (guard_target =~ wpList _ _ _ (⟨some 91, _, _, _, _, _⟩ :: _) _ _; refine cfT.load_g (op := ⟨some 91, .load _ _, _, _, _, _⟩) (by rfl) _ (by rfl) g1 0 (by rfl) (c) D.rangeK ?_) | (guard_target =~ wpList _ _ _ (⟨some 92, _, _, _, _, _⟩ :: _) _ _; refine cfT.load_g (op := ⟨some 92, .load _ _, _, _, _, _⟩) (by rfl) _ (by rfl) G 0 (by rfl) (c) C.rangeK ?_))
        refine (awake22_from HDef HAns HKno HPer _).mono ?_
        rintro e wz ⟨rfl, bz⟩
        go_wp2_with fail
        go_ret
        exact ⟨rfl, bnext hb bz⟩
  · clear hy0 hy1
    go_upto_region 4 with (guard_target =~ wpList _ _ _ (⟨some 25, _, _, _, _, _⟩ :: _) _ _; refine @wpList_indexA _ _ ⟨some 25, .index 32 (.tmp 22) (.tmp 24), _, _, _, _⟩ _ _ _ (by rfl) 32 _ _ (by rfl) (.agg ([.int .i64 8197, .int .i64 8198, .int .i64 8199, .int .i64 8208, .int .i64 8202, .int .i64 8203]).toArray) (.int .i64 5) (.int .i64 8203) (by rfl) (by rfl) (by kernel_rfl) ?_)
    obtain ⟨d, hd⟩ : ∃ d : Cf, d = { c with ls := sgI b } := ⟨_, rfl⟩
    have hset : setM c 8203 [b, s] = d := by
      rw [hd]
      show { c with ls := _ } = _
      rw [sign_two]
    have hA1 := ans_set (id := 8203) (by decide) (by decide) (by decide) hset
    have hG1 := ans_get (d := d) (id := 8203) [104, 111, 112] (by decide) (by decide)
    have ht : toldS (vw0 d) 8203 = [b, 0] := by
      show twoS d.ls = _
      rw [hd]
      exact two_s b
    rw [ht] at hG1
    have hdc : d.cl = c.cl := by rw [hd]
    have HA := fun w => HAns (vw0 c) 1 8203 [b, s] w (vw0_in hOK.out hc.1) (by show 2 ≤ 300; decide)
    rw [hA1] at HA
    have HAH := hid HA
    have HD9 := hid hd
    clear hset hA1 HA
    have st2 := fun w => str2 w b s
    by_cases hcond : -3 ≤ sgI b ∧ sgI b ≤ 4
    · have hokd : CfOk d := by
        have h := hOK.out
        rw [hd]
        unfold CfOk at h ⊢
        exact ⟨h.1, h.2.1, h.2.2.1, h.2.2.2.1, h.2.2.2.2.1, h.2.2.2.2.2.1, h.2.2.2.2.2.2.1, h.2.2.2.2.2.2.2.1, h.2.2.2.2.2.2.2.2.1, h.2.2.2.2.2.2.2.2.2.1, hcond, h.2.2.2.2.2.2.2.2.2.2.2.1, h.2.2.2.2.2.2.2.2.2.2.2.2.1, h.2.2.2.2.2.2.2.2.2.2.2.2.2.1, h.2.2.2.2.2.2.2.2.2.2.2.2.2.2.1, h.2.2.2.2.2.2.2.2.2.2.2.2.2.2.2.1, h.2.2.2.2.2.2.2.2.2.2.2.2.2.2.2.2.1, h.2.2.2.2.2.2.2.2.2.2.2.2.2.2.2.2.2.1, h.2.2.2.2.2.2.2.2.2.2.2.2.2.2.2.2.2.2.1, h.2.2.2.2.2.2.2.2.2.2.2.2.2.2.2.2.2.2.2.1, h.2.2.2.2.2.2.2.2.2.2.2.2.2.2.2.2.2.2.2.2⟩
      have hA2 : setA (vw0 c) 8203 d = ⟨[b, 0], d, 0⟩ := by
        unfold setA
        rw [if_pos hokd]
        show An.mk (toldS (vw0 d) 8203) d 0 = _
        rw [ht]
      have HG := fun w => HAns (vw0 d) 0 8203 [104, 111, 112] w (vw0_in hokd (by rw [hdc]; exact hc.1)) (by show 3 ≤ 300; decide)
      rw [hG1] at HG
      have HGH := hid HG
      clear HG
      have HA := HAH.out
      rw [hA2] at HA
      replace HAH := hid HA
      clear HA hA2 hokd hG1 ht hdc hd
      have hwb : IntKind.i64.wrap (b.toNat : Int) = (b.toNat : Int) := by rw [IntKind.wrap_i64]; omega
      have hsg : IntKind.i8.wrap (b.toNat : Int) = sgI b := wrap8 _ hB0 hB1
      have hsr : -128 ≤ sgI b ∧ sgI b ≤ 127 := by unfold sgI; split <;> omega
      have hws : IntKind.i64.wrap (sgI b) = sgI b := by rw [IntKind.wrap_i64]; omega
      clear hwb
      have q1 : decide ((-3 : Int) ≤ sgI b) = true := decide_eq_true hcond.1
      have q2 : decide (sgI b ≤ 4) = true := decide_eq_true hcond.2
      clear hcond
      go_wp2_with (first | (guard_target =~ wpList _ _ _ (⟨some 27, _, _, _, _, _⟩ :: _) _ _; refine cfT.load (op := ⟨some 27, .load _ _, _, _, _, _⟩) (by rfl) _ (by rfl) G 0 (by rfl) (c) C.rangeK ?_) | (guard_target =~ wpList _ _ _ (⟨some 28, _, _, _, _, _⟩ :: _) _ _; refine wpList_build_any (op := ⟨some 28, .build _ _, _, _, _, _⟩) (by rfl) _ _ (by rfl) _ (by rfl) (vwL (vw0 c)).toArray (by kernel_rfl) ?_))
      have z1 := bnew w1 (Obj.cells #[.int .u8 (b.toNat : Int), .int .u8 (s.toNat : Int)] 5)
      generalize w1.alloc (Obj.cells #[.int .u8 (b.toNat : Int), .int .u8 (s.toNat : Int)] 5) = wA at *
      replace C := C.below z1
      replace hb := bnext hb z1
      clear z1
      refine (HAH.out wA).mono ?_
      rintro e w2 ⟨rfl, bq⟩
      replace C := C.below bq
      replace hb := bnext hb bq
      clear bq
      clear st2
      have hn1 := bnew w2 (Obj.cells (cfK.enc (zeroC)).toArray 28)
      have hM0 := Box.new w2 (cfK.enc (zeroC)) 28
      go_upto_region 5 with (guard_target =~ wpList _ _ _ (⟨none, _, _, _, _, _⟩ :: _) _ _; refine cfT.store (op := ⟨none, .store _ _ _, _, _, _, _⟩) (by rfl) _ _ (by rfl) (w2.heap.size) (d) (zeroC) _ (by rfl) (by rfl) hM0 ?_)
      have n_C_D : G ≠ w2.heap.size := by have h1 := C.lt; have h2 := Nat.le_refl w2.heap.size; omega
      have l_D : w.heap.size ≤ w2.heap.size := Nat.le_trans hb.size (Nat.le_refl w2.heap.size)
      have D := hM0.rowK (cfK.enc (d))
      replace C := (C.below hn1).rowK_other (k := w2.heap.size) n_C_D (cfK.enc (d)).toArray
      have hW := below_setRow hn1 (Nat.le_refl _) (cfK.enc (d)).toArray
      replace hb := bnext hb hW
      change Code.wp Try.prog _ _ _ ((w2.alloc (Obj.cells (cfK.enc (zeroC)).toArray 28)).setRow w2.heap.size (cfK.enc (d)).toArray)
      generalize (w2.alloc (Obj.cells (cfK.enc (zeroC)).toArray 28)).setRow w2.heap.size (cfK.enc (d)).toArray = w3 at *
      clear hn1 hM0 hW
      generalize w2.heap.size = g1 at *
      have hn1 := bnew w3 (Obj.cells (cfK.enc (zeroC)).toArray 28)
      have hM0 := Box.new w3 (cfK.enc (zeroC)) 28
      go_upto_region 6 with (first | (guard_target =~ wpList _ _ _ (⟨some 38, _, _, _, _, _⟩ :: _) _ _; refine cfT.load (op := ⟨some 38, .load _ _, _, _, _, _⟩) (by rfl) _ (by rfl) G 0 (by rfl) (c) C.rangeK ?_) | (guard_target =~ wpList _ _ _ (⟨none, _, _, _, _, _⟩ :: _) _ _; refine cfT.store (op := ⟨none, .store _ _ _, _, _, _, _⟩) (by rfl) _ _ (by rfl) (w3.heap.size) (c) (zeroC) _ (by rfl) (by rfl) hM0 ?_))
      have n_C_Wt : G ≠ w3.heap.size := by have h1 := C.lt; have h2 := Nat.le_refl w3.heap.size; omega
      have n_D_Wt : g1 ≠ w3.heap.size := by have h1 := D.lt; have h2 := Nat.le_refl w3.heap.size; omega
      have l_Wt : w.heap.size ≤ w3.heap.size := Nat.le_trans hb.size (Nat.le_refl w3.heap.size)
      have Wt := hM0.rowK (cfK.enc (c))
      replace C := (C.below hn1).rowK_other (k := w3.heap.size) n_C_Wt (cfK.enc (c)).toArray
      replace D := (D.below hn1).rowK_other (k := w3.heap.size) n_D_Wt (cfK.enc (c)).toArray
      have hW := below_setRow hn1 (Nat.le_refl _) (cfK.enc (c)).toArray
      replace hb := bnext hb hW
      change Code.wp Try.prog _ _ _ ((w3.alloc (Obj.cells (cfK.enc (zeroC)).toArray 28)).setRow w3.heap.size (cfK.enc (c)).toArray)
      generalize (w3.alloc (Obj.cells (cfK.enc (zeroC)).toArray 28)).setRow w3.heap.size (cfK.enc (c)).toArray = w4 at *
      clear hn1 hM0 hW
      generalize w3.heap.size = g2 at *
      have hc := Wt.cell 10 _ rfl
      have hf := Wt.free 10
      go_upto_region 22 with fail
      replace Wt := Wt.set 10 (.int .i64 (sgI b))
      replace C := C.other n_C_Wt 10 (.int .i64 (sgI b))
      replace D := D.other n_D_Wt 10 (.int .i64 (sgI b))
      replace hb := hb.setCell (p := ⟨g2, 10, none⟩) l_Wt (.int .i64 (sgI b))
      generalize World.setCell _ _ _ = w5 at *
      clear hc hf
      replace Wt : Box w5 g2 (cfK.enc d) 28 := by rw [HD9.out]; exact Wt
      have sm := same_cf d
      have st20 := fun w => str20 w b
      go_wp2_with (first | (guard_target =~ wpList _ _ _ (⟨some 103, _, _, _, _, _⟩ :: _) _ _; refine cfT.load (op := ⟨some 103, .load _ _, _, _, _, _⟩) (by rfl) _ (by rfl) g1 0 (by rfl) (d) D.rangeK ?_) | (guard_target =~ wpList _ _ _ (⟨some 104, _, _, _, _, _⟩ :: _) _ _; refine wpList_build_any (op := ⟨some 104, .build _ _, _, _, _, _⟩) (by rfl) _ _ (by rfl) _ (by rfl) (vwL (vw0 d)).toArray (by kernel_rfl) ?_))
      refine (HGH.out w5).mono ?_
      rintro e w6 ⟨rfl, bq⟩
      replace C := C.below bq
      replace D := D.below bq
      replace Wt := Wt.below bq
      replace hb := bnext hb bq
      clear bq
      have hn1 := bnew w6 (Obj.cells (cfK.enc (zeroC)).toArray 28)
      have hM0 := Box.new w6 (cfK.enc (zeroC)) 28
      go_upto_region 25 with (guard_target =~ wpList _ _ _ (⟨none, _, _, _, _, _⟩ :: _) _ _; refine cfT.store (op := ⟨none, .store _ _ _, _, _, _, _⟩) (by rfl) _ _ (by rfl) (w6.heap.size) (d) (zeroC) _ (by rfl) (by rfl) hM0 ?_)
      have n_C_F : G ≠ w6.heap.size := by have h1 := C.lt; have h2 := Nat.le_refl w6.heap.size; omega
      have n_D_F : g1 ≠ w6.heap.size := by have h1 := D.lt; have h2 := Nat.le_refl w6.heap.size; omega
      have n_Wt_F : g2 ≠ w6.heap.size := by have h1 := Wt.lt; have h2 := Nat.le_refl w6.heap.size; omega
      have l_F : w.heap.size ≤ w6.heap.size := Nat.le_trans hb.size (Nat.le_refl w6.heap.size)
      have F := hM0.rowK (cfK.enc (d))
      replace C := (C.below hn1).rowK_other (k := w6.heap.size) n_C_F (cfK.enc (d)).toArray
      replace D := (D.below hn1).rowK_other (k := w6.heap.size) n_D_F (cfK.enc (d)).toArray
      replace Wt := (Wt.below hn1).rowK_other (k := w6.heap.size) n_Wt_F (cfK.enc (d)).toArray
      have hW := below_setRow hn1 (Nat.le_refl _) (cfK.enc (d)).toArray
      replace hb := bnext hb hW
      change Code.wp Try.prog _ _ _ ((w6.alloc (Obj.cells (cfK.enc (zeroC)).toArray 28)).setRow w6.heap.size (cfK.enc (d)).toArray)
      generalize (w6.alloc (Obj.cells (cfK.enc (zeroC)).toArray 28)).setRow w6.heap.size (cfK.enc (d)).toArray = w7 at *
      clear hn1 hM0 hW
      generalize w6.heap.size = g3 at *
      go_wp2_with (first | (guard_target =~ wpList _ _ _ (⟨some 113, _, _, _, _, _⟩ :: _) _ _; refine cfT.load_g (op := ⟨some 113, .load _ _, _, _, _, _⟩) (by rfl) _ (by rfl) g1 0 (by rfl) (d) D.rangeK ?_) | (guard_target =~ wpList _ _ _ (⟨some 114, _, _, _, _, _⟩ :: _) _ _; refine cfT.load_g (op := ⟨some 114, .load _ _, _, _, _, _⟩) (by rfl) _ (by rfl) g2 0 (by rfl) (d) Wt.rangeK ?_) | (guard_target =~ wpList _ _ _ (⟨some 134, _, _, _, _, _⟩ :: _) _ _; refine cfT.load_g (op := ⟨some 134, .load _ _, _, _, _, _⟩) (by rfl) _ (by rfl) g3 0 (by rfl) (d) (F.below (bnew _ _)).rangeK ?_) | (guard_target =~ wpList _ _ _ (⟨some 135, _, _, _, _, _⟩ :: _) _ _; refine cfT.load_g (op := ⟨some 135, .load _ _, _, _, _, _⟩) (by rfl) _ (by rfl) g1 0 (by rfl) (d) (D.below (bnew _ _)).rangeK ?_))
      refine (awake22_from HDef HAns HKno HPer _).mono ?_
      rintro e wz ⟨rfl, bz⟩
      go_wp2_with fail
      go_ret
      exact ⟨rfl, bnext (bnext hb (bnew _ _)) bz⟩
    · have hokd : ¬ CfOk d := by
        rw [hd]
        intro h
        unfold CfOk at h
        have h9 : -3 ≤ sgI b ∧ sgI b ≤ 4 := h.2.2.2.2.2.2.2.2.2.2.1
        exact hcond h9
      have hA2 : setA (vw0 c) 8203 d = ⟨[], c, 4⟩ := if_neg hokd
      have HA := HAH.out
      rw [hA2] at HA
      replace HAH := hid HA
      clear HA hA2 hokd hG1 ht hdc hd
      have hwb : IntKind.i64.wrap (b.toNat : Int) = (b.toNat : Int) := by rw [IntKind.wrap_i64]; omega
      have hsg : IntKind.i8.wrap (b.toNat : Int) = sgI b := wrap8 _ hB0 hB1
      have hsr : -128 ≤ sgI b ∧ sgI b ≤ 127 := by unfold sgI; split <;> omega
      have hws : IntKind.i64.wrap (sgI b) = sgI b := by rw [IntKind.wrap_i64]; omega
      clear hwb
      by_cases hlo : (-3 : Int) ≤ sgI b
      · have q1 : decide ((-3 : Int) ≤ sgI b) = true := decide_eq_true hlo
        have q2 : decide (sgI b ≤ 4) = false := decide_eq_false (fun h => hcond ⟨hlo, h⟩)
        clear hcond hlo
        go_wp2_with (first | (guard_target =~ wpList _ _ _ (⟨some 27, _, _, _, _, _⟩ :: _) _ _; refine cfT.load (op := ⟨some 27, .load _ _, _, _, _, _⟩) (by rfl) _ (by rfl) G 0 (by rfl) (c) C.rangeK ?_) | (guard_target =~ wpList _ _ _ (⟨some 28, _, _, _, _, _⟩ :: _) _ _; refine wpList_build_any (op := ⟨some 28, .build _ _, _, _, _, _⟩) (by rfl) _ _ (by rfl) _ (by rfl) (vwL (vw0 c)).toArray (by kernel_rfl) ?_))
        have z1 := bnew w1 (Obj.cells #[.int .u8 (b.toNat : Int), .int .u8 (s.toNat : Int)] 5)
        generalize w1.alloc (Obj.cells #[.int .u8 (b.toNat : Int), .int .u8 (s.toNat : Int)] 5) = wA at *
        replace C := C.below z1
        replace hb := bnext hb z1
        clear z1
        refine (HAH.out wA).mono ?_
        rintro e w2 ⟨rfl, bq⟩
        replace C := C.below bq
        replace hb := bnext hb bq
        clear bq
        clear st2
        have hn1 := bnew w2 (Obj.cells (cfK.enc (zeroC)).toArray 28)
        have hM0 := Box.new w2 (cfK.enc (zeroC)) 28
        go_upto_region 5 with (guard_target =~ wpList _ _ _ (⟨none, _, _, _, _, _⟩ :: _) _ _; refine cfT.store (op := ⟨none, .store _ _ _, _, _, _, _⟩) (by rfl) _ _ (by rfl) (w2.heap.size) (c) (zeroC) _ (by rfl) (by rfl) hM0 ?_)
        have n_C_D : G ≠ w2.heap.size := by have h1 := C.lt; have h2 := Nat.le_refl w2.heap.size; omega
        have l_D : w.heap.size ≤ w2.heap.size := Nat.le_trans hb.size (Nat.le_refl w2.heap.size)
        have D := hM0.rowK (cfK.enc (c))
        replace C := (C.below hn1).rowK_other (k := w2.heap.size) n_C_D (cfK.enc (c)).toArray
        have hW := below_setRow hn1 (Nat.le_refl _) (cfK.enc (c)).toArray
        replace hb := bnext hb hW
        change Code.wp Try.prog _ _ _ ((w2.alloc (Obj.cells (cfK.enc (zeroC)).toArray 28)).setRow w2.heap.size (cfK.enc (c)).toArray)
        generalize (w2.alloc (Obj.cells (cfK.enc (zeroC)).toArray 28)).setRow w2.heap.size (cfK.enc (c)).toArray = w3 at *
        clear hn1 hM0 hW
        generalize w2.heap.size = g1 at *
        have hn1 := bnew w3 (Obj.cells (cfK.enc (zeroC)).toArray 28)
        have hM0 := Box.new w3 (cfK.enc (zeroC)) 28
        go_upto_region 6 with (first | (guard_target =~ wpList _ _ _ (⟨some 38, _, _, _, _, _⟩ :: _) _ _; refine cfT.load (op := ⟨some 38, .load _ _, _, _, _, _⟩) (by rfl) _ (by rfl) G 0 (by rfl) (c) C.rangeK ?_) | (guard_target =~ wpList _ _ _ (⟨none, _, _, _, _, _⟩ :: _) _ _; refine cfT.store (op := ⟨none, .store _ _ _, _, _, _, _⟩) (by rfl) _ _ (by rfl) (w3.heap.size) (c) (zeroC) _ (by rfl) (by rfl) hM0 ?_))
        have n_C_Wt : G ≠ w3.heap.size := by have h1 := C.lt; have h2 := Nat.le_refl w3.heap.size; omega
        have n_D_Wt : g1 ≠ w3.heap.size := by have h1 := D.lt; have h2 := Nat.le_refl w3.heap.size; omega
        have l_Wt : w.heap.size ≤ w3.heap.size := Nat.le_trans hb.size (Nat.le_refl w3.heap.size)
        have Wt := hM0.rowK (cfK.enc (c))
        replace C := (C.below hn1).rowK_other (k := w3.heap.size) n_C_Wt (cfK.enc (c)).toArray
        replace D := (D.below hn1).rowK_other (k := w3.heap.size) n_D_Wt (cfK.enc (c)).toArray
        have hW := below_setRow hn1 (Nat.le_refl _) (cfK.enc (c)).toArray
        replace hb := bnext hb hW
        change Code.wp Try.prog _ _ _ ((w3.alloc (Obj.cells (cfK.enc (zeroC)).toArray 28)).setRow w3.heap.size (cfK.enc (c)).toArray)
        generalize (w3.alloc (Obj.cells (cfK.enc (zeroC)).toArray 28)).setRow w3.heap.size (cfK.enc (c)).toArray = w4 at *
        clear hn1 hM0 hW
        generalize w3.heap.size = g2 at *
        have hc := Wt.cell 10 _ rfl
        have hf := Wt.free 10
        go_upto_region 22 with fail
        replace Wt := Wt.set 10 (.int .i64 (sgI b))
        replace C := C.other n_C_Wt 10 (.int .i64 (sgI b))
        replace D := D.other n_D_Wt 10 (.int .i64 (sgI b))
        replace hb := hb.setCell (p := ⟨g2, 10, none⟩) l_Wt (.int .i64 (sgI b))
        generalize World.setCell _ _ _ = w5 at *
        clear hc hf
        have sm := same_cf c
        go_wp2_with (first | (guard_target =~ wpList _ _ _ (⟨some 91, _, _, _, _, _⟩ :: _) _ _; refine cfT.load_g (op := ⟨some 91, .load _ _, _, _, _, _⟩) (by rfl) _ (by rfl) g1 0 (by rfl) (c) D.rangeK ?_) | (guard_target =~ wpList _ _ _ (⟨some 92, _, _, _, _, _⟩ :: _) _ _; refine cfT.load_g (op := ⟨some 92, .load _ _, _, _, _, _⟩) (by rfl) _ (by rfl) G 0 (by rfl) (c) C.rangeK ?_))
        refine (awake22_from HDef HAns HKno HPer _).mono ?_
        rintro e wz ⟨rfl, bz⟩
        go_wp2_with fail
        go_ret
        exact ⟨rfl, bnext hb bz⟩
      · have q1 : decide ((-3 : Int) ≤ sgI b) = false := decide_eq_false hlo
        clear hcond hlo
        go_wp2_with (first | (guard_target =~ wpList _ _ _ (⟨some 27, _, _, _, _, _⟩ :: _) _ _; refine cfT.load (op := ⟨some 27, .load _ _, _, _, _, _⟩) (by rfl) _ (by rfl) G 0 (by rfl) (c) C.rangeK ?_) | (guard_target =~ wpList _ _ _ (⟨some 28, _, _, _, _, _⟩ :: _) _ _; refine wpList_build_any (op := ⟨some 28, .build _ _, _, _, _, _⟩) (by rfl) _ _ (by rfl) _ (by rfl) (vwL (vw0 c)).toArray (by kernel_rfl) ?_))
        have z1 := bnew w1 (Obj.cells #[.int .u8 (b.toNat : Int), .int .u8 (s.toNat : Int)] 5)
        generalize w1.alloc (Obj.cells #[.int .u8 (b.toNat : Int), .int .u8 (s.toNat : Int)] 5) = wA at *
        replace C := C.below z1
        replace hb := bnext hb z1
        clear z1
        refine (HAH.out wA).mono ?_
        rintro e w2 ⟨rfl, bq⟩
        replace C := C.below bq
        replace hb := bnext hb bq
        clear bq
        clear st2
        have hn1 := bnew w2 (Obj.cells (cfK.enc (zeroC)).toArray 28)
        have hM0 := Box.new w2 (cfK.enc (zeroC)) 28
        go_upto_region 5 with (guard_target =~ wpList _ _ _ (⟨none, _, _, _, _, _⟩ :: _) _ _; refine cfT.store (op := ⟨none, .store _ _ _, _, _, _, _⟩) (by rfl) _ _ (by rfl) (w2.heap.size) (c) (zeroC) _ (by rfl) (by rfl) hM0 ?_)
        have n_C_D : G ≠ w2.heap.size := by have h1 := C.lt; have h2 := Nat.le_refl w2.heap.size; omega
        have l_D : w.heap.size ≤ w2.heap.size := Nat.le_trans hb.size (Nat.le_refl w2.heap.size)
        have D := hM0.rowK (cfK.enc (c))
        replace C := (C.below hn1).rowK_other (k := w2.heap.size) n_C_D (cfK.enc (c)).toArray
        have hW := below_setRow hn1 (Nat.le_refl _) (cfK.enc (c)).toArray
        replace hb := bnext hb hW
        change Code.wp Try.prog _ _ _ ((w2.alloc (Obj.cells (cfK.enc (zeroC)).toArray 28)).setRow w2.heap.size (cfK.enc (c)).toArray)
        generalize (w2.alloc (Obj.cells (cfK.enc (zeroC)).toArray 28)).setRow w2.heap.size (cfK.enc (c)).toArray = w3 at *
        clear hn1 hM0 hW
        generalize w2.heap.size = g1 at *
        have hn1 := bnew w3 (Obj.cells (cfK.enc (zeroC)).toArray 28)
        have hM0 := Box.new w3 (cfK.enc (zeroC)) 28
        go_upto_region 6 with (first | (guard_target =~ wpList _ _ _ (⟨some 38, _, _, _, _, _⟩ :: _) _ _; refine cfT.load (op := ⟨some 38, .load _ _, _, _, _, _⟩) (by rfl) _ (by rfl) G 0 (by rfl) (c) C.rangeK ?_) | (guard_target =~ wpList _ _ _ (⟨none, _, _, _, _, _⟩ :: _) _ _; refine cfT.store (op := ⟨none, .store _ _ _, _, _, _, _⟩) (by rfl) _ _ (by rfl) (w3.heap.size) (c) (zeroC) _ (by rfl) (by rfl) hM0 ?_))
        have n_C_Wt : G ≠ w3.heap.size := by have h1 := C.lt; have h2 := Nat.le_refl w3.heap.size; omega
        have n_D_Wt : g1 ≠ w3.heap.size := by have h1 := D.lt; have h2 := Nat.le_refl w3.heap.size; omega
        have l_Wt : w.heap.size ≤ w3.heap.size := Nat.le_trans hb.size (Nat.le_refl w3.heap.size)
        have Wt := hM0.rowK (cfK.enc (c))
        replace C := (C.below hn1).rowK_other (k := w3.heap.size) n_C_Wt (cfK.enc (c)).toArray
        replace D := (D.below hn1).rowK_other (k := w3.heap.size) n_D_Wt (cfK.enc (c)).toArray
        have hW := below_setRow hn1 (Nat.le_refl _) (cfK.enc (c)).toArray
        replace hb := bnext hb hW
        change Code.wp Try.prog _ _ _ ((w3.alloc (Obj.cells (cfK.enc (zeroC)).toArray 28)).setRow w3.heap.size (cfK.enc (c)).toArray)
        generalize (w3.alloc (Obj.cells (cfK.enc (zeroC)).toArray 28)).setRow w3.heap.size (cfK.enc (c)).toArray = w4 at *
        clear hn1 hM0 hW
        generalize w3.heap.size = g2 at *
        have hc := Wt.cell 10 _ rfl
        have hf := Wt.free 10
        go_upto_region 22 with fail
        replace Wt := Wt.set 10 (.int .i64 (sgI b))
        replace C := C.other n_C_Wt 10 (.int .i64 (sgI b))
        replace D := D.other n_D_Wt 10 (.int .i64 (sgI b))
        replace hb := hb.setCell (p := ⟨g2, 10, none⟩) l_Wt (.int .i64 (sgI b))
        generalize World.setCell _ _ _ = w5 at *
        clear hc hf
        have sm := same_cf c
        go_wp2_with (first | (guard_target =~ wpList _ _ _ (⟨some 91, _, _, _, _, _⟩ :: _) _ _; refine cfT.load_g (op := ⟨some 91, .load _ _, _, _, _, _⟩) (by rfl) _ (by rfl) g1 0 (by rfl) (c) D.rangeK ?_) | (guard_target =~ wpList _ _ _ (⟨some 92, _, _, _, _, _⟩ :: _) _ _; refine cfT.load_g (op := ⟨some 92, .load _ _, _, _, _, _⟩) (by rfl) _ (by rfl) G 0 (by rfl) (c) C.rangeK ?_))
        refine (awake22_from HDef HAns HKno HPer _).mono ?_
        rintro e wz ⟨rfl, bz⟩
        go_wp2_with fail
        go_ret
        exact ⟨rfl, bnext hb bz⟩

end Go.Proofs.Ytgjffmhlehcoiaa
