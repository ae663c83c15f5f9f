/- carillonlaw22: Defaults, from contracts (gen_mgmlaws.py). -/
import Derived.Test.YtgjffmhlehcoiaaMgmLaws2
import Derived.Test.YtgjffmhlehcoiaaIdentb
import Derived.Test.YtgjffmhlehcoiaaChain
namespace Go.Proofs.Ytgjffmhlehcoiaa
open Go.RowKit Go.Proofs
set_option maxRecDepth 50000
set_option linter.unusedVariables false
set_option linter.unusedSimpArgs false

theorem ans_def0 (c : Cf) : ansP (vw0 c) 0 8192 [] = ⟨defS c, c, 0⟩ := by
  unfold ansP
  rw [if_neg (by decide), if_neg (fun h => h.1 rfl), if_neg (fun h => absurd h.1 (by decide)), if_neg (fun h => absurd h.2 (by decide)), if_pos rfl]
  rfl
theorem put1 (x : Int) : putS x 1 = [UInt8.ofNat (x % 18446744073709551616).toNat] := by
  show [UInt8.ofNat ((x % 18446744073709551616).toNat / 256 ^ 0)] = _
  rw [Nat.pow_zero, Nat.div_one]
theorem put2 (x : Int) : putS x 2 = [UInt8.ofNat ((x % 18446744073709551616).toNat / 256), UInt8.ofNat (x % 18446744073709551616).toNat] := by
  show [UInt8.ofNat ((x % 18446744073709551616).toNat / 256 ^ 1), UInt8.ofNat ((x % 18446744073709551616).toNat / 256 ^ 0)] = _
  rw [Nat.pow_zero, Nat.div_one, Nat.pow_one]
def idV (n k : Nat) : Nat := n / 256 ^ (8 - k)
theorem idV_step (n k : Nat) (hk : k < 8) : idV n (k + 1) = 256 * idV n k + (n / 256 ^ (7 - k)) % 256 := by
  unfold idV
  rw [show 8 - (k + 1) = 7 - k by omega, show 8 - k = (7 - k) + 1 by omega, Nat.pow_succ, ← Nat.div_div_eq_div_mul]
  omega
theorem idV_lt (n k : Nat) (hn : n < 18446744073709551616) (hk : k < 8) : idV n k < 72057594037927936 := by
  unfold idV
  have : 256 ^ 1 ≤ 256 ^ (8 - k) := Nat.pow_le_pow_right (by decide) (by omega)
  have h2 : n / 256 ^ (8 - k) ≤ n / 256 ^ 1 := Nat.div_le_div_left this (by decide)
  omega
theorem byte_lt5 (b : UInt8) : b.toNat < 256 := b.toNat_lt
theorem u_nat (n : Nat) : (UInt8.ofNat n).toNat = n % 256 := UInt8.toNat_ofNat'
/-- What Default tells, byte by byte. -/
theorem def_bytes (c : Cf) (h : CfOk c) (hu : 0 ≤ c.cl ∧ c.cl < 18446744073709551616) : ∃ x0 x3 x4 x5 x6 x7 x8 x9 y0 y1 y2 y3 y4 y5 y6 y7 x18 : UInt8,
    defS c = [x0, 0, 0, x3, x4, x5, x6, x7, x8, x9, y0, y1, y2, y3, y4, y5, y6, y7, x18, 0] ∧ x0 = UInt8.ofNat ((if c.os then 0 else 1) + (if c.so then 2 else 0)) ∧
    ((x3.toNat : Int) = c.po ∧ (x4.toNat : Int) = c.p1 ∧ (x5.toNat : Int) = c.qc ∧ (x6.toNat : Int) = c.qa ∧ (x7.toNat : Int) * 256 + (x8.toNat : Int) = c.qv ∧ (x9.toNat : Int) = c.p2 ∧ (x18.toNat : Int) = c.dm) ∧
    (y0.toNat = c.cl.toNat / 256 ^ 7 % 256 ∧ y1.toNat = c.cl.toNat / 256 ^ 6 % 256 ∧ y2.toNat = c.cl.toNat / 256 ^ 5 % 256 ∧ y3.toNat = c.cl.toNat / 256 ^ 4 % 256 ∧ y4.toNat = c.cl.toNat / 256 ^ 3 % 256 ∧ y5.toNat = c.cl.toNat / 256 ^ 2 % 256 ∧ y6.toNat = c.cl.toNat / 256 ^ 1 % 256 ∧ y7.toNat = c.cl.toNat / 256 ^ 0 % 256) := by
  have hd : defS c = [UInt8.ofNat ((bitI (!c.os) + 2 * bitI c.so) % 18446744073709551616).toNat, 0] ++ [UInt8.ofNat ((c.po % 18446744073709551616).toNat / 256), UInt8.ofNat (c.po % 18446744073709551616).toNat] ++ [UInt8.ofNat (c.p1 % 18446744073709551616).toNat] ++ ([UInt8.ofNat (c.qc % 18446744073709551616).toNat] ++ [UInt8.ofNat (c.qa % 18446744073709551616).toNat] ++ [UInt8.ofNat ((c.qv % 18446744073709551616).toNat / 256), UInt8.ofNat (c.qv % 18446744073709551616).toNat]) ++ [UInt8.ofNat (c.p2 % 18446744073709551616).toNat] ++ putN c.cl.toNat 8 ++ [UInt8.ofNat (c.dm % 18446744073709551616).toNat] ++ [0] := by
    unfold defS qualS
    simp only [put1, put2]
    rfl
  unfold CfOk at h
  obtain ⟨-, -, hpo, hdm, hp1, hp2, hqc, hqa, hqv, -⟩ := h
  refine ⟨UInt8.ofNat ((bitI (!c.os) + 2 * bitI c.so) % 18446744073709551616).toNat, UInt8.ofNat (c.po % 18446744073709551616).toNat, UInt8.ofNat (c.p1 % 18446744073709551616).toNat, UInt8.ofNat (c.qc % 18446744073709551616).toNat, UInt8.ofNat (c.qa % 18446744073709551616).toNat, UInt8.ofNat ((c.qv % 18446744073709551616).toNat / 256), UInt8.ofNat (c.qv % 18446744073709551616).toNat, UInt8.ofNat (c.p2 % 18446744073709551616).toNat,
    UInt8.ofNat (c.cl.toNat / 256 ^ 7), UInt8.ofNat (c.cl.toNat / 256 ^ 6), UInt8.ofNat (c.cl.toNat / 256 ^ 5), UInt8.ofNat (c.cl.toNat / 256 ^ 4), UInt8.ofNat (c.cl.toNat / 256 ^ 3), UInt8.ofNat (c.cl.toNat / 256 ^ 2), UInt8.ofNat (c.cl.toNat / 256 ^ 1), UInt8.ofNat (c.cl.toNat / 256 ^ 0), UInt8.ofNat (c.dm % 18446744073709551616).toNat, ?_, ?_, ?_, ?_⟩
  · rw [hd, show UInt8.ofNat ((c.po % 18446744073709551616).toNat / 256) = 0 by
      rw [show (c.po % 18446744073709551616).toNat / 256 = 0 by omega]; rfl]
    rfl
  · cases c.os <;> cases c.so <;> rfl
  · simp only [u_nat]
    refine ⟨?_, ?_, ?_, ?_, ?_, ?_, ?_⟩ <;> omega
  · simp only [u_nat]
    exact ⟨trivial, trivial, trivial, trivial, trivial, trivial, trivial, trivial⟩

set_option maxRecDepth 100000 in
set_option maxHeartbeats 8000000 in
theorem mgmtDefaults_from (HDef : CDefM) (HAns : CAnsM) (HKno : CKnoM) (HPer : CPerM) (c : Cf) (hc : ((0 ≤ c.cl ∧ c.cl < 18446744073709551616) ∧ ∀ x ∈ [c.po, c.dm, c.p1, c.p2, c.qc, c.qa, c.qv, c.la, c.ls, c.ld, c.tm, c.md, c.kp, c.ki, c.st, c.ut, c.fl, c.og], -9223372036854775808 ≤ x ∧ x ≤ 9223372036854775807)) (w : World) :
    Calls Try.prog 7 #[.agg (cfL c).toArray] w fun e w' => e = .returned (.bool true) ∧ Below w.heap.size w w' := by
  have z0 := bnew w (Obj.cells (cfK.enc c).toArray 28)
  have C := Box.new w (cfK.enc c) 28
  have hb := z0
  clear z0
  go_enter Try.func7, Try.ntmps7
  simp only [List.append]
  go_upto_region 1 with fail
  change Code.wp Try.prog _ _ _ (w.alloc (Obj.cells (cfK.enc c).toArray 28))
  generalize (w.alloc (Obj.cells (cfK.enc c).toArray 28)) = W at *
  generalize hG : w.heap.size = G at *
  rw [← hG] at hb
  have l_C : w.heap.size ≤ G := by omega
  go_wp2_with (guard_target =~ wpList _ _ _ (⟨some 8, _, _, _, _, _⟩ :: _) _ _; refine cfT.load (op := ⟨some 8, .load _ _, _, _, _, _⟩) (by rfl) _ (by rfl) G 0 (by rfl) (c) C.rangeK ?_)
  refine (refChk10_any c W).mono ?_
  rintro e w1 ⟨rfl, bq⟩
  replace C := C.below bq
  replace hb := bnext hb bq
  clear bq
  by_cases hok : CfOk c
  case neg =>
    have hE : checkE c = 15 := if_neg hok
    rw [hE]
    clear hE hok
    go_wp2_with fail
    refine (awake22_from HDef HAns HKno HPer _).mono ?_
    rintro e wz ⟨rfl, bz⟩
    go_wp2_with fail
    go_ret
    exact ⟨rfl, bnext hb bz⟩
  have hE : checkE c = 0 := if_pos hok
  rw [hE]
  clear hE
  obtain ⟨x0, x3, x4, x5, x6, x7, x8, x9, y0, y1, y2, y3, y4, y5, y6, y7, x18, hs, hx0, hxs, hys⟩ := def_bytes c hok hc.1
  have HA := fun w => HAns (vw0 c) 0 8192 [] w (vw0_in hok hc.1) (by decide)
  rw [ans_def0, hs] at HA
  obtain ⟨SB, hSB⟩ : ∃ SB : ByteArray, SB = ⟨[x0, 0, 0, x3, x4, x5, x6, x7, x8, x9, y0, y1, y2, y3, y4, y5, y6, y7, x18, 0].toArray⟩ := ⟨_, rfl⟩
  have HA2 : ∀ w, Calls Try.prog 12 #[.agg (vwL (vw0 c)).toArray, .int .i64 0, .int .i64 8192, .string ⟨[].toArray⟩] w fun e w' => e = .returned (.tuple #[.string SB, .agg (cfL c).toArray, .int .i64 0]) ∧ Below w.heap.size w w' := by
    rw [hSB]
    exact HA
  clear HA
  have HA := HA2
  clear HA2
  have hsz : SB.size = 20 := by rw [hSB]; rfl
  have hix0 : ∀ h, SB[0]'h = x0 := fun h => by subst hSB; rfl
  have hix2 : ∀ h, SB[2]'h = 0 := fun h => by subst hSB; rfl
  have hix3 : ∀ h, SB[3]'h = x3 := fun h => by subst hSB; rfl
  have hix4 : ∀ h, SB[4]'h = x4 := fun h => by subst hSB; rfl
  have hix5 : ∀ h, SB[5]'h = x5 := fun h => by subst hSB; rfl
  have hix6 : ∀ h, SB[6]'h = x6 := fun h => by subst hSB; rfl
  have hix7 : ∀ h, SB[7]'h = x7 := fun h => by subst hSB; rfl
  have hix8 : ∀ h, SB[8]'h = x8 := fun h => by subst hSB; rfl
  have hix9 : ∀ h, SB[9]'h = x9 := fun h => by subst hSB; rfl
  have hix18 : ∀ h, SB[18]'h = x18 := fun h => by subst hSB; rfl
  have hix10 : ∀ h, SB[10]'h = y0 := fun h => by subst hSB; rfl
  have hix11 : ∀ h, SB[11]'h = y1 := fun h => by subst hSB; rfl
  have hix12 : ∀ h, SB[12]'h = y2 := fun h => by subst hSB; rfl
  have hix13 : ∀ h, SB[13]'h = y3 := fun h => by subst hSB; rfl
  have hix14 : ∀ h, SB[14]'h = y4 := fun h => by subst hSB; rfl
  have hix15 : ∀ h, SB[15]'h = y5 := fun h => by subst hSB; rfl
  have hix16 : ∀ h, SB[16]'h = y6 := fun h => by subst hSB; rfl
  have hix17 : ∀ h, SB[17]'h = y7 := fun h => by subst hSB; rfl
  have HX0 := hid hx0
  have HXS := hid hxs
  have HYS := hid hys
  have hcl : c.cl = ((c.cl.toNat : Nat) : Int) := by have := hc.1; omega
  obtain ⟨n, hn⟩ : ∃ n, c.cl.toNat = n := ⟨_, rfl⟩
  rw [hn] at HYS hcl
  have hn2 : n < 18446744073709551616 := by have := hc.1; omega
  have HCL := hid hcl
  have HN2 := hid hn2
  clear hs hx0 hxs hys hok hcl hn hn2 hSB
  go_wp2_with (first | (guard_target =~ wpList _ _ _ (⟨some 13, _, _, _, _, _⟩ :: _) _ _; refine cfT.load (op := ⟨some 13, .load _ _, _, _, _, _⟩) (by rfl) _ (by rfl) G 0 (by rfl) (c) C.rangeK ?_) | (guard_target =~ wpList _ _ _ (⟨some 14, _, _, _, _, _⟩ :: _) _ _; refine wpList_build_any (op := ⟨some 14, .build _ _, _, _, _, _⟩) (by rfl) _ _ (by rfl) _ (by rfl) (vwL (vw0 c)).toArray (by kernel_rfl) ?_))
  refine (HA w1).mono ?_
  rintro e w2 ⟨rfl, bq⟩
  replace C := C.below bq
  replace hb := bnext hb bq
  clear bq
  clear HA
  have hn1 := bnew w2 (Obj.cells (cfK.enc (zeroC)).toArray 28)
  have hM0 := Box.new w2 (cfK.enc (zeroC)) 28
  go_upto_region 4 with (guard_target =~ wpList _ _ _ (⟨none, _, _, _, _, _⟩ :: _) _ _; refine cfT.store (op := ⟨none, .store _ _ _, _, _, _, _⟩) (by rfl) _ _ (by rfl) (w2.heap.size) (c) (zeroC) _ (by rfl) (by rfl) hM0 ?_)
  have n_C_D : G ≠ w2.heap.size := by have h1 := C.lt; have h2 := Nat.le_refl w2.heap.size; omega
  have l_D : w.heap.size ≤ w2.heap.size := Nat.le_trans hb.size (Nat.le_refl w2.heap.size)
  have D := hM0.rowK (cfK.enc (c))
  replace C := (C.below hn1).rowK_other (k := w2.heap.size) n_C_D (cfK.enc (c)).toArray
  have hW := below_setRow hn1 (Nat.le_refl _) (cfK.enc (c)).toArray
  replace hb := bnext hb hW
  change Code.wp Try.prog _ _ _ ((w2.alloc (Obj.cells (cfK.enc (zeroC)).toArray 28)).setRow w2.heap.size (cfK.enc (c)).toArray)
  generalize (w2.alloc (Obj.cells (cfK.enc (zeroC)).toArray 28)).setRow w2.heap.size (cfK.enc (c)).toArray = w3 at *
  clear hn1 hM0 hW
  generalize w2.heap.size = g1 at *
  go_wp2_with fail
  go_loopw [6, 7] (fun dv iv wr => ∃ k : Nat, k ≤ 8 ∧ iv = .int .i64 (((10 + k : Nat)) : Int) ∧ dv = .int .u64 ((idV n k : Nat) : Int) ∧ wr = w3) (fun _ iv _ => 18 - (intOf iv).toNat)
  case atStart => exact ⟨0, by decide, rfl, by show Value.int .u64 0 = _; rw [show idV n 0 = 0 by unfold idV; have := HN2.out; omega]; rfl, rfl⟩
  case round =>
    obtain ⟨k, hk, rfl, rfl, rfl⟩ := hrel
    rcases (by omega : k = 0 ∨ k = 1 ∨ k = 2 ∨ k = 3 ∨ k = 4 ∨ k = 5 ∨ k = 6 ∨ k = 7 ∨ k = 8) with rfl | rfl | rfl | rfl | rfl | rfl | rfl | rfl | rfl
    · rw [show ((10 + 0 : Nat) : Int) = 10 from rfl]
      have hA := idV_lt n 0 HN2.out (by decide)
      have hst := idV_step n 0 (by decide)
      rw [show 7 - 0 = 7 from rfl, ← (HYS.out).1] at hst
      have HST := hid hst
      have hyl := y0.toNat_lt
      obtain ⟨V, hV⟩ : ∃ V, idV n 0 = V := ⟨_, rfl⟩
      rw [hV] at hA HST ⊢
      have hor := or_add V y0.toNat 8 hyl (by omega)
      have hsh : IntKind.u64.wrap ((V : Int) * 256) = ((2 ^ 8 * V : Nat) : Int) := by rw [IntKind.wrap_u64]; omega
      have hwy : IntKind.u64.wrap (y0.toNat : Int) = (y0.toNat : Int) := by rw [IntKind.wrap_u64]; omega
      have hor2 : bits BinOp.or IntKind.u64 (256 * (V : Int)) (y0.toNat : Int) = ((256 * V + y0.toNat : Nat) : Int) := by
        have e : ((2 ^ 8 * V : Nat) : Int) = 256 * (V : Int) := by omega
        rw [← e]
        exact hor
      clear hst hk hV hor
      go_wp2_with fail
      go_roundw
      case rel => exact ⟨0 + 1, by decide, rfl, by rw [HST.out]; exact congrArg (Value.int .u64) (by omega), by first | rfl | trivial⟩
      case measure => simp [intOf]
    · rw [show ((10 + 1 : Nat) : Int) = 11 from rfl]
      have hA := idV_lt n 1 HN2.out (by decide)
      have hst := idV_step n 1 (by decide)
      rw [show 7 - 1 = 6 from rfl, ← (HYS.out).2.1] at hst
      have HST := hid hst
      have hyl := y1.toNat_lt
      obtain ⟨V, hV⟩ : ∃ V, idV n 1 = V := ⟨_, rfl⟩
      rw [hV] at hA HST ⊢
      have hor := or_add V y1.toNat 8 hyl (by omega)
      have hsh : IntKind.u64.wrap ((V : Int) * 256) = ((2 ^ 8 * V : Nat) : Int) := by rw [IntKind.wrap_u64]; omega
      have hwy : IntKind.u64.wrap (y1.toNat : Int) = (y1.toNat : Int) := by rw [IntKind.wrap_u64]; omega
      have hor2 : bits BinOp.or IntKind.u64 (256 * (V : Int)) (y1.toNat : Int) = ((256 * V + y1.toNat : Nat) : Int) := by
        have e : ((2 ^ 8 * V : Nat) : Int) = 256 * (V : Int) := by omega
        rw [← e]
        exact hor
      clear hst hk hV hor
      go_wp2_with fail
      go_roundw
      case rel => exact ⟨1 + 1, by decide, rfl, by rw [HST.out]; exact congrArg (Value.int .u64) (by omega), by first | rfl | trivial⟩
      case measure => simp [intOf]
    · rw [show ((10 + 2 : Nat) : Int) = 12 from rfl]
      have hA := idV_lt n 2 HN2.out (by decide)
      have hst := idV_step n 2 (by decide)
      rw [show 7 - 2 = 5 from rfl, ← (HYS.out).2.2.1] at hst
      have HST := hid hst
      have hyl := y2.toNat_lt
      obtain ⟨V, hV⟩ : ∃ V, idV n 2 = V := ⟨_, rfl⟩
      rw [hV] at hA HST ⊢
      have hor := or_add V y2.toNat 8 hyl (by omega)
      have hsh : IntKind.u64.wrap ((V : Int) * 256) = ((2 ^ 8 * V : Nat) : Int) := by rw [IntKind.wrap_u64]; omega
      have hwy : IntKind.u64.wrap (y2.toNat : Int) = (y2.toNat : Int) := by rw [IntKind.wrap_u64]; omega
      have hor2 : bits BinOp.or IntKind.u64 (256 * (V : Int)) (y2.toNat : Int) = ((256 * V + y2.toNat : Nat) : Int) := by
        have e : ((2 ^ 8 * V : Nat) : Int) = 256 * (V : Int) := by omega
        rw [← e]
        exact hor
      clear hst hk hV hor
      go_wp2_with fail
      go_roundw
      case rel => exact ⟨2 + 1, by decide, rfl, by rw [HST.out]; exact congrArg (Value.int .u64) (by omega), by first | rfl | trivial⟩
      case measure => simp [intOf]
    · rw [show ((10 + 3 : Nat) : Int) = 13 from rfl]
      have hA := idV_lt n 3 HN2.out (by decide)
      have hst := idV_step n 3 (by decide)
      rw [show 7 - 3 = 4 from rfl, ← (HYS.out).2.2.2.1] at hst
      have HST := hid hst
      have hyl := y3.toNat_lt
      obtain ⟨V, hV⟩ : ∃ V, idV n 3 = V := ⟨_, rfl⟩
      rw [hV] at hA HST ⊢
      have hor := or_add V y3.toNat 8 hyl (by omega)
      have hsh : IntKind.u64.wrap ((V : Int) * 256) = ((2 ^ 8 * V : Nat) : Int) := by rw [IntKind.wrap_u64]; omega
      have hwy : IntKind.u64.wrap (y3.toNat : Int) = (y3.toNat : Int) := by rw [IntKind.wrap_u64]; omega
      have hor2 : bits BinOp.or IntKind.u64 (256 * (V : Int)) (y3.toNat : Int) = ((256 * V + y3.toNat : Nat) : Int) := by
        have e : ((2 ^ 8 * V : Nat) : Int) = 256 * (V : Int) := by omega
        rw [← e]
        exact hor
      clear hst hk hV hor
      go_wp2_with fail
      go_roundw
      case rel => exact ⟨3 + 1, by decide, rfl, by rw [HST.out]; exact congrArg (Value.int .u64) (by omega), by first | rfl | trivial⟩
      case measure => simp [intOf]
    · rw [show ((10 + 4 : Nat) : Int) = 14 from rfl]
      have hA := idV_lt n 4 HN2.out (by decide)
      have hst := idV_step n 4 (by decide)
      rw [show 7 - 4 = 3 from rfl, ← (HYS.out).2.2.2.2.1] at hst
      have HST := hid hst
      have hyl := y4.toNat_lt
      obtain ⟨V, hV⟩ : ∃ V, idV n 4 = V := ⟨_, rfl⟩
      rw [hV] at hA HST ⊢
      have hor := or_add V y4.toNat 8 hyl (by omega)
      have hsh : IntKind.u64.wrap ((V : Int) * 256) = ((2 ^ 8 * V : Nat) : Int) := by rw [IntKind.wrap_u64]; omega
      have hwy : IntKind.u64.wrap (y4.toNat : Int) = (y4.toNat : Int) := by rw [IntKind.wrap_u64]; omega
      have hor2 : bits BinOp.or IntKind.u64 (256 * (V : Int)) (y4.toNat : Int) = ((256 * V + y4.toNat : Nat) : Int) := by
        have e : ((2 ^ 8 * V : Nat) : Int) = 256 * (V : Int) := by omega
        rw [← e]
        exact hor
      clear hst hk hV hor
      go_wp2_with fail
      go_roundw
      case rel => exact ⟨4 + 1, by decide, rfl, by rw [HST.out]; exact congrArg (Value.int .u64) (by omega), by first | rfl | trivial⟩
      case measure => simp [intOf]
    · rw [show ((10 + 5 : Nat) : Int) = 15 from rfl]
      have hA := idV_lt n 5 HN2.out (by decide)
      have hst := idV_step n 5 (by decide)
      rw [show 7 - 5 = 2 from rfl, ← (HYS.out).2.2.2.2.2.1] at hst
      have HST := hid hst
      have hyl := y5.toNat_lt
      obtain ⟨V, hV⟩ : ∃ V, idV n 5 = V := ⟨_, rfl⟩
      rw [hV] at hA HST ⊢
      have hor := or_add V y5.toNat 8 hyl (by omega)
      have hsh : IntKind.u64.wrap ((V : Int) * 256) = ((2 ^ 8 * V : Nat) : Int) := by rw [IntKind.wrap_u64]; omega
      have hwy : IntKind.u64.wrap (y5.toNat : Int) = (y5.toNat : Int) := by rw [IntKind.wrap_u64]; omega
      have hor2 : bits BinOp.or IntKind.u64 (256 * (V : Int)) (y5.toNat : Int) = ((256 * V + y5.toNat : Nat) : Int) := by
        have e : ((2 ^ 8 * V : Nat) : Int) = 256 * (V : Int) := by omega
        rw [← e]
        exact hor
      clear hst hk hV hor
      go_wp2_with fail
      go_roundw
      case rel => exact ⟨5 + 1, by decide, rfl, by rw [HST.out]; exact congrArg (Value.int .u64) (by omega), by first | rfl | trivial⟩
      case measure => simp [intOf]
    · rw [show ((10 + 6 : Nat) : Int) = 16 from rfl]
      have hA := idV_lt n 6 HN2.out (by decide)
      have hst := idV_step n 6 (by decide)
      rw [show 7 - 6 = 1 from rfl, ← (HYS.out).2.2.2.2.2.2.1] at hst
      have HST := hid hst
      have hyl := y6.toNat_lt
      obtain ⟨V, hV⟩ : ∃ V, idV n 6 = V := ⟨_, rfl⟩
      rw [hV] at hA HST ⊢
      have hor := or_add V y6.toNat 8 hyl (by omega)
      have hsh : IntKind.u64.wrap ((V : Int) * 256) = ((2 ^ 8 * V : Nat) : Int) := by rw [IntKind.wrap_u64]; omega
      have hwy : IntKind.u64.wrap (y6.toNat : Int) = (y6.toNat : Int) := by rw [IntKind.wrap_u64]; omega
      have hor2 : bits BinOp.or IntKind.u64 (256 * (V : Int)) (y6.toNat : Int) = ((256 * V + y6.toNat : Nat) : Int) := by
        have e : ((2 ^ 8 * V : Nat) : Int) = 256 * (V : Int) := by omega
        rw [← e]
        exact hor
      clear hst hk hV hor
      go_wp2_with fail
      go_roundw
      case rel => exact ⟨6 + 1, by decide, rfl, by rw [HST.out]; exact congrArg (Value.int .u64) (by omega), by first | rfl | trivial⟩
      case measure => simp [intOf]
    · rw [show ((10 + 7 : Nat) : Int) = 17 from rfl]
      have hA := idV_lt n 7 HN2.out (by decide)
      have hst := idV_step n 7 (by decide)
      rw [show 7 - 7 = 0 from rfl, ← (HYS.out).2.2.2.2.2.2.2] at hst
      have HST := hid hst
      have hyl := y7.toNat_lt
      obtain ⟨V, hV⟩ : ∃ V, idV n 7 = V := ⟨_, rfl⟩
      rw [hV] at hA HST ⊢
      have hor := or_add V y7.toNat 8 hyl (by omega)
      have hsh : IntKind.u64.wrap ((V : Int) * 256) = ((2 ^ 8 * V : Nat) : Int) := by rw [IntKind.wrap_u64]; omega
      have hwy : IntKind.u64.wrap (y7.toNat : Int) = (y7.toNat : Int) := by rw [IntKind.wrap_u64]; omega
      have hor2 : bits BinOp.or IntKind.u64 (256 * (V : Int)) (y7.toNat : Int) = ((256 * V + y7.toNat : Nat) : Int) := by
        have e : ((2 ^ 8 * V : Nat) : Int) = 256 * (V : Int) := by omega
        rw [← e]
        exact hor
      clear hst hk hV hor
      go_wp2_with fail
      go_roundw
      case rel => exact ⟨7 + 1, by decide, rfl, by rw [HST.out]; exact congrArg (Value.int .u64) (by omega), by first | rfl | trivial⟩
      case measure => simp [intOf]
    · rw [show ((10 + 8 : Nat) : Int) = 18 from rfl, show idV n 8 = n by unfold idV; rw [show 8 - 8 = 0 from rfl, Nat.pow_zero, Nat.div_one]]
      obtain ⟨h3, h4, h5, h6, h7, h9, h18⟩ := HXS.out
      have b3 := byte_lt5 x3
      have b4 := byte_lt5 x4
      have b5 := byte_lt5 x5
      have b6 := byte_lt5 x6
      have b7 := byte_lt5 x7
      have b8 := byte_lt5 x8
      have b9 := byte_lt5 x9
      have b18 := byte_lt5 x18
      have K0 := hid fun (wx : World) (hx : Below wr.heap.size wr wx) => ((C.below hx).cell 0 _ rfl).trans (show some (Value.int .u64 c.cl) = some (Value.int .u64 (n : Int)) by rw [HCL.out])
      have K1 := hid fun (wx : World) (hx : Below wr.heap.size wr wx) => ((C.below hx).cell 1 _ rfl).trans (show some (Value.int .i64 c.po) = some (Value.int .i64 (x3.toNat : Int)) by rw [h3])
      have K2 := hid fun (wx : World) (hx : Below wr.heap.size wr wx) => ((C.below hx).cell 2 _ rfl).trans (show some (Value.int .i64 c.dm) = some (Value.int .i64 (x18.toNat : Int)) by rw [h18])
      have K3 := hid fun (wx : World) (hx : Below wr.heap.size wr wx) => ((C.below hx).cell 3 _ rfl).trans (show some (Value.int .i64 c.p1) = some (Value.int .i64 (x4.toNat : Int)) by rw [h4])
      have K4 := hid fun (wx : World) (hx : Below wr.heap.size wr wx) => ((C.below hx).cell 4 _ rfl).trans (show some (Value.int .i64 c.p2) = some (Value.int .i64 (x9.toNat : Int)) by rw [h9])
      have K5 := hid fun (wx : World) (hx : Below wr.heap.size wr wx) => ((C.below hx).cell 5 _ rfl).trans (show some (Value.int .i64 c.qc) = some (Value.int .i64 (x5.toNat : Int)) by rw [h5])
      have K6 := hid fun (wx : World) (hx : Below wr.heap.size wr wx) => ((C.below hx).cell 6 _ rfl).trans (show some (Value.int .i64 c.qa) = some (Value.int .i64 (x6.toNat : Int)) by rw [h6])
      have K7 := hid fun (wx : World) (hx : Below wr.heap.size wr wx) => ((C.below hx).cell 7 _ rfl).trans (show some (Value.int .i64 c.qv) = some (Value.int .i64 ((x7.toNat : Int) * 256 + (x8.toNat : Int))) by rw [h7])
      have K8 := hid fun (wx : World) (hx : Below wr.heap.size wr wx) => (show wx.cell? ⟨G, 8, none⟩ = some (Value.bool c.so) from (C.below hx).cell 8 _ rfl)
      have K14 := hid fun (wx : World) (hx : Below wr.heap.size wr wx) => (show wx.cell? ⟨G, 14, none⟩ = some (Value.bool c.os) from (C.below hx).cell 14 _ rfl)
      clear h3 h4 h5 h6 h7 h9 h18
      have hw3 : IntKind.i64.wrap (x3.toNat : Int) = (x3.toNat : Int) := by rw [IntKind.wrap_i64]; omega
      have hw4 : IntKind.i64.wrap (x4.toNat : Int) = (x4.toNat : Int) := by rw [IntKind.wrap_i64]; omega
      have hw5 : IntKind.i64.wrap (x5.toNat : Int) = (x5.toNat : Int) := by rw [IntKind.wrap_i64]; omega
      have hw6 : IntKind.i64.wrap (x6.toNat : Int) = (x6.toNat : Int) := by rw [IntKind.wrap_i64]; omega
      have hw7 : IntKind.i64.wrap (x7.toNat : Int) = (x7.toNat : Int) := by rw [IntKind.wrap_i64]; omega
      have hw8 : IntKind.i64.wrap (x8.toNat : Int) = (x8.toNat : Int) := by rw [IntKind.wrap_i64]; omega
      have hw9 : IntKind.i64.wrap (x9.toNat : Int) = (x9.toNat : Int) := by rw [IntKind.wrap_i64]; omega
      have hw18 : IntKind.i64.wrap (x18.toNat : Int) = (x18.toNat : Int) := by rw [IntKind.wrap_i64]; omega
      have hw78 : IntKind.i64.wrap ((x7.toNat : Int) * 256) = (x7.toNat : Int) * 256 := by rw [IntKind.wrap_i64]; omega
      have hw79 : IntKind.i64.wrap ((x7.toNat : Int) * 256 + (x8.toNat : Int)) = (x7.toNat : Int) * 256 + (x8.toNat : Int) := by rw [IntKind.wrap_i64]; omega
      have hand1 : (bits BinOp.and IntKind.u8 (x0.toNat : Int) 1 == 1) = (!c.os) := by
        rw [HX0.out]
        cases c.os <;> cases c.so <;> rfl
      have hand2 : (bits BinOp.and IntKind.u8 (x0.toNat : Int) 2 == 2) = c.so := by
        rw [HX0.out]
        cases c.os <;> cases c.so <;> rfl
      generalize c.os = os at *
      generalize c.so = so at *
      clear hk
      go_upto_region 11 with fail
      refine wp_region_held_drew (S := fun w' => Below wr.drew.heap.size wr.drew w') (by kernel_rfl) (Below.refl _ _) ?_
      intro hHeld
      have bd := Below.drew (Below.refl wr.heap.size wr)
      generalize wr.drew = wd at *
      refine rtake 0 rfl (by rfl) (by kernel_rfl) (by kernel_rfl) (by kernel_rfl) (fun _ _ _ h => h) hHeld (fun wx hwx => by go_simp; try with_reducible rfl) ?_
      try simp only [Act.put, List.setIfInBounds_toArray, List.set_cons_zero, List.set_cons_succ]
      refine rtake 1 rfl (by rfl) (by kernel_rfl) (by kernel_rfl) (by kernel_rfl) (fun _ _ _ h => h) hHeld (fun wx hwx => by go_simp; try with_reducible rfl) ?_
      try simp only [Act.put, List.setIfInBounds_toArray, List.set_cons_zero, List.set_cons_succ]
      refine rtake 2 rfl (by rfl) (by kernel_rfl) (by kernel_rfl) (by kernel_rfl) (fun _ _ _ h => h) hHeld (fun wx hwx => by go_simp; try with_reducible rfl) ?_
      try simp only [Act.put, List.setIfInBounds_toArray, List.set_cons_zero, List.set_cons_succ]
      refine rtake 3 rfl (by rfl) (by kernel_rfl) (by kernel_rfl) (by kernel_rfl) (fun _ _ _ h => h) hHeld (fun wx hwx => by go_simp; try with_reducible rfl) ?_
      try simp only [Act.put, List.setIfInBounds_toArray, List.set_cons_zero, List.set_cons_succ]
      refine rtake 4 rfl (by rfl) (by kernel_rfl) (by kernel_rfl) (by kernel_rfl) (fun _ _ _ h => h) hHeld (fun wx hwx => by go_simp; try with_reducible rfl) ?_
      try simp only [Act.put, List.setIfInBounds_toArray, List.set_cons_zero, List.set_cons_succ]
      refine rtake 5 rfl (by rfl) (by kernel_rfl) (by kernel_rfl) (by kernel_rfl) (fun _ _ _ h => h) hHeld (fun wx hwx => by have hk := K14.out wx (bnext bd hwx); go_simp; try with_reducible rfl) ?_
      try simp only [Act.put, List.setIfInBounds_toArray, List.set_cons_zero, List.set_cons_succ]
      refine rlisted #[true, true, true, true, true, true, false, false, false, false, false, false, false, false, false, false, false, false, false, false, false, false, false, false, false, false, false, false, false, false, false, false, false, false, false, false, false, false, false, false, false, false, false, false, false, false, false, false, false, false, false, false, false, false, false, false, false, false, false, false, false, false, false, false, false, false, false, false, false, false, false, false, false, false, false, false, false, false, false, false, false, false, false, false, false, false, false, false, false, false, false, false, false, false, false, false] (by kernel_rfl) ?_
      refine rtake 6 rfl (by rfl) (by kernel_rfl) (by kernel_rfl) (by kernel_rfl) (fun _ _ _ h => h) hHeld (fun wx hwx => by go_simp; try with_reducible rfl) ?_
      try simp only [Act.put, List.setIfInBounds_toArray, List.set_cons_zero, List.set_cons_succ]
      refine rtake 7 rfl (by rfl) (by kernel_rfl) (by kernel_rfl) (by kernel_rfl) (fun _ _ _ h => h) hHeld (fun wx hwx => by go_simp; try with_reducible rfl) ?_
      try simp only [Act.put, List.setIfInBounds_toArray, List.set_cons_zero, List.set_cons_succ]
      refine rtake 8 rfl (by rfl) (by kernel_rfl) (by kernel_rfl) (by kernel_rfl) (fun _ _ _ h => h) hHeld (fun wx hwx => by go_simp; try with_reducible rfl) ?_
      try simp only [Act.put, List.setIfInBounds_toArray, List.set_cons_zero, List.set_cons_succ]
      refine rtake 9 rfl (by rfl) (by kernel_rfl) (by kernel_rfl) (by kernel_rfl) (fun _ _ _ h => h) hHeld (fun wx hwx => by go_simp; try with_reducible rfl) ?_
      try simp only [Act.put, List.setIfInBounds_toArray, List.set_cons_zero, List.set_cons_succ]
      refine rtake 10 rfl (by rfl) (by kernel_rfl) (by kernel_rfl) (by kernel_rfl) (fun _ _ _ h => h) hHeld (fun wx hwx => by go_simp; try with_reducible rfl) ?_
      try simp only [Act.put, List.setIfInBounds_toArray, List.set_cons_zero, List.set_cons_succ]
      refine rtake 11 rfl (by rfl) (by kernel_rfl) (by kernel_rfl) (by kernel_rfl) (fun _ _ _ h => h) hHeld (fun wx hwx => by go_simp; try with_reducible rfl) ?_
      try simp only [Act.put, List.setIfInBounds_toArray, List.set_cons_zero, List.set_cons_succ]
      refine rlisted #[true, true, true, true, true, true, true, true, true, true, true, true, false, false, false, false, false, false, false, false, false, false, false, false, false, false, false, false, false, false, false, false, false, false, false, false, false, false, false, false, false, false, false, false, false, false, false, false, false, false, false, false, false, false, false, false, false, false, false, false, false, false, false, false, false, false, false, false, false, false, false, false, false, false, false, false, false, false, false, false, false, false, false, false, false, false, false, false, false, false, false, false, false, false, false, false] (by kernel_rfl) ?_
      refine rtake 12 rfl (by rfl) (by kernel_rfl) (by kernel_rfl) (by kernel_rfl) (fun _ _ _ h => h) hHeld (fun wx hwx => by go_simp; try with_reducible rfl) ?_
      try simp only [Act.put, List.setIfInBounds_toArray, List.set_cons_zero, List.set_cons_succ]
      refine rtake 13 rfl (by rfl) (by kernel_rfl) (by kernel_rfl) (by kernel_rfl) (fun _ _ _ h => h) hHeld (fun wx hwx => by go_simp; try with_reducible rfl) ?_
      try simp only [Act.put, List.setIfInBounds_toArray, List.set_cons_zero, List.set_cons_succ]
      refine rtake 14 rfl (by rfl) (by kernel_rfl) (by kernel_rfl) (by kernel_rfl) (fun _ _ _ h => h) hHeld (fun wx hwx => by have hk := K8.out wx (bnext bd hwx); go_simp; try with_reducible rfl) ?_
      try simp only [Act.put, List.setIfInBounds_toArray, List.set_cons_zero, List.set_cons_succ]
      refine rtake 15 rfl (by rfl) (by kernel_rfl) (by kernel_rfl) (by kernel_rfl) (fun _ _ _ h => h) hHeld (fun wx hwx => by go_simp; try with_reducible rfl) ?_
      try simp only [Act.put, List.setIfInBounds_toArray, List.set_cons_zero, List.set_cons_succ]
      refine rtake 16 rfl (by rfl) (by kernel_rfl) (by kernel_rfl) (by kernel_rfl) (fun _ _ _ h => h) hHeld (fun wx hwx => by go_simp; try with_reducible rfl) ?_
      try simp only [Act.put, List.setIfInBounds_toArray, List.set_cons_zero, List.set_cons_succ]
      refine rtake 17 rfl (by rfl) (by kernel_rfl) (by kernel_rfl) (by kernel_rfl) (fun _ _ _ h => h) hHeld (fun wx hwx => by go_simp; try with_reducible rfl) ?_
      try simp only [Act.put, List.setIfInBounds_toArray, List.set_cons_zero, List.set_cons_succ]
      refine rlisted #[true, true, true, true, true, true, true, true, true, true, true, true, true, true, true, true, true, true, false, false, false, false, false, false, false, false, false, false, false, false, false, false, false, false, false, false, false, false, false, false, false, false, false, false, false, false, false, false, false, false, false, false, false, false, false, false, false, false, false, false, false, false, false, false, false, false, false, false, false, false, false, false, false, false, false, false, false, false, false, false, false, false, false, false, false, false, false, false, false, false, false, false, false, false, false, false] (by kernel_rfl) ?_
      refine rtake 18 rfl (by rfl) (by kernel_rfl) (by kernel_rfl) (by kernel_rfl) (fun _ _ _ h => h) hHeld (fun wx hwx => by go_simp; try with_reducible rfl) ?_
      try simp only [Act.put, List.setIfInBounds_toArray, List.set_cons_zero, List.set_cons_succ]
      refine rtake 19 rfl (by rfl) (by kernel_rfl) (by kernel_rfl) (by kernel_rfl) (fun _ _ _ h => h) hHeld (fun wx hwx => by go_simp; try with_reducible rfl) ?_
      try simp only [Act.put, List.setIfInBounds_toArray, List.set_cons_zero, List.set_cons_succ]
      refine rtake 20 rfl (by rfl) (by kernel_rfl) (by kernel_rfl) (by kernel_rfl) (fun _ _ _ h => h) hHeld (fun wx hwx => by go_simp; try with_reducible rfl) ?_
      try simp only [Act.put, List.setIfInBounds_toArray, List.set_cons_zero, List.set_cons_succ]
      refine rtake 21 rfl (by rfl) (by kernel_rfl) (by kernel_rfl) (by kernel_rfl) (fun _ _ _ h => h) hHeld (fun wx hwx => by go_simp; try with_reducible rfl) ?_
      try simp only [Act.put, List.setIfInBounds_toArray, List.set_cons_zero, List.set_cons_succ]
      refine rtake 22 rfl (by rfl) (by kernel_rfl) (by kernel_rfl) (by kernel_rfl) (fun _ _ _ h => h) hHeld (fun wx hwx => by have hk := K1.out wx (bnext bd hwx); go_simp; try with_reducible rfl) ?_
      try simp only [Act.put, List.setIfInBounds_toArray, List.set_cons_zero, List.set_cons_succ]
      refine rtake 23 rfl (by rfl) (by kernel_rfl) (by kernel_rfl) (by kernel_rfl) (fun _ _ _ h => h) hHeld (fun wx hwx => by go_simp; try with_reducible rfl) ?_
      try simp only [Act.put, List.setIfInBounds_toArray, List.set_cons_zero, List.set_cons_succ]
      refine rlisted #[true, true, true, true, true, true, true, true, true, true, true, true, true, true, true, true, true, true, true, true, true, true, true, true, false, false, false, false, false, false, false, false, false, false, false, false, false, false, false, false, false, false, false, false, false, false, false, false, false, false, false, false, false, false, false, false, false, false, false, false, false, false, false, false, false, false, false, false, false, false, false, false, false, false, false, false, false, false, false, false, false, false, false, false, false, false, false, false, false, false, false, false, false, false, false, false] (by kernel_rfl) ?_
      as_aux_lemma =>
        refine rtake 24 rfl (by rfl) (by kernel_rfl) (by kernel_rfl) (by kernel_rfl) (fun _ _ _ h => h) hHeld (fun wx hwx => by go_simp; try with_reducible rfl) ?_
        try simp only [Act.put, List.setIfInBounds_toArray, List.set_cons_zero, List.set_cons_succ]
        refine rtake 25 rfl (by rfl) (by kernel_rfl) (by kernel_rfl) (by kernel_rfl) (fun _ _ _ h => h) hHeld (fun wx hwx => by go_simp; try with_reducible rfl) ?_
        try simp only [Act.put, List.setIfInBounds_toArray, List.set_cons_zero, List.set_cons_succ]
        refine rtake 26 rfl (by rfl) (by kernel_rfl) (by kernel_rfl) (by kernel_rfl) (fun _ _ _ h => h) hHeld (fun wx hwx => by go_simp; try with_reducible rfl) ?_
        try simp only [Act.put, List.setIfInBounds_toArray, List.set_cons_zero, List.set_cons_succ]
        refine rtake 27 rfl (by rfl) (by kernel_rfl) (by kernel_rfl) (by kernel_rfl) (fun _ _ _ h => h) hHeld (fun wx hwx => by go_simp; try with_reducible rfl) ?_
        try simp only [Act.put, List.setIfInBounds_toArray, List.set_cons_zero, List.set_cons_succ]
        refine rtake 28 rfl (by rfl) (by kernel_rfl) (by kernel_rfl) (by kernel_rfl) (fun _ _ _ h => h) hHeld (fun wx hwx => by go_simp; try with_reducible rfl) ?_
        try simp only [Act.put, List.setIfInBounds_toArray, List.set_cons_zero, List.set_cons_succ]
        refine rtake 29 rfl (by rfl) (by kernel_rfl) (by kernel_rfl) (by kernel_rfl) (fun _ _ _ h => h) hHeld (fun wx hwx => by go_simp; try with_reducible rfl) ?_
        try simp only [Act.put, List.setIfInBounds_toArray, List.set_cons_zero, List.set_cons_succ]
        refine rlisted #[true, true, true, true, true, true, true, true, true, true, true, true, true, true, true, true, true, true, true, true, true, true, true, true, true, true, true, true, true, true, false, false, false, false, false, false, false, false, false, false, false, false, false, false, false, false, false, false, false, false, false, false, false, false, false, false, false, false, false, false, false, false, false, false, false, false, false, false, false, false, false, false, false, false, false, false, false, false, false, false, false, false, false, false, false, false, false, false, false, false, false, false, false, false, false, false] (by kernel_rfl) ?_
        refine rtake 30 rfl (by rfl) (by kernel_rfl) (by kernel_rfl) (by kernel_rfl) (fun _ _ _ h => h) hHeld (fun wx hwx => by go_simp; try with_reducible rfl) ?_
        try simp only [Act.put, List.setIfInBounds_toArray, List.set_cons_zero, List.set_cons_succ]
        refine rtake 31 rfl (by rfl) (by kernel_rfl) (by kernel_rfl) (by kernel_rfl) (fun _ _ _ h => h) hHeld (fun wx hwx => by go_simp; try with_reducible rfl) ?_
        try simp only [Act.put, List.setIfInBounds_toArray, List.set_cons_zero, List.set_cons_succ]
        refine rtake 32 rfl (by rfl) (by kernel_rfl) (by kernel_rfl) (by kernel_rfl) (fun _ _ _ h => h) hHeld (fun wx hwx => by go_simp; try with_reducible rfl) ?_
        try simp only [Act.put, List.setIfInBounds_toArray, List.set_cons_zero, List.set_cons_succ]
        refine rtake 33 rfl (by rfl) (by kernel_rfl) (by kernel_rfl) (by kernel_rfl) (fun _ _ _ h => h) hHeld (fun wx hwx => by go_simp; try with_reducible rfl) ?_
        try simp only [Act.put, List.setIfInBounds_toArray, List.set_cons_zero, List.set_cons_succ]
        refine rtake 34 rfl (by rfl) (by kernel_rfl) (by kernel_rfl) (by kernel_rfl) (fun _ _ _ h => h) hHeld (fun wx hwx => by go_simp; try with_reducible rfl) ?_
        try simp only [Act.put, List.setIfInBounds_toArray, List.set_cons_zero, List.set_cons_succ]
        refine rtake 35 rfl (by rfl) (by kernel_rfl) (by kernel_rfl) (by kernel_rfl) (fun _ _ _ h => h) hHeld (fun wx hwx => by have hk := K3.out wx (bnext bd hwx); go_simp; try with_reducible rfl) ?_
        try simp only [Act.put, List.setIfInBounds_toArray, List.set_cons_zero, List.set_cons_succ]
        refine rlisted #[true, true, true, true, true, true, true, true, true, true, true, true, true, true, true, true, true, true, true, true, true, true, true, true, true, true, true, true, true, true, true, true, true, true, true, true, false, false, false, false, false, false, false, false, false, false, false, false, false, false, false, false, false, false, false, false, false, false, false, false, false, false, false, false, false, false, false, false, false, false, false, false, false, false, false, false, false, false, false, false, false, false, false, false, false, false, false, false, false, false, false, false, false, false, false, false] (by kernel_rfl) ?_
        refine rtake 36 rfl (by rfl) (by kernel_rfl) (by kernel_rfl) (by kernel_rfl) (fun _ _ _ h => h) hHeld (fun wx hwx => by go_simp; try with_reducible rfl) ?_
        try simp only [Act.put, List.setIfInBounds_toArray, List.set_cons_zero, List.set_cons_succ]
        refine rtake 37 rfl (by rfl) (by kernel_rfl) (by kernel_rfl) (by kernel_rfl) (fun _ _ _ h => h) hHeld (fun wx hwx => by go_simp; try with_reducible rfl) ?_
        try simp only [Act.put, List.setIfInBounds_toArray, List.set_cons_zero, List.set_cons_succ]
        refine rtake 38 rfl (by rfl) (by kernel_rfl) (by kernel_rfl) (by kernel_rfl) (fun _ _ _ h => h) hHeld (fun wx hwx => by go_simp; try with_reducible rfl) ?_
        try simp only [Act.put, List.setIfInBounds_toArray, List.set_cons_zero, List.set_cons_succ]
        refine rtake 39 rfl (by rfl) (by kernel_rfl) (by kernel_rfl) (by kernel_rfl) (fun _ _ _ h => h) hHeld (fun wx hwx => by go_simp; try with_reducible rfl) ?_
        try simp only [Act.put, List.setIfInBounds_toArray, List.set_cons_zero, List.set_cons_succ]
        refine rtake 40 rfl (by rfl) (by kernel_rfl) (by kernel_rfl) (by kernel_rfl) (fun _ _ _ h => h) hHeld (fun wx hwx => by go_simp; try with_reducible rfl) ?_
        try simp only [Act.put, List.setIfInBounds_toArray, List.set_cons_zero, List.set_cons_succ]
        refine rtake 41 rfl (by rfl) (by kernel_rfl) (by kernel_rfl) (by kernel_rfl) (fun _ _ _ h => h) hHeld (fun wx hwx => by go_simp; try with_reducible rfl) ?_
        try simp only [Act.put, List.setIfInBounds_toArray, List.set_cons_zero, List.set_cons_succ]
        refine rlisted #[true, true, true, true, true, true, true, true, true, true, true, true, true, true, true, true, true, true, true, true, true, true, true, true, true, true, true, true, true, true, true, true, true, true, true, true, true, true, true, true, true, true, false, false, false, false, false, false, false, false, false, false, false, false, false, false, false, false, false, false, false, false, false, false, false, false, false, false, false, false, false, false, false, false, false, false, false, false, false, false, false, false, false, false, false, false, false, false, false, false, false, false, false, false, false, false] (by kernel_rfl) ?_
        refine rtake 42 rfl (by rfl) (by kernel_rfl) (by kernel_rfl) (by kernel_rfl) (fun _ _ _ h => h) hHeld (fun wx hwx => by go_simp; try with_reducible rfl) ?_
        try simp only [Act.put, List.setIfInBounds_toArray, List.set_cons_zero, List.set_cons_succ]
        refine rtake 43 rfl (by rfl) (by kernel_rfl) (by kernel_rfl) (by kernel_rfl) (fun _ _ _ h => h) hHeld (fun wx hwx => by go_simp; try with_reducible rfl) ?_
        try simp only [Act.put, List.setIfInBounds_toArray, List.set_cons_zero, List.set_cons_succ]
        refine rtake 44 rfl (by rfl) (by kernel_rfl) (by kernel_rfl) (by kernel_rfl) (fun _ _ _ h => h) hHeld (fun wx hwx => by have hk := K5.out wx (bnext bd hwx); go_simp; try with_reducible rfl) ?_
        try simp only [Act.put, List.setIfInBounds_toArray, List.set_cons_zero, List.set_cons_succ]
        refine rtake 45 rfl (by rfl) (by kernel_rfl) (by kernel_rfl) (by kernel_rfl) (fun _ _ _ h => h) hHeld (fun wx hwx => by go_simp; try with_reducible rfl) ?_
        try simp only [Act.put, List.setIfInBounds_toArray, List.set_cons_zero, List.set_cons_succ]
        refine rtake 46 rfl (by rfl) (by kernel_rfl) (by kernel_rfl) (by kernel_rfl) (fun _ _ _ h => h) hHeld (fun wx hwx => by go_simp; try with_reducible rfl) ?_
        try simp only [Act.put, List.setIfInBounds_toArray, List.set_cons_zero, List.set_cons_succ]
        refine rtake 47 rfl (by rfl) (by kernel_rfl) (by kernel_rfl) (by kernel_rfl) (fun _ _ _ h => h) hHeld (fun wx hwx => by go_simp; try with_reducible rfl) ?_
        try simp only [Act.put, List.setIfInBounds_toArray, List.set_cons_zero, List.set_cons_succ]
        refine rlisted #[true, true, true, true, true, true, true, true, true, true, true, true, true, true, true, true, true, true, true, true, true, true, true, true, true, true, true, true, true, true, true, true, true, true, true, true, true, true, true, true, true, true, true, true, true, true, true, true, false, false, false, false, false, false, false, false, false, false, false, false, false, false, false, false, false, false, false, false, false, false, false, false, false, false, false, false, false, false, false, false, false, false, false, false, false, false, false, false, false, false, false, false, false, false, false, false] (by kernel_rfl) ?_
        as_aux_lemma =>
          refine rtake 48 rfl (by rfl) (by kernel_rfl) (by kernel_rfl) (by kernel_rfl) (fun _ _ _ h => h) hHeld (fun wx hwx => by go_simp; try with_reducible rfl) ?_
          try simp only [Act.put, List.setIfInBounds_toArray, List.set_cons_zero, List.set_cons_succ]
          refine rtake 49 rfl (by rfl) (by kernel_rfl) (by kernel_rfl) (by kernel_rfl) (fun _ _ _ h => h) hHeld (fun wx hwx => by go_simp; try with_reducible rfl) ?_
          try simp only [Act.put, List.setIfInBounds_toArray, List.set_cons_zero, List.set_cons_succ]
          refine rtake 50 rfl (by rfl) (by kernel_rfl) (by kernel_rfl) (by kernel_rfl) (fun _ _ _ h => h) hHeld (fun wx hwx => by go_simp; try with_reducible rfl) ?_
          try simp only [Act.put, List.setIfInBounds_toArray, List.set_cons_zero, List.set_cons_succ]
          refine rtake 51 rfl (by rfl) (by kernel_rfl) (by kernel_rfl) (by kernel_rfl) (fun _ _ _ h => h) hHeld (fun wx hwx => by go_simp; try with_reducible rfl) ?_
          try simp only [Act.put, List.setIfInBounds_toArray, List.set_cons_zero, List.set_cons_succ]
          refine rtake 52 rfl (by rfl) (by kernel_rfl) (by kernel_rfl) (by kernel_rfl) (fun _ _ _ h => h) hHeld (fun wx hwx => by go_simp; try with_reducible rfl) ?_
          try simp only [Act.put, List.setIfInBounds_toArray, List.set_cons_zero, List.set_cons_succ]
          refine rtake 53 rfl (by rfl) (by kernel_rfl) (by kernel_rfl) (by kernel_rfl) (fun _ _ _ h => h) hHeld (fun wx hwx => by have hk := K6.out wx (bnext bd hwx); go_simp; try with_reducible rfl) ?_
          try simp only [Act.put, List.setIfInBounds_toArray, List.set_cons_zero, List.set_cons_succ]
          refine rlisted #[true, true, true, true, true, true, true, true, true, true, true, true, true, true, true, true, true, true, true, true, true, true, true, true, true, true, true, true, true, true, true, true, true, true, true, true, true, true, true, true, true, true, true, true, true, true, true, true, true, true, true, true, true, true, false, false, false, false, false, false, false, false, false, false, false, false, false, false, false, false, false, false, false, false, false, false, false, false, false, false, false, false, false, false, false, false, false, false, false, false, false, false, false, false, false, false] (by kernel_rfl) ?_
          refine rtake 54 rfl (by rfl) (by kernel_rfl) (by kernel_rfl) (by kernel_rfl) (fun _ _ _ h => h) hHeld (fun wx hwx => by go_simp; try with_reducible rfl) ?_
          try simp only [Act.put, List.setIfInBounds_toArray, List.set_cons_zero, List.set_cons_succ]
          refine rtake 55 rfl (by rfl) (by kernel_rfl) (by kernel_rfl) (by kernel_rfl) (fun _ _ _ h => h) hHeld (fun wx hwx => by go_simp; try with_reducible rfl) ?_
          try simp only [Act.put, List.setIfInBounds_toArray, List.set_cons_zero, List.set_cons_succ]
          refine rtake 56 rfl (by rfl) (by kernel_rfl) (by kernel_rfl) (by kernel_rfl) (fun _ _ _ h => h) hHeld (fun wx hwx => by go_simp; try with_reducible rfl) ?_
          try simp only [Act.put, List.setIfInBounds_toArray, List.set_cons_zero, List.set_cons_succ]
          refine rtake 57 rfl (by rfl) (by kernel_rfl) (by kernel_rfl) (by kernel_rfl) (fun _ _ _ h => h) hHeld (fun wx hwx => by go_simp; try with_reducible rfl) ?_
          try simp only [Act.put, List.setIfInBounds_toArray, List.set_cons_zero, List.set_cons_succ]
          refine rtake 58 rfl (by rfl) (by kernel_rfl) (by kernel_rfl) (by kernel_rfl) (fun _ _ _ h => h) hHeld (fun wx hwx => by go_simp; try with_reducible rfl) ?_
          try simp only [Act.put, List.setIfInBounds_toArray, List.set_cons_zero, List.set_cons_succ]
          refine rtake 59 rfl (by rfl) (by kernel_rfl) (by kernel_rfl) (by kernel_rfl) (fun _ _ _ h => h) hHeld (fun wx hwx => by go_simp; try with_reducible rfl) ?_
          try simp only [Act.put, List.setIfInBounds_toArray, List.set_cons_zero, List.set_cons_succ]
          refine rlisted #[true, true, true, true, true, true, true, true, true, true, true, true, true, true, true, true, true, true, true, true, true, true, true, true, true, true, true, true, true, true, true, true, true, true, true, true, true, true, true, true, true, true, true, true, true, true, true, true, true, true, true, true, true, true, true, true, true, true, true, true, false, false, false, false, false, false, false, false, false, false, false, false, false, false, false, false, false, false, false, false, false, false, false, false, false, false, false, false, false, false, false, false, false, false, false, false] (by kernel_rfl) ?_
          refine rtake 60 rfl (by rfl) (by kernel_rfl) (by kernel_rfl) (by kernel_rfl) (fun _ _ _ h => h) hHeld (fun wx hwx => by go_simp; try with_reducible rfl) ?_
          try simp only [Act.put, List.setIfInBounds_toArray, List.set_cons_zero, List.set_cons_succ]
          refine rtake 61 rfl (by rfl) (by kernel_rfl) (by kernel_rfl) (by kernel_rfl) (fun _ _ _ h => h) hHeld (fun wx hwx => by go_simp; try with_reducible rfl) ?_
          try simp only [Act.put, List.setIfInBounds_toArray, List.set_cons_zero, List.set_cons_succ]
          refine rtake 62 rfl (by rfl) (by kernel_rfl) (by kernel_rfl) (by kernel_rfl) (fun _ _ _ h => h) hHeld (fun wx hwx => by go_simp; try with_reducible rfl) ?_
          try simp only [Act.put, List.setIfInBounds_toArray, List.set_cons_zero, List.set_cons_succ]
          refine rtake 63 rfl (by rfl) (by kernel_rfl) (by kernel_rfl) (by kernel_rfl) (fun _ _ _ h => h) hHeld (fun wx hwx => by go_simp; try with_reducible rfl) ?_
          try simp only [Act.put, List.setIfInBounds_toArray, List.set_cons_zero, List.set_cons_succ]
          refine rtake 64 rfl (by rfl) (by kernel_rfl) (by kernel_rfl) (by kernel_rfl) (fun _ _ _ h => h) hHeld (fun wx hwx => by go_simp; try with_reducible rfl) ?_
          try simp only [Act.put, List.setIfInBounds_toArray, List.set_cons_zero, List.set_cons_succ]
          refine rtake 65 rfl (by rfl) (by kernel_rfl) (by kernel_rfl) (by kernel_rfl) (fun _ _ _ h => h) hHeld (fun wx hwx => by go_simp; try with_reducible rfl) ?_
          try simp only [Act.put, List.setIfInBounds_toArray, List.set_cons_zero, List.set_cons_succ]
          refine rlisted #[true, true, true, true, true, true, true, true, true, true, true, true, true, true, true, true, true, true, true, true, true, true, true, true, true, true, true, true, true, true, true, true, true, true, true, true, true, true, true, true, true, true, true, true, true, true, true, true, true, true, true, true, true, true, true, true, true, true, true, true, true, true, true, true, true, true, false, false, false, false, false, false, false, false, false, false, false, false, false, false, false, false, false, false, false, false, false, false, false, false, false, false, false, false, false, false] (by kernel_rfl) ?_
          refine rtake 66 rfl (by rfl) (by kernel_rfl) (by kernel_rfl) (by kernel_rfl) (fun _ _ _ h => h) hHeld (fun wx hwx => by go_simp; try with_reducible rfl) ?_
          try simp only [Act.put, List.setIfInBounds_toArray, List.set_cons_zero, List.set_cons_succ]
          refine rtake 67 rfl (by rfl) (by kernel_rfl) (by kernel_rfl) (by kernel_rfl) (fun _ _ _ h => h) hHeld (fun wx hwx => by have hk := K7.out wx (bnext bd hwx); go_simp; try with_reducible rfl) ?_
          try simp only [Act.put, List.setIfInBounds_toArray, List.set_cons_zero, List.set_cons_succ]
          refine rtake 68 rfl (by rfl) (by kernel_rfl) (by kernel_rfl) (by kernel_rfl) (fun _ _ _ h => h) hHeld (fun wx hwx => by go_simp; try with_reducible rfl) ?_
          try simp only [Act.put, List.setIfInBounds_toArray, List.set_cons_zero, List.set_cons_succ]
          refine rtake 69 rfl (by rfl) (by kernel_rfl) (by kernel_rfl) (by kernel_rfl) (fun _ _ _ h => h) hHeld (fun wx hwx => by go_simp; try with_reducible rfl) ?_
          try simp only [Act.put, List.setIfInBounds_toArray, List.set_cons_zero, List.set_cons_succ]
          refine rtake 70 rfl (by rfl) (by kernel_rfl) (by kernel_rfl) (by kernel_rfl) (fun _ _ _ h => h) hHeld (fun wx hwx => by go_simp; try with_reducible rfl) ?_
          try simp only [Act.put, List.setIfInBounds_toArray, List.set_cons_zero, List.set_cons_succ]
          refine rtake 71 rfl (by rfl) (by kernel_rfl) (by kernel_rfl) (by kernel_rfl) (fun _ _ _ h => h) hHeld (fun wx hwx => by go_simp; try with_reducible rfl) ?_
          try simp only [Act.put, List.setIfInBounds_toArray, List.set_cons_zero, List.set_cons_succ]
          refine rlisted #[true, true, true, true, true, true, true, true, true, true, true, true, true, true, true, true, true, true, true, true, true, true, true, true, true, true, true, true, true, true, true, true, true, true, true, true, true, true, true, true, true, true, true, true, true, true, true, true, true, true, true, true, true, true, true, true, true, true, true, true, true, true, true, true, true, true, true, true, true, true, true, true, false, false, false, false, false, false, false, false, false, false, false, false, false, false, false, false, false, false, false, false, false, false, false, false] (by kernel_rfl) ?_
          as_aux_lemma =>
            refine rtake 72 rfl (by rfl) (by kernel_rfl) (by kernel_rfl) (by kernel_rfl) (fun _ _ _ h => h) hHeld (fun wx hwx => by go_simp; try with_reducible rfl) ?_
            try simp only [Act.put, List.setIfInBounds_toArray, List.set_cons_zero, List.set_cons_succ]
            refine rtake 73 rfl (by rfl) (by kernel_rfl) (by kernel_rfl) (by kernel_rfl) (fun _ _ _ h => h) hHeld (fun wx hwx => by go_simp; try with_reducible rfl) ?_
            try simp only [Act.put, List.setIfInBounds_toArray, List.set_cons_zero, List.set_cons_succ]
            refine rtake 74 rfl (by rfl) (by kernel_rfl) (by kernel_rfl) (by kernel_rfl) (fun _ _ _ h => h) hHeld (fun wx hwx => by go_simp; try with_reducible rfl) ?_
            try simp only [Act.put, List.setIfInBounds_toArray, List.set_cons_zero, List.set_cons_succ]
            refine rtake 75 rfl (by rfl) (by kernel_rfl) (by kernel_rfl) (by kernel_rfl) (fun _ _ _ h => h) hHeld (fun wx hwx => by have hk := K4.out wx (bnext bd hwx); go_simp; try with_reducible rfl) ?_
            try simp only [Act.put, List.setIfInBounds_toArray, List.set_cons_zero, List.set_cons_succ]
            refine rtake 76 rfl (by rfl) (by kernel_rfl) (by kernel_rfl) (by kernel_rfl) (fun _ _ _ h => h) hHeld (fun wx hwx => by go_simp; try with_reducible rfl) ?_
            try simp only [Act.put, List.setIfInBounds_toArray, List.set_cons_zero, List.set_cons_succ]
            refine rtake 77 rfl (by rfl) (by kernel_rfl) (by kernel_rfl) (by kernel_rfl) (fun _ _ _ h => h) hHeld (fun wx hwx => by go_simp; try with_reducible rfl) ?_
            try simp only [Act.put, List.setIfInBounds_toArray, List.set_cons_zero, List.set_cons_succ]
            refine rlisted #[true, true, true, true, true, true, true, true, true, true, true, true, true, true, true, true, true, true, true, true, true, true, true, true, true, true, true, true, true, true, true, true, true, true, true, true, true, true, true, true, true, true, true, true, true, true, true, true, true, true, true, true, true, true, true, true, true, true, true, true, true, true, true, true, true, true, true, true, true, true, true, true, true, true, true, true, true, true, false, false, false, false, false, false, false, false, false, false, false, false, false, false, false, false, false, false] (by kernel_rfl) ?_
            refine rtake 78 rfl (by rfl) (by kernel_rfl) (by kernel_rfl) (by kernel_rfl) (fun _ _ _ h => h) hHeld (fun wx hwx => by go_simp; try with_reducible rfl) ?_
            try simp only [Act.put, List.setIfInBounds_toArray, List.set_cons_zero, List.set_cons_succ]
            refine rtake 79 rfl (by rfl) (by kernel_rfl) (by kernel_rfl) (by kernel_rfl) (fun _ _ _ h => h) hHeld (fun wx hwx => by go_simp; try with_reducible rfl) ?_
            try simp only [Act.put, List.setIfInBounds_toArray, List.set_cons_zero, List.set_cons_succ]
            refine rtake 80 rfl (by rfl) (by kernel_rfl) (by kernel_rfl) (by kernel_rfl) (fun _ _ _ h => h) hHeld (fun wx hwx => by go_simp; try with_reducible rfl) ?_
            try simp only [Act.put, List.setIfInBounds_toArray, List.set_cons_zero, List.set_cons_succ]
            refine rtake 81 rfl (by rfl) (by kernel_rfl) (by kernel_rfl) (by kernel_rfl) (fun _ _ _ h => h) hHeld (fun wx hwx => by have hk := K0.out wx (bnext bd hwx); go_simp; try with_reducible rfl) ?_
            try simp only [Act.put, List.setIfInBounds_toArray, List.set_cons_zero, List.set_cons_succ]
            refine rtake 82 rfl (by rfl) (by kernel_rfl) (by kernel_rfl) (by kernel_rfl) (fun _ _ _ h => h) hHeld (fun wx hwx => by go_simp; try with_reducible rfl) ?_
            try simp only [Act.put, List.setIfInBounds_toArray, List.set_cons_zero, List.set_cons_succ]
            refine rtake 83 rfl (by rfl) (by kernel_rfl) (by kernel_rfl) (by kernel_rfl) (fun _ _ _ h => h) hHeld (fun wx hwx => by go_simp; try with_reducible rfl) ?_
            try simp only [Act.put, List.setIfInBounds_toArray, List.set_cons_zero, List.set_cons_succ]
            refine rlisted #[true, true, true, true, true, true, true, true, true, true, true, true, true, true, true, true, true, true, true, true, true, true, true, true, true, true, true, true, true, true, true, true, true, true, true, true, true, true, true, true, true, true, true, true, true, true, true, true, true, true, true, true, true, true, true, true, true, true, true, true, true, true, true, true, true, true, true, true, true, true, true, true, true, true, true, true, true, true, true, true, true, true, true, true, false, false, false, false, false, false, false, false, false, false, false, false] (by kernel_rfl) ?_
            refine rtake 84 rfl (by rfl) (by kernel_rfl) (by kernel_rfl) (by kernel_rfl) (fun _ _ _ h => h) hHeld (fun wx hwx => by go_simp; try with_reducible rfl) ?_
            try simp only [Act.put, List.setIfInBounds_toArray, List.set_cons_zero, List.set_cons_succ]
            refine rtake 85 rfl (by rfl) (by kernel_rfl) (by kernel_rfl) (by kernel_rfl) (fun _ _ _ h => h) hHeld (fun wx hwx => by go_simp; try with_reducible rfl) ?_
            try simp only [Act.put, List.setIfInBounds_toArray, List.set_cons_zero, List.set_cons_succ]
            refine rtake 86 rfl (by rfl) (by kernel_rfl) (by kernel_rfl) (by kernel_rfl) (fun _ _ _ h => h) hHeld (fun wx hwx => by go_simp; try with_reducible rfl) ?_
            try simp only [Act.put, List.setIfInBounds_toArray, List.set_cons_zero, List.set_cons_succ]
            refine rtake 87 rfl (by rfl) (by kernel_rfl) (by kernel_rfl) (by kernel_rfl) (fun _ _ _ h => h) hHeld (fun wx hwx => by go_simp; try with_reducible rfl) ?_
            try simp only [Act.put, List.setIfInBounds_toArray, List.set_cons_zero, List.set_cons_succ]
            refine rtake 88 rfl (by rfl) (by kernel_rfl) (by kernel_rfl) (by kernel_rfl) (fun _ _ _ h => h) hHeld (fun wx hwx => by go_simp; try with_reducible rfl) ?_
            try simp only [Act.put, List.setIfInBounds_toArray, List.set_cons_zero, List.set_cons_succ]
            refine rtake 89 rfl (by rfl) (by kernel_rfl) (by kernel_rfl) (by kernel_rfl) (fun _ _ _ h => h) hHeld (fun wx hwx => by have hk := K2.out wx (bnext bd hwx); go_simp; try with_reducible rfl) ?_
            try simp only [Act.put, List.setIfInBounds_toArray, List.set_cons_zero, List.set_cons_succ]
            refine rlisted #[true, true, true, true, true, true, true, true, true, true, true, true, true, true, true, true, true, true, true, true, true, true, true, true, true, true, true, true, true, true, true, true, true, true, true, true, true, true, true, true, true, true, true, true, true, true, true, true, true, true, true, true, true, true, true, true, true, true, true, true, true, true, true, true, true, true, true, true, true, true, true, true, true, true, true, true, true, true, true, true, true, true, true, true, true, true, true, true, true, true, false, false, false, false, false, false] (by kernel_rfl) ?_
            refine rtake 90 rfl (by rfl) (by kernel_rfl) (by kernel_rfl) (by kernel_rfl) (fun _ _ _ h => h) hHeld (fun wx hwx => by go_simp; try with_reducible rfl) ?_
            try simp only [Act.put, List.setIfInBounds_toArray, List.set_cons_zero, List.set_cons_succ]
            refine rtake 91 rfl (by rfl) (by kernel_rfl) (by kernel_rfl) (by kernel_rfl) (fun _ _ _ h => h) hHeld (fun wx hwx => by go_simp; try with_reducible rfl) ?_
            try simp only [Act.put, List.setIfInBounds_toArray, List.set_cons_zero, List.set_cons_succ]
            refine rtake 92 rfl (by rfl) (by kernel_rfl) (by kernel_rfl) (by kernel_rfl) (fun _ _ _ h => h) hHeld (fun wx hwx => by go_simp; try with_reducible rfl) ?_
            try simp only [Act.put, List.setIfInBounds_toArray, List.set_cons_zero, List.set_cons_succ]
            refine rcall 93 rfl (by kernel_rfl) (by rfl) (fun K hK => ?_)
            go_simp
            refine (awake22_from HDef HAns HKno HPer _).mono ?_
            rintro e wz ⟨rfl, bz⟩
            refine hK.out _ _ bz ?_
            clear hK K
            refine wpAnyH_mono (S' := fun w' => Below wz.heap.size wz w') (fun w' h => bnext bz h) _ _ _ _ ?_
            clear hHeld
            have hHeld := Below.refl wz.heap.size wz
            have bF := bnext bd bz
            try simp only [Act.put, List.setIfInBounds_toArray, List.set_cons_zero, List.set_cons_succ]
            refine rtake 94 rfl (by rfl) (by kernel_rfl) (by kernel_rfl) (by kernel_rfl) (fun _ _ _ h => h) hHeld (fun wx hwx => by go_simp; try with_reducible rfl) ?_
            try simp only [Act.put, List.setIfInBounds_toArray, List.set_cons_zero, List.set_cons_succ]
            refine rtake 95 rfl (by rfl) (by kernel_rfl) (by kernel_rfl) (by kernel_rfl) (fun _ _ _ h => h) hHeld (fun wx hwx => by go_simp; try with_reducible rfl) ?_
            try simp only [Act.put, List.setIfInBounds_toArray, List.set_cons_zero, List.set_cons_succ]
            refine wpAnyH_done (by kernel_rfl) ?_ _
            go_wp2_with fail
            go_ret
            exact ⟨rfl, bnext hb bF⟩

end Go.Proofs.Ytgjffmhlehcoiaa
