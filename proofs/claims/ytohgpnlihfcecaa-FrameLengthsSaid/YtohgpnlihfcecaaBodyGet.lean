/- Package body: what only an announce, only a management message says, read (gen_bodyget.py). -/
import Derived.Test.YtohgpnlihfcecaaBody
import Derived.Test.YtohgpnlihfcecaaMsg3
import Derived.Test.YtohgpnlihfcecaaB5
import Derived.Test.YtohgpnlihfcecaaB4
import Derived.Test.YtohgpnlihfcecaaB3
import Derived.LoopN
namespace Go.Proofs.Ytohgpnlihfcecaa
open Go.RowKit Go.Proofs
set_option maxRecDepth 50000
set_option linter.unusedVariables false
set_option linter.unusedSimpArgs false

/-- A message, and two numbers, handed back. -/
theorem results_msg_3 {fn : Func} {p u u' : Tmp} (h : fn.results = #[.cell p 28, .tmp u, .tmp u']) (tmps : Array Value) (w : World) (g : Nat) (t : TypeId) (xs : List Value)
    (hp : tmps.getD p undef = .pointer (some ⟨g, 0, none⟩)) (hB : Box w g xs t) (hl : xs.length = 23) :
    (results fn tmps).run Try.prog w = .ok (.tuple #[.agg xs.toArray, tmps.getD u undef, tmps.getD u' undef]) w := by
  have hp' : tmps[p]?.getD undef = .pointer (some ⟨g, 0, none⟩) := by simpa using hp
  simp [results, h, hp', asAddr, Sem.run_bind, run_loadVar_row w g t 28 xs.toArray (0, 0) _ hB Try.underlying28 rfl (by rw [info_msg]; simp [hl])]

/-- An announce's own fields, a management message's, as they stand from A on. -/
def gotAnn (d : Bd) (l : List UInt8) (A : Nat) : Bd := { d with ut := signedAt l A 2, p1 := (numAt l (A + 3) 1 : Nat), qc := (numAt l (A + 4) 1 : Nat), qa := (numAt l (A + 5) 1 : Nat), qv := (numAt l (A + 6) 2 : Nat), p2 := (numAt l (A + 8) 1 : Nat), gr := (numAt l (A + 9) 8 : Nat), sr := (numAt l (A + 17) 2 : Nat), og := (numAt l (A + 19) 1 : Nat) }
def gotMan (d : Bd) (l : List UInt8) (A : Nat) : Bd := { d with sh := (numAt l A 1 : Nat), hp := (numAt l (A + 1) 1 : Nat), ac := ((numAt l (A + 2) 1 : Nat) : Int) % 16 }

theorem and15b (n : Int) : bits .and .i64 n 15 = n % 16 := and_mask n 4 (by decide)

set_option maxRecDepth 100000 in
set_option maxHeartbeats 4000000 in
theorem getAnn_any (v : Value) (l : List UInt8) (h : Hd) (d : Bd) (A : Nat) (w : World) (hB : Bytes w v l) (hl : l.length ≤ 140737488355328) (hA : A + 20 ≤ l.length) :
    Calls Try.prog 63 #[.agg (msgF h d).toArray, v, .int .i64 (A : Int)] w fun e w' => e = .returned (.agg (msgF h (gotAnn d l A)).toArray) ∧ Below w.heap.size w w' := by
  have HB := hid fun (w' : World) (h : Below w.heap.size w w') => hB.below h
  have hl' : l.length ≤ 140737488355328 := by omega
  have hAI : (A : Int) + 20 ≤ 140737488355328 := by omega
  have HS0 : Hid (standB l.length ((A : Int)) 2 = true) := hid (standB_true (by omega) (by decide) (by omega))
  have HT0 : Hid ((A : Int).toNat = A) := hid (by omega)
  have HU0 : (A : Int) ≤ 9223372036854775807 := by omega
  have HS1 : Hid (standB l.length ((A : Int) + 3) 1 = true) := hid (standB_true (by omega) (by decide) (by omega))
  have HT1 : Hid (((A : Int) + 3).toNat = A + 3) := hid (by omega)
  have HU1 : (A : Int) + 3 ≤ 9223372036854775807 := by omega
  have HS2 : Hid (standB l.length ((A : Int) + 3 + 1) 4 = true) := hid (standB_true (by omega) (by decide) (by omega))
  have HT2 : Hid (((A : Int) + 3 + 1).toNat = A + 4) := hid (by omega)
  have HU2 : (A : Int) + 3 + 1 ≤ 9223372036854775807 := by omega
  have HS3 : Hid (standB l.length ((A : Int) + 3 + 1 + 4) 1 = true) := hid (standB_true (by omega) (by decide) (by omega))
  have HT3 : Hid (((A : Int) + 3 + 1 + 4).toNat = A + 8) := hid (by omega)
  have HU3 : (A : Int) + 3 + 1 + 4 ≤ 9223372036854775807 := by omega
  have HS4 : Hid (standB l.length ((A : Int) + 3 + 1 + 4 + 1) 8 = true) := hid (standB_true (by omega) (by decide) (by omega))
  have HT4 : Hid (((A : Int) + 3 + 1 + 4 + 1).toNat = A + 9) := hid (by omega)
  have HU4 : (A : Int) + 3 + 1 + 4 + 1 ≤ 9223372036854775807 := by omega
  have HS5 : Hid (standB l.length ((A : Int) + 3 + 1 + 4 + 1 + 8) 2 = true) := hid (standB_true (by omega) (by decide) (by omega))
  have HT5 : Hid (((A : Int) + 3 + 1 + 4 + 1 + 8).toNat = A + 17) := hid (by omega)
  have HU5 : (A : Int) + 3 + 1 + 4 + 1 + 8 ≤ 9223372036854775807 := by omega
  have HS6 : Hid (standB l.length ((A : Int) + 3 + 1 + 4 + 1 + 8 + 2) 1 = true) := hid (standB_true (by omega) (by decide) (by omega))
  have HT6 : Hid (((A : Int) + 3 + 1 + 4 + 1 + 8 + 2).toNat = A + 19) := hid (by omega)
  have HU6 : (A : Int) + 3 + 1 + 4 + 1 + 8 + 2 ≤ 9223372036854775807 := by omega
  clear hB hA
  go_enter Try.func63, Try.ntmps63
  go_upto_region 1 with fail
  have hM : Box ((w.alloc (Obj.cells (msgF h d).toArray 28)).alloc (Obj.cells (msgL hd0 zr).toArray 28)) w.heap.size (msgF h d) 28 := (Box.new w _ _).below (bnew _ _)
  have hA : Box ((w.alloc (Obj.cells (msgF h d).toArray 28)).alloc (Obj.cells (msgL hd0 zr).toArray 28)) (w.heap.size + 1) (msgL hd0 zr) 28 := heap_alloc2_new w _ _
  have hb := bnew2 w (Obj.cells (msgF h d).toArray 28) (Obj.cells (msgL hd0 zr).toArray 28)
  have hG : w.heap.size ≤ w.heap.size + 1 := by omega
  have hne : w.heap.size + 1 ≠ w.heap.size := by omega
  change Code.wp Try.prog _ _ _ ((w.alloc (Obj.cells (msgF h d).toArray 28)).alloc (Obj.cells (msgL hd0 zr).toArray 28))
  generalize ((w.alloc (Obj.cells (msgF h d).toArray 28)).alloc (Obj.cells (msgL hd0 zr).toArray 28)) = W at *
  generalize w.heap.size + 1 = G at *
  go_wp2_with fail
  refine (signed_ok _ l _ _ _ (HB.out _ hb) hl' HU0 (by decide) (by decide) HS0.out).mono ?_
  rintro e w' ⟨rfl, rfl⟩
  rw [HT0.out, show (2 : Int).toNat = 2 by decide]
  have hc11 := hM.cell 11 _ rfl
  have hf11 := hM.free 11
  go_upto_region 2 with fail
  replace hA := (hA.other hne 11 (.int .i64 (signedAt l (A) 2)))
  replace hb := (hb.setCell (p := ⟨w.heap.size, 11, none⟩) (Nat.le_refl _) (.int .i64 (signedAt l (A) 2)))
  replace hM : Box _ w.heap.size (msgF h ⟨d.st, d.tc, d.tp, signedAt l (A) 2, d.p1, d.qc, d.qa, d.qv, d.p2, d.gr, d.sr, d.og, d.sh, d.hp, d.ac⟩) _ := (hM.set 11 (.int .i64 (signedAt l (A) 2)))
  clear hc11 hf11
  generalize World.setCell _ _ _ = W0 at *
  go_wp2_with fail
  refine (get_ok _ l _ _ _ (HB.out _ hb) hl' HU1 (by decide) (by decide) HS1.out).mono ?_
  rintro e w' ⟨rfl, rfl⟩
  rw [HT1.out, show (1 : Int).toNat = 1 by decide]
  have hc12 := hM.cell 12 _ rfl
  have hf12 := hM.free 12
  go_upto_region 4 with fail
  replace hA := (hA.other hne 12 (.int .i64 ((numAt l (A + 3) 1 : Nat))))
  replace hb := (hb.setCell (p := ⟨w.heap.size, 12, none⟩) (Nat.le_refl _) (.int .i64 ((numAt l (A + 3) 1 : Nat))))
  replace hM : Box _ w.heap.size (msgF h ⟨d.st, d.tc, d.tp, signedAt l (A) 2, (numAt l (A + 3) 1 : Nat), d.qc, d.qa, d.qv, d.p2, d.gr, d.sr, d.og, d.sh, d.hp, d.ac⟩) _ := (hM.set 12 (.int .i64 ((numAt l (A + 3) 1 : Nat))))
  clear hc12 hf12
  generalize World.setCell _ _ _ = W1 at *
  go_wp2_with fail
  refine (qualGet_any _ l _ _ (HB.out _ hb) hl' HU2).mono ?_
  rintro e wq ⟨rfl, hbq⟩
  obtain ⟨q1, q2, q3, q4⟩ := gotQ_yes HS2.out
  rw [q1, q2, q3, q4, HT2.out]
  clear q1 q2 q3 q4
  replace hA := hA.below hbq
  replace hM := hM.below hbq
  replace hb := bnext hb hbq
  clear hbq
  have hc13 := hM.cell 13 _ rfl
  have hf13 := hM.free 13
  have hc14 := hM.cell 14 _ rfl
  have hf14 := hM.free 14
  have hc15 := hM.cell 15 _ rfl
  have hf15 := hM.free 15
  go_upto_region 6 with fail
  replace hA := (((hA.other hne 13 (.int .i64 ((numAt l (A + 4) 1 : Nat)))).other hne 14 (.int .i64 ((numAt l (A + 4 + 1) 1 : Nat)))).other hne 15 (.int .i64 ((numAt l (A + 4 + 2) 2 : Nat))))
  replace hb := (((hb.setCell (p := ⟨w.heap.size, 13, none⟩) (Nat.le_refl _) (.int .i64 ((numAt l (A + 4) 1 : Nat)))).setCell (p := ⟨w.heap.size, 14, none⟩) (Nat.le_refl _) (.int .i64 ((numAt l (A + 4 + 1) 1 : Nat)))).setCell (p := ⟨w.heap.size, 15, none⟩) (Nat.le_refl _) (.int .i64 ((numAt l (A + 4 + 2) 2 : Nat))))
  replace hM : Box _ w.heap.size (msgF h ⟨d.st, d.tc, d.tp, signedAt l (A) 2, (numAt l (A + 3) 1 : Nat), (numAt l (A + 4) 1 : Nat), (numAt l (A + 4 + 1) 1 : Nat), (numAt l (A + 4 + 2) 2 : Nat), d.p2, d.gr, d.sr, d.og, d.sh, d.hp, d.ac⟩) _ := (((hM.set 13 (.int .i64 ((numAt l (A + 4) 1 : Nat)))).set 14 (.int .i64 ((numAt l (A + 4 + 1) 1 : Nat)))).set 15 (.int .i64 ((numAt l (A + 4 + 2) 2 : Nat))))
  clear hc13 hf13 hc14 hf14 hc15 hf15
  generalize World.setCell _ _ _ = W2 at *
  go_wp2_with fail
  refine (get_ok _ l _ _ _ (HB.out _ hb) hl' HU3 (by decide) (by decide) HS3.out).mono ?_
  rintro e w' ⟨rfl, rfl⟩
  rw [HT3.out, show (1 : Int).toNat = 1 by decide]
  have hc16 := hM.cell 16 _ rfl
  have hf16 := hM.free 16
  go_upto_region 8 with fail
  replace hA := (hA.other hne 16 (.int .i64 ((numAt l (A + 8) 1 : Nat))))
  replace hb := (hb.setCell (p := ⟨w.heap.size, 16, none⟩) (Nat.le_refl _) (.int .i64 ((numAt l (A + 8) 1 : Nat))))
  replace hM : Box _ w.heap.size (msgF h ⟨d.st, d.tc, d.tp, signedAt l (A) 2, (numAt l (A + 3) 1 : Nat), (numAt l (A + 4) 1 : Nat), (numAt l (A + 4 + 1) 1 : Nat), (numAt l (A + 4 + 2) 2 : Nat), (numAt l (A + 8) 1 : Nat), d.gr, d.sr, d.og, d.sh, d.hp, d.ac⟩) _ := (hM.set 16 (.int .i64 ((numAt l (A + 8) 1 : Nat))))
  clear hc16 hf16
  generalize World.setCell _ _ _ = W3 at *
  go_wp2_with fail
  refine (getId_ok _ l _ _ (HB.out _ hb) hl' HU4 HS4.out).mono ?_
  rintro e w' ⟨rfl, rfl⟩
  rw [HT4.out]
  have hc17 := hM.cell 17 _ rfl
  have hf17 := hM.free 17
  go_upto_region 10 with fail
  replace hA := (hA.other hne 17 (.int .u64 ((numAt l (A + 9) 8 : Nat))))
  replace hb := (hb.setCell (p := ⟨w.heap.size, 17, none⟩) (Nat.le_refl _) (.int .u64 ((numAt l (A + 9) 8 : Nat))))
  replace hM : Box _ w.heap.size (msgF h ⟨d.st, d.tc, d.tp, signedAt l (A) 2, (numAt l (A + 3) 1 : Nat), (numAt l (A + 4) 1 : Nat), (numAt l (A + 4 + 1) 1 : Nat), (numAt l (A + 4 + 2) 2 : Nat), (numAt l (A + 8) 1 : Nat), (numAt l (A + 9) 8 : Nat), d.sr, d.og, d.sh, d.hp, d.ac⟩) _ := (hM.set 17 (.int .u64 ((numAt l (A + 9) 8 : Nat))))
  clear hc17 hf17
  generalize World.setCell _ _ _ = W4 at *
  go_wp2_with fail
  refine (get_ok _ l _ _ _ (HB.out _ hb) hl' HU5 (by decide) (by decide) HS5.out).mono ?_
  rintro e w' ⟨rfl, rfl⟩
  rw [HT5.out, show (2 : Int).toNat = 2 by decide]
  have hc18 := hM.cell 18 _ rfl
  have hf18 := hM.free 18
  go_upto_region 12 with fail
  replace hA := (hA.other hne 18 (.int .i64 ((numAt l (A + 17) 2 : Nat))))
  replace hb := (hb.setCell (p := ⟨w.heap.size, 18, none⟩) (Nat.le_refl _) (.int .i64 ((numAt l (A + 17) 2 : Nat))))
  replace hM : Box _ w.heap.size (msgF h ⟨d.st, d.tc, d.tp, signedAt l (A) 2, (numAt l (A + 3) 1 : Nat), (numAt l (A + 4) 1 : Nat), (numAt l (A + 4 + 1) 1 : Nat), (numAt l (A + 4 + 2) 2 : Nat), (numAt l (A + 8) 1 : Nat), (numAt l (A + 9) 8 : Nat), (numAt l (A + 17) 2 : Nat), d.og, d.sh, d.hp, d.ac⟩) _ := (hM.set 18 (.int .i64 ((numAt l (A + 17) 2 : Nat))))
  clear hc18 hf18
  generalize World.setCell _ _ _ = W5 at *
  go_wp2_with fail
  refine (get_ok _ l _ _ _ (HB.out _ hb) hl' HU6 (by decide) (by decide) HS6.out).mono ?_
  rintro e w' ⟨rfl, rfl⟩
  rw [HT6.out, show (1 : Int).toNat = 1 by decide]
  have hc19 := hM.cell 19 _ rfl
  have hf19 := hM.free 19
  go_upto_region 14 with fail
  replace hA := (hA.other hne 19 (.int .i64 ((numAt l (A + 19) 1 : Nat))))
  replace hb := (hb.setCell (p := ⟨w.heap.size, 19, none⟩) (Nat.le_refl _) (.int .i64 ((numAt l (A + 19) 1 : Nat))))
  replace hM : Box _ w.heap.size (msgF h ⟨d.st, d.tc, d.tp, signedAt l (A) 2, (numAt l (A + 3) 1 : Nat), (numAt l (A + 4) 1 : Nat), (numAt l (A + 4 + 1) 1 : Nat), (numAt l (A + 4 + 2) 2 : Nat), (numAt l (A + 8) 1 : Nat), (numAt l (A + 9) 8 : Nat), (numAt l (A + 17) 2 : Nat), (numAt l (A + 19) 1 : Nat), d.sh, d.hp, d.ac⟩) _ := (hM.set 19 (.int .i64 ((numAt l (A + 19) 1 : Nat))))
  clear hc19 hf19
  generalize World.setCell _ _ _ = W6 at *
  apply wp_region_lit
  refine wpList_load_msg (op := ⟨some 68, .load _ _, _, _, _, _⟩) rfl _ rfl w.heap.size rfl (msgF h ⟨d.st, d.tc, d.tp, signedAt l (A) 2, (numAt l (A + 3) 1 : Nat), (numAt l (A + 4) 1 : Nat), (numAt l (A + 4 + 1) 1 : Nat), (numAt l (A + 4 + 2) 2 : Nat), (numAt l (A + 8) 1 : Nat), (numAt l (A + 9) 8 : Nat), (numAt l (A + 17) 2 : Nat), (numAt l (A + 19) 1 : Nat), d.sh, d.hp, d.ac⟩) _ hM (msgF_length _ _) ?_
  refine wpList_store_msg (op := ⟨none, .store _ _ _, _, _, _, _⟩) rfl _ _ rfl G (msgF h ⟨d.st, d.tc, d.tp, signedAt l (A) 2, (numAt l (A + 3) 1 : Nat), (numAt l (A + 4) 1 : Nat), (numAt l (A + 4 + 1) 1 : Nat), (numAt l (A + 4 + 2) 2 : Nat), (numAt l (A + 8) 1 : Nat), (numAt l (A + 9) 8 : Nat), (numAt l (A + 17) 2 : Nat), (numAt l (A + 19) 1 : Nat), d.sh, d.hp, d.ac⟩) (msgL hd0 zr) _ rfl rfl hA (msgF_length _ _) (msgL_length _ _ zr_length) (msgL_one _ _ (bdL_one _)) ?_
  go_wp2_with fail
  exact bodyPost_ret (v := .agg (msgF h ⟨d.st, d.tc, d.tp, signedAt l (A) 2, (numAt l (A + 3) 1 : Nat), (numAt l (A + 4) 1 : Nat), (numAt l (A + 4 + 1) 1 : Nat), (numAt l (A + 4 + 2) 2 : Nat), (numAt l (A + 8) 1 : Nat), (numAt l (A + 9) 8 : Nat), (numAt l (A + 17) 2 : Nat), (numAt l (A + 19) 1 : Nat), d.sh, d.hp, d.ac⟩).toArray) (results_cell_row rfl _ _ G _ _ (0, 0) _ rfl (hA.row _) Try.underlying28 rfl info_msg) rfl ⟨rfl, below_setRow hb hG _⟩

set_option maxRecDepth 100000 in
set_option maxHeartbeats 4000000 in
theorem getMan_any (v : Value) (l : List UInt8) (h : Hd) (d : Bd) (A : Nat) (w : World) (hB : Bytes w v l) (hl : l.length ≤ 140737488355328) (hA : A + 4 ≤ l.length) :
    Calls Try.prog 64 #[.agg (msgF h d).toArray, v, .int .i64 (A : Int)] w fun e w' => e = .returned (.agg (msgF h (gotMan d l A)).toArray) ∧ Below w.heap.size w w' := by
  have HB := hid fun (w' : World) (h : Below w.heap.size w w') => hB.below h
  have hl' : l.length ≤ 140737488355328 := by omega
  have hAI : (A : Int) + 4 ≤ 140737488355328 := by omega
  have HS0 : Hid (standB l.length ((A : Int)) 1 = true) := hid (standB_true (by omega) (by decide) (by omega))
  have HT0 : Hid ((A : Int).toNat = A) := hid (by omega)
  have HU0 : (A : Int) ≤ 9223372036854775807 := by omega
  have HS1 : Hid (standB l.length ((A : Int) + 1) 1 = true) := hid (standB_true (by omega) (by decide) (by omega))
  have HT1 : Hid (((A : Int) + 1).toNat = A + 1) := hid (by omega)
  have HU1 : (A : Int) + 1 ≤ 9223372036854775807 := by omega
  have HS2 : Hid (standB l.length ((A : Int) + 1 + 1) 1 = true) := hid (standB_true (by omega) (by decide) (by omega))
  have HT2 : Hid (((A : Int) + 1 + 1).toNat = A + 2) := hid (by omega)
  have HU2 : (A : Int) + 1 + 1 ≤ 9223372036854775807 := by omega
  clear hB hA
  go_enter Try.func64, Try.ntmps64
  go_upto_region 1 with fail
  have hM : Box ((w.alloc (Obj.cells (msgF h d).toArray 28)).alloc (Obj.cells (msgL hd0 zr).toArray 28)) w.heap.size (msgF h d) 28 := (Box.new w _ _).below (bnew _ _)
  have hA : Box ((w.alloc (Obj.cells (msgF h d).toArray 28)).alloc (Obj.cells (msgL hd0 zr).toArray 28)) (w.heap.size + 1) (msgL hd0 zr) 28 := heap_alloc2_new w _ _
  have hb := bnew2 w (Obj.cells (msgF h d).toArray 28) (Obj.cells (msgL hd0 zr).toArray 28)
  have hG : w.heap.size ≤ w.heap.size + 1 := by omega
  have hne : w.heap.size + 1 ≠ w.heap.size := by omega
  change Code.wp Try.prog _ _ _ ((w.alloc (Obj.cells (msgF h d).toArray 28)).alloc (Obj.cells (msgL hd0 zr).toArray 28))
  generalize ((w.alloc (Obj.cells (msgF h d).toArray 28)).alloc (Obj.cells (msgL hd0 zr).toArray 28)) = W at *
  generalize w.heap.size + 1 = G at *
  go_wp2_with fail
  refine (get_ok _ l _ _ _ (HB.out _ hb) hl' HU0 (by decide) (by decide) HS0.out).mono ?_
  rintro e w' ⟨rfl, rfl⟩
  rw [HT0.out, show (1 : Int).toNat = 1 by decide]
  have hc20 := hM.cell 20 _ rfl
  have hf20 := hM.free 20
  go_upto_region 2 with fail
  replace hA := (hA.other hne 20 (.int .i64 ((numAt l (A) 1 : Nat))))
  replace hb := (hb.setCell (p := ⟨w.heap.size, 20, none⟩) (Nat.le_refl _) (.int .i64 ((numAt l (A) 1 : Nat))))
  replace hM : Box _ w.heap.size (msgF h ⟨d.st, d.tc, d.tp, d.ut, d.p1, d.qc, d.qa, d.qv, d.p2, d.gr, d.sr, d.og, (numAt l (A) 1 : Nat), d.hp, d.ac⟩) _ := (hM.set 20 (.int .i64 ((numAt l (A) 1 : Nat))))
  clear hc20 hf20
  generalize World.setCell _ _ _ = W0 at *
  go_wp2_with fail
  refine (get_ok _ l _ _ _ (HB.out _ hb) hl' HU1 (by decide) (by decide) HS1.out).mono ?_
  rintro e w' ⟨rfl, rfl⟩
  rw [HT1.out, show (1 : Int).toNat = 1 by decide]
  have hc21 := hM.cell 21 _ rfl
  have hf21 := hM.free 21
  go_upto_region 4 with fail
  replace hA := (hA.other hne 21 (.int .i64 ((numAt l (A + 1) 1 : Nat))))
  replace hb := (hb.setCell (p := ⟨w.heap.size, 21, none⟩) (Nat.le_refl _) (.int .i64 ((numAt l (A + 1) 1 : Nat))))
  replace hM : Box _ w.heap.size (msgF h ⟨d.st, d.tc, d.tp, d.ut, d.p1, d.qc, d.qa, d.qv, d.p2, d.gr, d.sr, d.og, (numAt l (A) 1 : Nat), (numAt l (A + 1) 1 : Nat), d.ac⟩) _ := (hM.set 21 (.int .i64 ((numAt l (A + 1) 1 : Nat))))
  clear hc21 hf21
  generalize World.setCell _ _ _ = W1 at *
  go_wp2_with fail
  refine (get_ok _ l _ _ _ (HB.out _ hb) hl' HU2 (by decide) (by decide) HS2.out).mono ?_
  rintro e w' ⟨rfl, rfl⟩
  rw [HT2.out, show (1 : Int).toNat = 1 by decide]
  have h15 := and15b ((numAt l (A + 2) 1 : Nat) : Int)
  have hc22 := hM.cell 22 _ rfl
  have hf22 := hM.free 22
  go_upto_region 7 with fail
  replace hA := (hA.other hne 22 (.int .i64 (((numAt l (A + 2) 1 : Nat) : Int) % 16)))
  replace hb := (hb.setCell (p := ⟨w.heap.size, 22, none⟩) (Nat.le_refl _) (.int .i64 (((numAt l (A + 2) 1 : Nat) : Int) % 16)))
  replace hM : Box _ w.heap.size (msgF h ⟨d.st, d.tc, d.tp, d.ut, d.p1, d.qc, d.qa, d.qv, d.p2, d.gr, d.sr, d.og, (numAt l (A) 1 : Nat), (numAt l (A + 1) 1 : Nat), ((numAt l (A + 2) 1 : Nat) : Int) % 16⟩) _ := (hM.set 22 (.int .i64 (((numAt l (A + 2) 1 : Nat) : Int) % 16)))
  clear hc22 hf22
  generalize World.setCell _ _ _ = W2 at *
  apply wp_region_lit
  refine wpList_load_msg (op := ⟨some 36, .load _ _, _, _, _, _⟩) rfl _ rfl w.heap.size rfl (msgF h ⟨d.st, d.tc, d.tp, d.ut, d.p1, d.qc, d.qa, d.qv, d.p2, d.gr, d.sr, d.og, (numAt l (A) 1 : Nat), (numAt l (A + 1) 1 : Nat), ((numAt l (A + 2) 1 : Nat) : Int) % 16⟩) _ hM (msgF_length _ _) ?_
  refine wpList_store_msg (op := ⟨none, .store _ _ _, _, _, _, _⟩) rfl _ _ rfl G (msgF h ⟨d.st, d.tc, d.tp, d.ut, d.p1, d.qc, d.qa, d.qv, d.p2, d.gr, d.sr, d.og, (numAt l (A) 1 : Nat), (numAt l (A + 1) 1 : Nat), ((numAt l (A + 2) 1 : Nat) : Int) % 16⟩) (msgL hd0 zr) _ rfl rfl hA (msgF_length _ _) (msgL_length _ _ zr_length) (msgL_one _ _ (bdL_one _)) ?_
  go_wp2_with fail
  exact bodyPost_ret (v := .agg (msgF h ⟨d.st, d.tc, d.tp, d.ut, d.p1, d.qc, d.qa, d.qv, d.p2, d.gr, d.sr, d.og, (numAt l (A) 1 : Nat), (numAt l (A + 1) 1 : Nat), ((numAt l (A + 2) 1 : Nat) : Int) % 16⟩).toArray) (results_cell_row rfl _ _ G _ _ (0, 0) _ rfl (hA.row _) Try.underlying28 rfl info_msg) rfl ⟨rfl, below_setRow hb hG _⟩

end Go.Proofs.Ytohgpnlihfcecaa