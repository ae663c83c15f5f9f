/- carillonlaw16's SeqPlays from contracts (gen_seqref.py). -/
import Derived.Test.YtmcjbidfogoonaaSeqRef
import Derived.Test.YtmcjbidfogoonaaSeqLaws1
namespace Go.Proofs.Ytmcjbidfogoonaa
open Go.RowKit Go.Proofs
set_option maxRecDepth 50000
set_option linter.unusedVariables false
set_option linter.unusedSimpArgs false

abbrev Op16 := Int × Int × (Hd × Bd)
def opK : RowK Op16 := ⟨fun x => [.int .i64 x.1, .int .i64 x.2.1] ++ msK.enc x.2.2 ++ [], 25, by decide, fun _ => rfl, by
  intro x v hv
  simp only [List.append_nil, List.cons_append, List.nil_append, List.mem_cons] at hv
  rcases hv with rfl | rfl | hv
  · rfl
  · rfl
  · exact msK.one _ v hv⟩
def zeroOp : Op16 := (0, 0, zeroM)
instance : Inhabited Op16 := ⟨zeroOp⟩
theorem opT : StrT opK 38 := ⟨⟨_, Try.underlying38, rfl⟩, by kernel_rfl⟩
theorem zero_RM : RM (mmK.enc zeroMm) noneS := ⟨zeroMm, rfl, rfl, zero_hd, zero_hd⟩

set_option maxRecDepth 100000 in
set_option maxHeartbeats 8000000 in
theorem seqPlays_from {R : List Value → Ms → Prop} (HNew : CNewS R) (HS : CSync R) (HF : CFoll R) (HC : CClrS R) (HN : CNext) (HW : CNewer) (a b : Int) (wa : -9223372036854775808 ≤ a ∧ a ≤ 9223372036854775807) (wb : -9223372036854775808 ≤ b ∧ b ≤ 9223372036854775807) (v : Value) (l : List Op16) (w : World) (hR : opK.Reads w v l) (hall : ∀ x ∈ l, HdOk x.2.2.1) :
    Calls Try.prog 3 #[.int .i64 a, .int .i64 b, v] w fun e w' => e = .returned (.bool true) ∧ Below w.heap.size w w' := by
  obtain ⟨p, cap, rfl, hcap, hmax, hat⟩ := hR
  have HAT := hid fun h => RowK.At.pos (K := opK) hat h
  have HALL := hid hall
  unfold maxLen at hmax
  clear hat hall
  go_enter Try.func3, Try.ntmps3
  go_wp2_with fail
  refine (HN a w wa).mono ?_
  rintro e wn ⟨rfl, bn⟩
  go_wp2_with fail
  refine (refNext_any a _).mono ?_
  rintro e w0 ⟨rfl, rfl⟩
  go_wp2_with fail
  refine (HW a b _ wa wb).mono ?_
  rintro e w0 ⟨rfl, bm⟩
  replace bn := bnext bn bm
  clear bm
  go_wp2_with fail
  refine (refNewer_any a b _).mono ?_
  rintro e wm ⟨rfl, rfl⟩
  go_wp2_with fail
  refine (HNew _).mono ?_
  rintro e w1 ⟨ga, rfl, hg, h9, bq⟩
  have l_hA : w.heap.size ≤ ga := Nat.le_trans bn.size hg
  have hb := bnext bn bq
  have hA := h9
  clear h9 hg bn bq
  have NB := Box.new w1 (mmK.enc zeroMm) 36
  have nb := bnew w1 (Obj.cells (mmK.enc zeroMm).toArray 36)
  have n_hA_hW : ga ≠ w1.heap.size := by have := hA.lt; omega
  have l_hW : w.heap.size ≤ w1.heap.size := hb.size
  go_upto_region 5 with (guard_target =~ wpList _ _ _ (⟨some 31, _, _, _, _, _⟩ :: _) _ _; refine wpList_build_any (op := ⟨some 31, .build _ _, _, _, _, _⟩) (by rfl) _ _ (by rfl) _ (by rfl) (mmK.enc zeroMm).toArray (by kernel_rfl) ?_)
  change Code.wp Try.prog _ _ _ (w1.alloc (Obj.cells (mmK.enc zeroMm).toArray 36))
  replace hA := hA.below nb
  replace hb := bnext hb nb
  generalize w1.alloc (Obj.cells (mmK.enc zeroMm).toArray 36) = W1 at *
  generalize w1.heap.size = gm at *
  have hW : ObAt 36 RM W1 gm noneS := ⟨_, NB, zero_RM⟩
  clear NB nb
  go_wp2_with fail
  go_loopw [9] (fun iv wr => ∃ (j : Nat) (mm : Ms), j ≤ l.length ∧ j ≤ 60 ∧ iv = .int .i64 (j : Int) ∧ SAt R wr ga mm ∧ ObAt 36 RM wr gm mm ∧ Below w.heap.size w wr) (fun iv _ => 60 - (intOf iv).toNat)
  case atStart => exact ⟨0, noneS, Nat.zero_le _, Nat.zero_le _, rfl, hA, hW, hb⟩
  case round =>
    clear hA hW hb
    obtain ⟨j, mm, hjl, hj60, rfl, hA, hW, hb⟩ := hrel
    by_cases hlt : j < l.length
    case neg =>
      have hltI : ¬ (j : Int) < (l.length : Int) := by omega
      go_wp2_with fail
      refine (awake16_from HNew HS HF HN HW _).mono ?_
      rintro e wz ⟨rfl, bz⟩
      go_wp2_with fail
      go_ret
      exact ⟨rfl, bnext hb bz⟩
    by_cases h60 : j < 60
    case neg =>
      have hltI : (j : Int) < (l.length : Int) := by omega
      have h60I : ¬ (j : Int) < 60 := by omega
      go_wp2_with fail
      refine (awake16_from HNew HS HF HN HW _).mono ?_
      rintro e wz ⟨rfl, bz⟩
      go_wp2_with fail
      go_ret
      exact ⟨rfl, bnext hb bz⟩
    have hltI : (j : Int) < (l.length : Int) := by omega
    have h60I : (j : Int) < 60 := by omega
    have hj0 : (0 : Int) ≤ (j : Int) := by omega
    obtain ⟨b, off, rfl, hbl, hc⟩ := HAT.out (by omega)
    have hR : wr.rangeAt b (off + j * 25) (opK.enc l[j]) := fun i u hi => by
      have hi25 : i < 25 := (List.getElem?_eq_some_iff.1 hi).1
      rw [hb.cell (p := ⟨b, off + j * 25 + i, none⟩) hbl, Nat.add_assoc]
      exact RowK.At.cell (K := opK) hc j i hlt hi25 u hi
    have hok := HALL.out _ (List.getElem_mem hlt)
    clear hc
    generalize l[j] = x at *
    obtain ⟨kd, at', m⟩ := x
    have hn1 := bnew wr (Obj.cells (opK.enc (zeroOp)).toArray 38)
    have hM0 := Box.new wr (opK.enc (zeroOp)) 38
    go_upto_region 11 with (first | (guard_target =~ wpList _ _ _ (⟨some 48, _, _, _, _, _⟩ :: _) _ _; refine opT.load (op := ⟨some 48, .load _ _, _, _, _, _⟩) (by rfl) _ (by rfl) b (off + j * 25) (by rfl) ((kd, at', m)) hR ?_) | (guard_target =~ wpList _ _ _ (⟨none, _, _, _, _, _⟩ :: _) _ _; refine opT.store (op := ⟨none, .store _ _ _, _, _, _, _⟩) (by rfl) _ _ (by rfl) (wr.heap.size) ((kd, at', m)) (zeroOp) _ (by rfl) (by rfl) hM0 ?_))
    have n_hA_hX : ga ≠ wr.heap.size := by have h1 := hA.lt; have h2 := Nat.le_refl wr.heap.size; omega
    have n_hW_hX : gm ≠ wr.heap.size := by have h1 := hW.lt; have h2 := Nat.le_refl wr.heap.size; omega
    have l_hX : w.heap.size ≤ wr.heap.size := Nat.le_trans hb.size (Nat.le_refl wr.heap.size)
    have hX := hM0.rowK (opK.enc ((kd, at', m)))
    replace hA := (hA.below hn1).row (k := wr.heap.size) n_hA_hX (opK.enc ((kd, at', m))).toArray
    replace hW := (hW.below hn1).row (k := wr.heap.size) n_hW_hX (opK.enc ((kd, at', m))).toArray
    have hW := below_setRow hn1 (Nat.le_refl _) (opK.enc ((kd, at', m))).toArray
    replace hb := bnext hb hW
    change Code.wp Try.prog _ _ _ ((wr.alloc (Obj.cells (opK.enc (zeroOp)).toArray 38)).setRow wr.heap.size (opK.enc ((kd, at', m))).toArray)
    generalize (wr.alloc (Obj.cells (opK.enc (zeroOp)).toArray 38)).setRow wr.heap.size (opK.enc ((kd, at', m))).toArray = w1 at *
    clear hn1 hM0 hW
    generalize wr.heap.size = gx at *
    clear hR
    replace hok : HdOk m.1 := hok
    have x0 : w1.cell? ⟨gx, 0, none⟩ = some (.int .i64 kd) := hX.cell 0 _ rfl
    have x1 : w1.cell? ⟨gx, 1, none⟩ = some (.int .i64 at') := hX.cell 1 _ rfl
    go_wp2_with fail
    refine (place_in kd 4 _ (by decide) (by decide)).mono ?_
    rintro e w0 ⟨k, rfl, hk0, hk1, -, rfl⟩
    clear x0
    by_cases h0 : k = 0
    case pos =>
      subst h0
      go_wp2_with (guard_target =~ wpList _ _ _ (⟨some 74, _, _, _, _, _⟩ :: _) _ _; refine msT.load (op := ⟨some 74, .load _ _, _, _, _, _⟩) (by rfl) _ (by rfl) gx 2 (by rfl) (m) (Box.range_mid [.int .i64 kd, .int .i64 at'] (msK.enc m) [] hX) ?_)
      refine (HS ga mm m at' w1 hA hok).mono ?_
      rintro e w2 ⟨rfl, h9, oq⟩
      replace hW := hW.only oq (Ne.symm n_hA_hW)
      replace hX := hX.only oq (Ne.symm n_hA_hX)
      replace hb := Only.below hb oq l_hA hb.size
      replace hA := h9
      clear h9 oq
      have x1 : w2.cell? ⟨gx, 1, none⟩ = some (.int .i64 at') := hX.cell 1 _ rfl
      go_wp2_with (guard_target =~ wpList _ _ _ (⟨some 83, _, _, _, _, _⟩ :: _) _ _; refine msT.load (op := ⟨some 83, .load _ _, _, _, _, _⟩) (by rfl) _ (by rfl) gx 2 (by rfl) (m) (Box.range_mid [.int .i64 kd, .int .i64 at'] (msK.enc m) [] hX) ?_)
      refine (refSync_any gm mm m at' w2 hW hok).mono ?_
      rintro e w3 ⟨rfl, h9, oq⟩
      replace hA := hA.only oq n_hA_hW
      replace hX := hX.only oq (Ne.symm n_hW_hX)
      replace hb := Only.below hb oq l_hW hb.size
      replace hW := h9
      clear h9 oq
      go_wp2_with fail
      go_roundw
      case rel => exact ⟨j + 1, syncS mm m at', by omega, by omega, by go_num, hA, hW, hb⟩
      case measure => simp [intOf]; omega
    by_cases h1 : k = 1
    case pos =>
      subst h1
      go_wp2_with (guard_target =~ wpList _ _ _ (⟨some 92, _, _, _, _, _⟩ :: _) _ _; refine msT.load (op := ⟨some 92, .load _ _, _, _, _, _⟩) (by rfl) _ (by rfl) gx 2 (by rfl) (m) (Box.range_mid [.int .i64 kd, .int .i64 at'] (msK.enc m) [] hX) ?_)
      refine (HF ga mm m w1 hA hok).mono ?_
      rintro e w2 ⟨rfl, h9, oq⟩
      replace hW := hW.only oq (Ne.symm n_hA_hW)
      replace hX := hX.only oq (Ne.symm n_hA_hX)
      replace hb := Only.below hb oq l_hA hb.size
      replace hA := h9
      clear h9 oq
      go_wp2_with (guard_target =~ wpList _ _ _ (⟨some 99, _, _, _, _, _⟩ :: _) _ _; refine msT.load (op := ⟨some 99, .load _ _, _, _, _, _⟩) (by rfl) _ (by rfl) gx 2 (by rfl) (m) (Box.range_mid [.int .i64 kd, .int .i64 at'] (msK.enc m) [] hX) ?_)
      refine (refFollow_any gm mm m w2 hW hok).mono ?_
      rintro e w3 ⟨rfl, h9, oq⟩
      replace hA := hA.only oq n_hA_hW
      replace hX := hX.only oq (Ne.symm n_hW_hX)
      replace hb := Only.below hb oq l_hW hb.size
      replace hW := h9
      clear h9 oq
      go_wp2_with fail
      go_roundw
      case rel => exact ⟨j + 1, follS mm m, by omega, by omega, by go_num, hA, hW, hb⟩
      case measure => simp [intOf]; omega
    by_cases h2 : k = 2
    case neg =>
      have h3 : k = 3 := by omega
      subst h3
      go_wp2_with fail
      refine (HC ga mm w1 hA).mono ?_
      rintro e w2 ⟨rfl, h9, oq⟩
      replace hW := hW.only oq (Ne.symm n_hA_hW)
      replace hX := hX.only oq (Ne.symm n_hA_hX)
      replace hb := Only.below hb oq l_hA hb.size
      replace hA := h9
      clear h9 oq
      obtain ⟨xs, hB, q, rfl, -, -, -⟩ := hW
      go_wp2_with (first | (guard_target =~ wpList _ _ _ (⟨some 57, _, _, _, _, _⟩ :: _) _ _; refine wpList_build_any (op := ⟨some 57, .build _ _, _, _, _, _⟩) (by rfl) _ _ (by rfl) _ (by rfl) (mmK.enc zeroMm).toArray (by kernel_rfl) ?_) | (guard_target =~ wpList _ _ _ (⟨none, _, _, _, _, _⟩ :: _) _ _; refine mmT.store (op := ⟨none, .store _ _ _, _, _, _, _⟩) (by rfl) _ _ (by rfl) (gm) (zeroMm) (q) _ (by rfl) (by rfl) hB ?_))
      have hW : ObAt 36 RM (World.setRow w2 gm (mmK.enc zeroMm).toArray) gm noneS := ⟨_, hB.rowK (mmK.enc zeroMm), zero_RM⟩
      go_roundw
      case rel => exact ⟨j + 1, noneS, by omega, by omega, by go_num, hA.row (k := gm) n_hA_hW _, hW, below_setRow hb l_hW _⟩
      case measure => simp [intOf]; omega
    subst h2
    cases hr : at'.tmod 2 == 0
    · skip
      go_wp2_with (guard_target =~ wpList _ _ _ (⟨some 92, _, _, _, _, _⟩ :: _) _ _; refine msT.load (op := ⟨some 92, .load _ _, _, _, _, _⟩) (by rfl) _ (by rfl) gx 2 (by rfl) (m) (Box.range_mid [.int .i64 kd, .int .i64 at'] (msK.enc m) [] hX) ?_)
      refine (HF ga mm m w1 hA hok).mono ?_
      rintro e w2 ⟨rfl, h9, oq⟩
      replace hW := hW.only oq (Ne.symm n_hA_hW)
      replace hX := hX.only oq (Ne.symm n_hA_hX)
      replace hb := Only.below hb oq l_hA hb.size
      replace hA := h9
      clear h9 oq
      go_wp2_with (guard_target =~ wpList _ _ _ (⟨some 99, _, _, _, _, _⟩ :: _) _ _; refine msT.load (op := ⟨some 99, .load _ _, _, _, _, _⟩) (by rfl) _ (by rfl) gx 2 (by rfl) (m) (Box.range_mid [.int .i64 kd, .int .i64 at'] (msK.enc m) [] hX) ?_)
      refine (refFollow_any gm mm m w2 hW hok).mono ?_
      rintro e w3 ⟨rfl, h9, oq⟩
      replace hA := hA.only oq n_hA_hW
      replace hX := hX.only oq (Ne.symm n_hW_hX)
      replace hb := Only.below hb oq l_hW hb.size
      replace hW := h9
      clear h9 oq
      go_wp2_with fail
      go_roundw
      case rel => exact ⟨j + 1, follS mm m, by omega, by omega, by go_num, hA, hW, hb⟩
      case measure => simp [intOf]; omega
    · skip
      go_wp2_with (guard_target =~ wpList _ _ _ (⟨some 74, _, _, _, _, _⟩ :: _) _ _; refine msT.load (op := ⟨some 74, .load _ _, _, _, _, _⟩) (by rfl) _ (by rfl) gx 2 (by rfl) (m) (Box.range_mid [.int .i64 kd, .int .i64 at'] (msK.enc m) [] hX) ?_)
      refine (HS ga mm m at' w1 hA hok).mono ?_
      rintro e w2 ⟨rfl, h9, oq⟩
      replace hW := hW.only oq (Ne.symm n_hA_hW)
      replace hX := hX.only oq (Ne.symm n_hA_hX)
      replace hb := Only.below hb oq l_hA hb.size
      replace hA := h9
      clear h9 oq
      have x1 : w2.cell? ⟨gx, 1, none⟩ = some (.int .i64 at') := hX.cell 1 _ rfl
      go_wp2_with (guard_target =~ wpList _ _ _ (⟨some 83, _, _, _, _, _⟩ :: _) _ _; refine msT.load (op := ⟨some 83, .load _ _, _, _, _, _⟩) (by rfl) _ (by rfl) gx 2 (by rfl) (m) (Box.range_mid [.int .i64 kd, .int .i64 at'] (msK.enc m) [] hX) ?_)
      refine (refSync_any gm mm m at' w2 hW hok).mono ?_
      rintro e w3 ⟨rfl, h9, oq⟩
      replace hA := hA.only oq n_hA_hW
      replace hX := hX.only oq (Ne.symm n_hW_hX)
      replace hb := Only.below hb oq l_hW hb.size
      replace hW := h9
      clear h9 oq
      go_wp2_with fail
      go_roundw
      case rel => exact ⟨j + 1, syncS mm m at', by omega, by omega, by go_num, hA, hW, hb⟩
      case measure => simp [intOf]; omega
end Go.Proofs.Ytmcjbidfogoonaa
