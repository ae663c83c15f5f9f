/- The walk of the law BodyShort (gen_bodyshort.py). -/
import Derived.Test.YtpelgbcccgdlbaaBodyLaws
import Derived.Test.YtpelgbcccgdlbaaBodySay
import Derived.Test.YtpelgbcccgdlbaaChain2
namespace Go.Proofs.Ytpelgbcccgdlbaa
open Go.RowKit Go.Proofs
set_option linter.unusedVariables false
set_option linter.unusedSimpArgs false

theorem len_known {t : Int} (hk : knownB t = true) : 10 ≤ lenI t := by
  rcases known_or hk with rfl | rfl | rfl | rfl | rfl | rfl | rfl | rfl | rfl | rfl <;> decide

set_option maxRecDepth 100000 in
set_option maxHeartbeats 8000000 in
theorem bodyShort_walk {w : World} (h : Hd) (d : Bd) (hok : MsgOk h d) (v : Value) (l : List UInt8) (hB : Bytes w v l) (hl : l.length ≤ 140737488351232) :
    Calls Try.prog 6 #[.agg (msgF h d).toArray, v] w fun e w' => e = .returned (.bool true) ∧ Below w.heap.size w w' := by
  have HB := hid fun (w' : World) (h : Below w.heap.size w w') => hB.below h
  clear hB
  go_enter Try.func6, Try.ntmps6
  go_upto_region 1 with fail
  obtain ⟨W, hWe, hb, hM⟩ := box_msg w (msgF h d)
  rw [← hWe]
  clear hWe
  go_wp2_with (guard_target =~ wpList _ _ _ (⟨some 18, _, _, _, _, _⟩ :: _) _ _; refine wpList_load_msg (op := ⟨some 18, .load _ _, _, _, _, _⟩) (by rfl) _ (by rfl) w.heap.size (by rfl) (msgF h d) _ hM (msgF_length _ _) ?_)
  cases hm : checkM h d
  · refine (bodyPut_no _ [] h d _ (Bytes.nil _) (by decide) hm).mono ?_
    rintro e w1 ⟨x1, rfl, own, hb1⟩
    have hX := own.bytes
    obtain ⟨p, cap, rfl, -, -, -⟩ := hX
    rw [List.length_nil]
    clear own
    go_wp2_with fail
    refine (awake07_any _).mono ?_
    rintro e w7 ⟨rfl, hb7⟩
    go_wp2_with fail
    go_ret
    exact ⟨rfl, bnext (bnext hb hb1) hb7⟩
  refine (bodyPut_yes _ [] h d _ (Bytes.nil _) (by decide) hok.2.2.1.1 hok.2.1.1 hm).mono ?_
  rintro e w1 ⟨x1, rfl, own, hb1⟩
  replace hM := hM.below hb1
  replace hb := bnext hb hb1
  clear hb1
  rw [List.nil_append] at own
  have hk := (checkM_head hm).2
  have hlen := bodyS_length h.ty d
  have hlen10 := len_known hk
  have hlen2 := lenI_in h.ty
  obtain ⟨hlen0, hlen1⟩ := hlen2
  have hback := fun (x : Value) (w' : World) (hB : Bytes w' x ([] ++ (bodyS h.ty d ++ l))) => bodyGet_back x [] l h (tyH h.ty) d w' hB (by rw [List.nil_append, List.length_append]; omega) rfl hok hm
  simp only [List.nil_append, List.length_nil, Int.natCast_zero, Int.zero_add] at hback
  generalize bodyS h.ty d = L at *
  obtain ⟨N, hN⟩ : ∃ N, L.length = N + 1 := ⟨L.length - 1, by omega⟩
  have hLI : lenI h.ty = (N : Int) + 1 := by omega
  have hs1 := fun (x : Value) (w' : World) (hB : Bytes w' x (L.take N)) => bodyGet_short x (L.take N) (tyH h.ty) bd0 0 w' hB (by rw [List.length_take]; omega) (by decide) (by decide) (by rw [List.length_take]; show _ < lenI h.ty; omega)
  have hs2 := fun (x : Value) (w' : World) (hB : Bytes w' x L) => bodyGet_short x L (tyH h.ty) bd0 1 w' hB (by omega) (by decide) (by decide) (by show _ < lenI h.ty; omega)
  obtain ⟨g, cap, rfl, hcap, -, hmax, hg⟩ := own.form (by omega)
  have hcell := fun i (hi : i < L.length) => own.cell i hi
  have HC := hid fun (wx : World) (hx : Below w1.heap.size w1 wx) => (Bytes.cut (w := w1) (b := g) (off := 0) (l := L) (cap := cap) 0 N cap hg (fun i hi => by rw [Nat.zero_add]; exact hcell i hi) (by omega) hcap hmax rfl).below hx
  rw [List.drop_zero, Nat.zero_add] at HC
  have hX := own.bytes
  have HX := hid fun (w' : World) (hx : Below w1.heap.size w1 w') => hX.below hx
  have Hback := hid hback
  have Hs1 := hid hs1
  have Hs2 := hid hs2
  have HLl := hid hlen
  have hLl2 : L.length + l.length ≤ 140737488355328 := by omega
  have HLl2 := hid hLl2
  rw [hN] at hcap HX ⊢
  have HN := hid hN
  rw [hLI] at hlen1
  have hNI : (N : Int) + 1 ≤ 40 := by omega
  have hcapI : (N : Int) + 1 ≤ (cap : Int) := by omega
  have hcapI2 : (N : Int) ≤ (cap : Int) := by omega
  have hsub : IntKind.i64.wrap (N : Int) = (N : Int) := by rw [IntKind.wrap_i64]; omega
  have HLI := hid hLI
  unfold maxLen at hmax
  clear hlen hlen10 hlen0 hlen1 hback hs1 hs2 own hcell hX hLl2 hN hLI hm hok hk hcap
  have c0 := hM.cell 0 _ rfl
  go_upto_region 5 with (first | (guard_target =~ wpList _ _ _ (⟨some 32, _, _, _, _, _⟩ :: _) _ _; refine wpList_build_type (op := ⟨some 32, .build _ _, _, _, _, _⟩) (by rfl) _ (by rfl) h.ty (by rfl) ?_) | (guard_target =~ wpList _ _ _ (⟨none, _, _, _, _, _⟩ :: _) _ _; refine wpList_store_msg (op := ⟨none, .store _ _ _, _, _, _, _⟩) (by rfl) _ _ (by rfl) w1.heap.size (msgF (tyH h.ty) bd0) (msgL hd0 zr) _ (by rfl) (by rfl) (Box.new w1 _ _) (msgF_length _ _) (msgL_length _ _ zr_length) (msgL_one _ _ (bdL_one _)) ?_))
  have hn1 := bnew w1 (Obj.cells (msgL hd0 zr).toArray 29)
  have hne : w.heap.size ≠ w1.heap.size := by have := hM.lt; omega
  have hZ := (Box.new w1 (msgL hd0 zr) 29).row (msgF (tyH h.ty) bd0)
  replace hM := (hM.below hn1).row_other hne (msgF (tyH h.ty) bd0).toArray
  have hbz := below_setRow (bnext (Below.refl w1.heap.size w1) hn1) (Nat.le_refl _) (msgF (tyH h.ty) bd0).toArray
  clear hn1 c0
  change Code.wp _ _ _ _ ((w1.alloc (Obj.cells (msgL hd0 zr).toArray 29)).setRow w1.heap.size (msgF (tyH h.ty) bd0).toArray)
  generalize (w1.alloc (Obj.cells (msgL hd0 zr).toArray 29)).setRow w1.heap.size (msgF (tyH h.ty) bd0).toArray = W4 at *

  apply share2 (P := fun (g8 : Nat) (w' : World) => Below w1.heap.size w1 w' ∧ Box w' w.heap.size (msgF h d) 29 ∧ Box w' w1.heap.size (msgF (tyH h.ty) bd0) 29)
  case h1 =>
    intro tail
    refine wp_region_held_drew (S := fun w' => Box w' w1.heap.size (msgF (tyH h.ty) bd0) 29) (by kernel_rfl) (hZ.below (Below.drew (Below.refl _ _))) ?_
    intro hS
    replace hM := hM.below (Below.drew (Below.refl W4.heap.size W4))
    replace hbz := hbz.trans ((Below.drew (Below.refl W4.heap.size W4)).mono hbz.size)
    generalize W4.drew = W at *
    refine rtake 0 rfl (by rfl) (by kernel_rfl) (by kernel_rfl) (by kernel_rfl) (fun _ _ _ h => h) hS (fun wx hwx => exec_load_msg _ rfl w1.heap.size rfl (msgF (tyH h.ty) bd0) _ hwx (msgF_length _ _)) ?_
    try simp only [Act.put, List.setIfInBounds_toArray, List.set_cons_zero, List.set_cons_succ]
    refine rtake 1 rfl (by rfl) (by kernel_rfl) (by kernel_rfl) (by kernel_rfl) (fun _ _ _ h => h) hS (fun wx hwx => by go_simp; try with_reducible rfl) ?_
    try simp only [Act.put, List.setIfInBounds_toArray, List.set_cons_zero, List.set_cons_succ]
    refine rtake 2 rfl (by rfl) (by kernel_rfl) (by kernel_rfl) (by kernel_rfl) (fun _ _ _ h => h) hS (fun wx hwx => by go_simp; try with_reducible rfl) ?_
    try simp only [Act.put, List.setIfInBounds_toArray, List.set_cons_zero, List.set_cons_succ]
    refine rtake 3 rfl (by rfl) (by kernel_rfl) (by kernel_rfl) (by kernel_rfl) (fun _ _ _ h => h) hS (fun wx hwx => by go_simp; try with_reducible rfl) ?_
    try simp only [Act.put, List.setIfInBounds_toArray, List.set_cons_zero, List.set_cons_succ]
    refine rtake 4 rfl (by rfl) (by kernel_rfl) (by kernel_rfl) (by kernel_rfl) (fun _ _ _ h => h) hS (fun wx hwx => by go_simp; try with_reducible rfl) ?_
    try simp only [Act.put, List.setIfInBounds_toArray, List.set_cons_zero, List.set_cons_succ]
    refine rtake 5 rfl (by rfl) (by kernel_rfl) (by kernel_rfl) (by kernel_rfl) (fun _ _ _ h => h) hS (fun wx hwx => by go_simp; try with_reducible rfl) ?_
    try simp only [Act.put, List.setIfInBounds_toArray, List.set_cons_zero, List.set_cons_succ]
    refine rtwo 6 11 rfl rfl (by kernel_rfl) (by rfl) (by rfl) (fun K hK => ?_) (fun K hK => ?_)
    · skip
      go_simp
      refine (Hs1.out _ _ (HC.out _ hbz)).mono ?_
      rintro e wg ⟨rfl, hbg⟩
      replace hbz := hbz.trans (hbg.mono hbz.size)
      replace hM := hM.below hbg
      have hS2 := hS.below hbg
      refine hK.out _ _ hS2 ?_
      clear hK K hS hbg
      have hS := hS2
      clear hS2
      try simp only [Act.put, List.setIfInBounds_toArray, List.set_cons_zero, List.set_cons_succ]
      refine rtake 7 rfl (by rfl) (by kernel_rfl) (by kernel_rfl) (by kernel_rfl) (fun _ _ _ h => h) hS (fun wx hwx => by go_simp; try with_reducible rfl) ?_
      try simp only [Act.put, List.setIfInBounds_toArray, List.set_cons_zero, List.set_cons_succ]
      refine rtake 8 rfl (by rfl) (by kernel_rfl) (by kernel_rfl) (by kernel_rfl) (fun _ _ _ h => h) hS (fun wx hwx => by go_simp; try with_reducible rfl) ?_
      try simp only [Act.put, List.setIfInBounds_toArray, List.set_cons_zero, List.set_cons_succ]
      refine rtake 9 rfl (by rfl) (by kernel_rfl) (by kernel_rfl) (by kernel_rfl) (fun _ _ _ h => h) hS (fun wx hwx => by go_simp; try with_reducible rfl) ?_
      try simp only [Act.put, List.setIfInBounds_toArray, List.set_cons_zero, List.set_cons_succ]
      refine rtake 10 rfl (by rfl) (by kernel_rfl) (by kernel_rfl) (by kernel_rfl) (fun _ _ _ h => h) hS (fun wx hwx => by go_simp; try with_reducible rfl) ?_
      try simp only [Act.put, List.setIfInBounds_toArray, List.set_cons_zero, List.set_cons_succ]
      refine rcall 11 rfl (by kernel_rfl) (by rfl) (fun K hK => ?_)
      have hna := bnew wg (Obj.cells (msgL hd0 zr).toArray 29)
      have hA := Box.new wg (msgL hd0 zr) 29
      go_simp
      change K _ (wg.alloc (Obj.cells (msgL hd0 zr).toArray 29))
      have hS2 := hS.below hna
      have hgz : w1.heap.size ≠ wg.heap.size := by have := hS.lt; omega
      have hgm : w.heap.size ≠ wg.heap.size := by have := hM.lt; omega
      have hgs := hbz.size
      replace hbz := hbz.trans (hna.mono hbz.size)
      replace hM := hM.below hna
      refine hK.out _ _ hS2 ?_
      clear hK K hS hna
      have hS := hS2
      clear hS2
      generalize wg.alloc _ = WA at *
      generalize wg.heap.size = g8 at *
      try simp only [Act.put, List.setIfInBounds_toArray, List.set_cons_zero, List.set_cons_succ]
      refine rcall 12 rfl (by kernel_rfl) (by rfl) (fun K hK => ?_)
      refine op_store_msg (op := ⟨none, .store _ _ _, _, _, _, _⟩) _ _ rfl g8 (msgL hd0 zr) (msgL hd0 zr) _ rfl rfl hA (by first | exact msgF_length _ _ | exact msgL_length _ _ zr_length) (msgL_length _ _ zr_length) (by first | exact msgL_one _ _ (bdL_one _) | exact msgL_one _ _ zr_one) ?_
      have hS2 := hS.row_other hgz ((msgL hd0 zr)).toArray
      replace hM := hM.row_other hgm ((msgL hd0 zr)).toArray
      replace hA := hA.row ((msgL hd0 zr))
      replace hbz := below_setRow hbz hgs ((msgL hd0 zr)).toArray
      refine hK.out _ _ hS2 ?_
      clear hK K hS
      generalize World.setRow _ _ _ = WS at *
      try simp only [Act.put, List.setIfInBounds_toArray, List.set_cons_zero, List.set_cons_succ]
      refine rtake 13 rfl (by rfl) (by kernel_rfl) (by kernel_rfl) (by kernel_rfl) (fun _ _ _ h => h) hS2 (fun wx hwx => by go_simp; try with_reducible rfl) ?_
      try simp only [Act.put, List.setIfInBounds_toArray, List.set_cons_zero, List.set_cons_succ]
      refine rtake 14 rfl (by rfl) (by kernel_rfl) (by kernel_rfl) (by kernel_rfl) (fun _ _ _ h => h) hS2 (fun wx hwx => by go_simp; try with_reducible rfl) ?_
      try simp only [Act.put, List.setIfInBounds_toArray, List.set_cons_zero, List.set_cons_succ]
      refine wpAnyH_done (by kernel_rfl) ?_ _
      exact tail g8 WS ⟨hbz, hM, hS2⟩
    · skip
      have hna := bnew W (Obj.cells (msgL hd0 zr).toArray 29)
      have hA := Box.new W (msgL hd0 zr) 29
      go_simp
      change K _ (W.alloc (Obj.cells (msgL hd0 zr).toArray 29))
      have hS2 := hS.below hna
      have hgz : w1.heap.size ≠ W.heap.size := by have := hS.lt; omega
      have hgm : w.heap.size ≠ W.heap.size := by have := hM.lt; omega
      have hgs := hbz.size
      replace hbz := hbz.trans (hna.mono hbz.size)
      replace hM := hM.below hna
      refine hK.out _ _ hS2 ?_
      clear hK K hS hna
      have hS := hS2
      clear hS2
      generalize W.alloc _ = WA at *
      generalize W.heap.size = g8 at *
      try simp only [Act.put, List.setIfInBounds_toArray, List.set_cons_zero, List.set_cons_succ]
      refine rcall 6 rfl (by kernel_rfl) (by rfl) (fun K hK => ?_)
      go_simp
      refine (Hs1.out _ _ (HC.out _ hbz)).mono ?_
      rintro e wg ⟨rfl, hbg⟩
      replace hbz := hbz.trans (hbg.mono hbz.size)
      replace hM := hM.below hbg
      have hS2 := hS.below hbg
      replace hA := hA.below hbg
      refine hK.out _ _ hS2 ?_
      clear hK K hS hbg
      have hS := hS2
      clear hS2
      try simp only [Act.put, List.setIfInBounds_toArray, List.set_cons_zero, List.set_cons_succ]
      refine rtake 7 rfl (by rfl) (by kernel_rfl) (by kernel_rfl) (by kernel_rfl) (fun _ _ _ h => h) hS (fun wx hwx => by go_simp; try with_reducible rfl) ?_
      try simp only [Act.put, List.setIfInBounds_toArray, List.set_cons_zero, List.set_cons_succ]
      refine rtake 8 rfl (by rfl) (by kernel_rfl) (by kernel_rfl) (by kernel_rfl) (fun _ _ _ h => h) hS (fun wx hwx => by go_simp; try with_reducible rfl) ?_
      try simp only [Act.put, List.setIfInBounds_toArray, List.set_cons_zero, List.set_cons_succ]
      refine rtake 9 rfl (by rfl) (by kernel_rfl) (by kernel_rfl) (by kernel_rfl) (fun _ _ _ h => h) hS (fun wx hwx => by go_simp; try with_reducible rfl) ?_
      try simp only [Act.put, List.setIfInBounds_toArray, List.set_cons_zero, List.set_cons_succ]
      refine rtake 10 rfl (by rfl) (by kernel_rfl) (by kernel_rfl) (by kernel_rfl) (fun _ _ _ h => h) hS (fun wx hwx => by go_simp; try with_reducible rfl) ?_
      try simp only [Act.put, List.setIfInBounds_toArray, List.set_cons_zero, List.set_cons_succ]
      refine rcall 12 rfl (by kernel_rfl) (by rfl) (fun K hK => ?_)
      refine op_store_msg (op := ⟨none, .store _ _ _, _, _, _, _⟩) _ _ rfl g8 (msgL hd0 zr) (msgL hd0 zr) _ rfl rfl hA (by first | exact msgF_length _ _ | exact msgL_length _ _ zr_length) (msgL_length _ _ zr_length) (by first | exact msgL_one _ _ (bdL_one _) | exact msgL_one _ _ zr_one) ?_
      have hS2 := hS.row_other hgz ((msgL hd0 zr)).toArray
      replace hM := hM.row_other hgm ((msgL hd0 zr)).toArray
      replace hA := hA.row ((msgL hd0 zr))
      replace hbz := below_setRow hbz hgs ((msgL hd0 zr)).toArray
      refine hK.out _ _ hS2 ?_
      clear hK K hS
      generalize World.setRow _ _ _ = WS at *
      try simp only [Act.put, List.setIfInBounds_toArray, List.set_cons_zero, List.set_cons_succ]
      refine rtake 13 rfl (by rfl) (by kernel_rfl) (by kernel_rfl) (by kernel_rfl) (fun _ _ _ h => h) hS2 (fun wx hwx => by go_simp; try with_reducible rfl) ?_
      try simp only [Act.put, List.setIfInBounds_toArray, List.set_cons_zero, List.set_cons_succ]
      refine rtake 14 rfl (by rfl) (by kernel_rfl) (by kernel_rfl) (by kernel_rfl) (fun _ _ _ h => h) hS2 (fun wx hwx => by go_simp; try with_reducible rfl) ?_
      try simp only [Act.put, List.setIfInBounds_toArray, List.set_cons_zero, List.set_cons_succ]
      refine wpAnyH_done (by kernel_rfl) ?_ _
      exact tail g8 WS ⟨hbz, hM, hS2⟩
  clear hZ hM hbz
  rintro g8 W5 ⟨hbz, hM, hZ⟩
  go_upto_region 6 with fail
  apply share4 (γ := Value) (δ := Value) (P := fun (g11 : Nat) (w' : World) => Below w1.heap.size w1 w' ∧ Box w' w.heap.size (msgF h d) 29 ∧ Box w' w1.heap.size (msgF (tyH h.ty) bd0) 29 ∧ Box w' g11 (msgF (tyH h.ty) d) 29)
  case h1 =>
    intro tail
    refine wp_region_held_drew (S := fun w' => Box w' w1.heap.size (msgF (tyH h.ty) bd0) 29) (by kernel_rfl) (hZ.below (Below.drew (Below.refl _ _))) ?_
    intro hS
    replace hM := hM.below (Below.drew (Below.refl W5.heap.size W5))
    replace hbz := hbz.trans ((Below.drew (Below.refl W5.heap.size W5)).mono hbz.size)
    generalize W5.drew = W at *
    refine rtake 0 rfl (by rfl) (by kernel_rfl) (by kernel_rfl) (by kernel_rfl) (fun _ _ _ h => h) hS (fun wx hwx => exec_load_msg _ rfl w1.heap.size rfl (msgF (tyH h.ty) bd0) _ hwx (msgF_length _ _)) ?_
    try simp only [Act.put, List.setIfInBounds_toArray, List.set_cons_zero, List.set_cons_succ]
    refine rtake 1 rfl (by rfl) (by kernel_rfl) (by kernel_rfl) (by kernel_rfl) (fun _ _ _ h => h) hS (fun wx hwx => by go_simp; try with_reducible rfl) ?_
    try simp only [Act.put, List.setIfInBounds_toArray, List.set_cons_zero, List.set_cons_succ]
    refine rtake 3 rfl (by rfl) (by kernel_rfl) (by kernel_rfl) (by kernel_rfl) (fun _ _ _ h => h) hS (fun wx hwx => by go_simp; try with_reducible rfl) ?_
    try simp only [Act.put, List.setIfInBounds_toArray, List.set_cons_zero, List.set_cons_succ]
    refine rtwo 2 10 rfl rfl (by kernel_rfl) (by rfl) (by rfl) (fun K hK => ?_) (fun K hK => ?_)
    · skip
      go_simp
      have hzb := hbz.size
      have hzl := hS.lt
      have hml := hM.lt
      refine (bytes00_any _ L _ (HX.out _ hbz) (by have := HLl2.out; omega)).mono ?_
      rintro e wb ⟨xb, rfl, own, hbb⟩
      obtain ⟨gx, capx, rfl, -, hgx, -, hgl⟩ := own.form (by have := HN.out; omega)
      replace hbz := hbz.trans (hbb.mono hbz.size)
      replace hM := hM.below hbb
      have hS2 := hS.below hbb
      refine hK.out _ _ hS2 ?_
      clear hK K hS
      have hS := hS2
      clear hS2
      have nM : some w.heap.size ≠ some gx := fun e => by cases e; omega
      have nZ : some w1.heap.size ≠ some gx := fun e => by cases e; omega
      clear hgx hzl hml
      try simp only [Act.put, List.setIfInBounds_toArray, List.set_cons_zero, List.set_cons_succ]
      refine rtwo 4 10 rfl rfl (by kernel_rfl) (by rfl) (by rfl) (fun K hK => ?_) (fun K hK => ?_)
      · skip
        refine op_append_keep (o := ⟨some 49, _, _, _, _, _⟩) _ _ rfl rfl W.heap.size _ _ L l rfl rfl own (HB.out _ (hb.trans (hbz.mono hb.size))) (by have := HLl2.out; exact this) (Nat.le_trans (by first | exact hbb.size | exact Nat.le_refl _) (by first | exact Nat.le_refl _ | exact hnas)) ?_
        intro xa wa own2 hga hbela
        replace hbz := hbz.trans (hbela.mono hzb)
        replace hM := hM.grown hga nM
        have hS2 := hS.grown hga nZ
        refine hK.out _ _ hS2 ?_
        clear hK K hS own
        have own := own2
        clear own2
        have hS := hS2
        clear hS2
        try simp only [Act.put, List.setIfInBounds_toArray, List.set_cons_zero, List.set_cons_succ]
        refine rtwo 5 10 rfl rfl (by kernel_rfl) (by rfl) (by rfl) (fun K hK => ?_) (fun K hK => ?_)
        · skip
          go_simp
          refine (Hback.out _ _ own.bytes).mono ?_
          rintro e wg ⟨rfl, hbg⟩
          replace hbz := hbz.trans (hbg.mono hbz.size)
          replace hM := hM.below hbg
          have hS2 := hS.below hbg
          refine hK.out _ _ hS2 ?_
          clear hK K hS hbg
          have hS := hS2
          clear hS2
          try simp only [Act.put, List.setIfInBounds_toArray, List.set_cons_zero, List.set_cons_succ]
          refine rtake 6 rfl (by rfl) (by kernel_rfl) (by kernel_rfl) (by kernel_rfl) (fun _ _ _ h => h) hS (fun wx hwx => by go_simp; try with_reducible rfl) ?_
          try simp only [Act.put, List.setIfInBounds_toArray, List.set_cons_zero, List.set_cons_succ]
          refine rtake 7 rfl (by rfl) (by kernel_rfl) (by kernel_rfl) (by kernel_rfl) (fun _ _ _ h => h) hS (fun wx hwx => by go_simp; try with_reducible rfl) ?_
          try simp only [Act.put, List.setIfInBounds_toArray, List.set_cons_zero, List.set_cons_succ]
          refine rtake 8 rfl (by rfl) (by kernel_rfl) (by kernel_rfl) (by kernel_rfl) (fun _ _ _ h => h) hS (fun wx hwx => by go_simp; try with_reducible rfl) ?_
          try simp only [Act.put, List.setIfInBounds_toArray, List.set_cons_zero, List.set_cons_succ]
          refine rtake 9 rfl (by rfl) (by kernel_rfl) (by kernel_rfl) (by kernel_rfl) (fun _ _ _ h => h) hS (fun wx hwx => by go_simp; try with_reducible rfl) ?_
          try simp only [Act.put, List.setIfInBounds_toArray, List.set_cons_zero, List.set_cons_succ]
          refine rcall 10 rfl (by kernel_rfl) (by rfl) (fun K hK => ?_)
          have hna := bnew wg (Obj.cells (msgL hd0 zr).toArray 29)
          have hnas := hna.size
          have hA := Box.new wg (msgL hd0 zr) 29
          go_simp
          change K _ (wg.alloc (Obj.cells (msgL hd0 zr).toArray 29))
          have hS2 := hS.below hna
          have hgz : w1.heap.size ≠ wg.heap.size := by have := hS.lt; omega
          have hgm : w.heap.size ≠ wg.heap.size := by have := hM.lt; omega
          have hgs := hbz.size
          replace hbz := hbz.trans (hna.mono hbz.size)
          replace hM := hM.below hna
          refine hK.out _ _ hS2 ?_
          clear hK K hS hna
          have hS := hS2
          clear hS2
          try simp only [Act.put, List.setIfInBounds_toArray, List.set_cons_zero, List.set_cons_succ]
          refine rcall 11 rfl (by kernel_rfl) (by rfl) (fun K hK => ?_)
          refine op_store_msg (op := ⟨none, .store _ _ _, _, _, _, _⟩) _ _ rfl (wg.heap.size) (msgF (tyH h.ty) d) (msgL hd0 zr) _ rfl rfl hA (msgF_length _ _) (msgL_length _ _ zr_length) (msgL_one _ _ (bdL_one _)) ?_
          have hS2 := hS.row_other hgz (msgF (tyH h.ty) d).toArray
          replace hM := hM.row_other hgm (msgF (tyH h.ty) d).toArray
          replace hA := hA.row (msgF (tyH h.ty) d)
          replace hbz := below_setRow hbz hgs (msgF (tyH h.ty) d).toArray
          refine hK.out _ _ hS2 ?_
          clear hK K hS
          generalize World.setRow _ _ _ = WS at *
          generalize wg.heap.size = g11 at *
          try simp only [Act.put, List.setIfInBounds_toArray, List.set_cons_zero, List.set_cons_succ]
          refine rtake 12 rfl (by rfl) (by kernel_rfl) (by kernel_rfl) (by kernel_rfl) (fun _ _ _ h => h) hS2 (fun wx hwx => by go_simp; try with_reducible rfl) ?_
          try simp only [Act.put, List.setIfInBounds_toArray, List.set_cons_zero, List.set_cons_succ]
          refine rtake 13 rfl (by rfl) (by kernel_rfl) (by kernel_rfl) (by kernel_rfl) (fun _ _ _ h => h) hS2 (fun wx hwx => by go_simp; try with_reducible rfl) ?_
          try simp only [Act.put, List.setIfInBounds_toArray, List.set_cons_zero, List.set_cons_succ]
          refine wpAnyH_done (by kernel_rfl) ?_ _
          generalize Value.slice (some ⟨gx, 0, none⟩) L.length capx = v47
          exact tail g11 WS v47 xa ⟨hbz, hM, hS2, hA⟩
        · skip
          have hna := bnew wa (Obj.cells (msgL hd0 zr).toArray 29)
          have hnas := hna.size
          have hA := Box.new wa (msgL hd0 zr) 29
          go_simp
          change K _ (wa.alloc (Obj.cells (msgL hd0 zr).toArray 29))
          have hS2 := hS.below hna
          have hgz : w1.heap.size ≠ wa.heap.size := by have := hS.lt; omega
          have hgm : w.heap.size ≠ wa.heap.size := by have := hM.lt; omega
          have hgs := hbz.size
          have own2 := own.below hna
          clear own
          have own := own2
          clear own2
          replace hbz := hbz.trans (hna.mono hbz.size)
          replace hM := hM.below hna
          refine hK.out _ _ hS2 ?_
          clear hK K hS hna
          have hS := hS2
          clear hS2
          try simp only [Act.put, List.setIfInBounds_toArray, List.set_cons_zero, List.set_cons_succ]
          refine rcall 5 rfl (by kernel_rfl) (by rfl) (fun K hK => ?_)
          go_simp
          refine (Hback.out _ _ own.bytes).mono ?_
          rintro e wg ⟨rfl, hbg⟩
          replace hbz := hbz.trans (hbg.mono hbz.size)
          replace hM := hM.below hbg
          have hS2 := hS.below hbg
          replace hA := hA.below hbg
          refine hK.out _ _ hS2 ?_
          clear hK K hS hbg
          have hS := hS2
          clear hS2
          try simp only [Act.put, List.setIfInBounds_toArray, List.set_cons_zero, List.set_cons_succ]
          refine rtake 6 rfl (by rfl) (by kernel_rfl) (by kernel_rfl) (by kernel_rfl) (fun _ _ _ h => h) hS (fun wx hwx => by go_simp; try with_reducible rfl) ?_
          try simp only [Act.put, List.setIfInBounds_toArray, List.set_cons_zero, List.set_cons_succ]
          refine rtake 7 rfl (by rfl) (by kernel_rfl) (by kernel_rfl) (by kernel_rfl) (fun _ _ _ h => h) hS (fun wx hwx => by go_simp; try with_reducible rfl) ?_
          try simp only [Act.put, List.setIfInBounds_toArray, List.set_cons_zero, List.set_cons_succ]
          refine rtake 8 rfl (by rfl) (by kernel_rfl) (by kernel_rfl) (by kernel_rfl) (fun _ _ _ h => h) hS (fun wx hwx => by go_simp; try with_reducible rfl) ?_
          try simp only [Act.put, List.setIfInBounds_toArray, List.set_cons_zero, List.set_cons_succ]
          refine rtake 9 rfl (by rfl) (by kernel_rfl) (by kernel_rfl) (by kernel_rfl) (fun _ _ _ h => h) hS (fun wx hwx => by go_simp; try with_reducible rfl) ?_
          try simp only [Act.put, List.setIfInBounds_toArray, List.set_cons_zero, List.set_cons_succ]
          refine rcall 11 rfl (by kernel_rfl) (by rfl) (fun K hK => ?_)
          refine op_store_msg (op := ⟨none, .store _ _ _, _, _, _, _⟩) _ _ rfl (wa.heap.size) (msgF (tyH h.ty) d) (msgL hd0 zr) _ rfl rfl hA (msgF_length _ _) (msgL_length _ _ zr_length) (msgL_one _ _ (bdL_one _)) ?_
          have hS2 := hS.row_other hgz (msgF (tyH h.ty) d).toArray
          replace hM := hM.row_other hgm (msgF (tyH h.ty) d).toArray
          replace hA := hA.row (msgF (tyH h.ty) d)
          replace hbz := below_setRow hbz hgs (msgF (tyH h.ty) d).toArray
          refine hK.out _ _ hS2 ?_
          clear hK K hS
          generalize World.setRow _ _ _ = WS at *
          generalize wa.heap.size = g11 at *
          try simp only [Act.put, List.setIfInBounds_toArray, List.set_cons_zero, List.set_cons_succ]
          refine rtake 12 rfl (by rfl) (by kernel_rfl) (by kernel_rfl) (by kernel_rfl) (fun _ _ _ h => h) hS2 (fun wx hwx => by go_simp; try with_reducible rfl) ?_
          try simp only [Act.put, List.setIfInBounds_toArray, List.set_cons_zero, List.set_cons_succ]
          refine rtake 13 rfl (by rfl) (by kernel_rfl) (by kernel_rfl) (by kernel_rfl) (fun _ _ _ h => h) hS2 (fun wx hwx => by go_simp; try with_reducible rfl) ?_
          try simp only [Act.put, List.setIfInBounds_toArray, List.set_cons_zero, List.set_cons_succ]
          refine wpAnyH_done (by kernel_rfl) ?_ _
          generalize Value.slice (some ⟨gx, 0, none⟩) L.length capx = v47
          exact tail g11 WS v47 xa ⟨hbz, hM, hS2, hA⟩
      · skip
        have hna := bnew wb (Obj.cells (msgL hd0 zr).toArray 29)
        have hnas := hna.size
        have hA := Box.new wb (msgL hd0 zr) 29
        go_simp
        change K _ (wb.alloc (Obj.cells (msgL hd0 zr).toArray 29))
        have hS2 := hS.below hna
        have hgz : w1.heap.size ≠ wb.heap.size := by have := hS.lt; omega
        have hgm : w.heap.size ≠ wb.heap.size := by have := hM.lt; omega
        have hgs := hbz.size
        have own2 := own.below hna
        clear own
        have own := own2
        clear own2
        have nA : some wb.heap.size ≠ some gx := fun e => by cases e; omega
        replace hbz := hbz.trans (hna.mono hbz.size)
        replace hM := hM.below hna
        refine hK.out _ _ hS2 ?_
        clear hK K hS hna
        have hS := hS2
        clear hS2
        try simp only [Act.put, List.setIfInBounds_toArray, List.set_cons_zero, List.set_cons_succ]
        refine rcall 4 rfl (by kernel_rfl) (by rfl) (fun K hK => ?_)
        refine op_append_keep (o := ⟨some 49, _, _, _, _, _⟩) _ _ rfl rfl W.heap.size _ _ L l rfl rfl own (HB.out _ (hb.trans (hbz.mono hb.size))) (by have := HLl2.out; exact this) (Nat.le_trans (by first | exact hbb.size | exact Nat.le_refl _) (by first | exact Nat.le_refl _ | exact hnas)) ?_
        intro xa wa own2 hga hbela
        replace hbz := hbz.trans (hbela.mono hzb)
        replace hM := hM.grown hga nM
        have hS2 := hS.grown hga nZ
        replace hA := hA.grown hga nA
        refine hK.out _ _ hS2 ?_
        clear hK K hS own
        have own := own2
        clear own2
        have hS := hS2
        clear hS2
        try simp only [Act.put, List.setIfInBounds_toArray, List.set_cons_zero, List.set_cons_succ]
        refine rcall 5 rfl (by kernel_rfl) (by rfl) (fun K hK => ?_)
        go_simp
        refine (Hback.out _ _ own.bytes).mono ?_
        rintro e wg ⟨rfl, hbg⟩
        replace hbz := hbz.trans (hbg.mono hbz.size)
        replace hM := hM.below hbg
        have hS2 := hS.below hbg
        replace hA := hA.below hbg
        refine hK.out _ _ hS2 ?_
        clear hK K hS hbg
        have hS := hS2
        clear hS2
        try simp only [Act.put, List.setIfInBounds_toArray, List.set_cons_zero, List.set_cons_succ]
        refine rtake 6 rfl (by rfl) (by kernel_rfl) (by kernel_rfl) (by kernel_rfl) (fun _ _ _ h => h) hS (fun wx hwx => by go_simp; try with_reducible rfl) ?_
        try simp only [Act.put, List.setIfInBounds_toArray, List.set_cons_zero, List.set_cons_succ]
        refine rtake 7 rfl (by rfl) (by kernel_rfl) (by kernel_rfl) (by kernel_rfl) (fun _ _ _ h => h) hS (fun wx hwx => by go_simp; try with_reducible rfl) ?_
        try simp only [Act.put, List.setIfInBounds_toArray, List.set_cons_zero, List.set_cons_succ]
        refine rtake 8 rfl (by rfl) (by kernel_rfl) (by kernel_rfl) (by kernel_rfl) (fun _ _ _ h => h) hS (fun wx hwx => by go_simp; try with_reducible rfl) ?_
        try simp only [Act.put, List.setIfInBounds_toArray, List.set_cons_zero, List.set_cons_succ]
        refine rtake 9 rfl (by rfl) (by kernel_rfl) (by kernel_rfl) (by kernel_rfl) (fun _ _ _ h => h) hS (fun wx hwx => by go_simp; try with_reducible rfl) ?_
        try simp only [Act.put, List.setIfInBounds_toArray, List.set_cons_zero, List.set_cons_succ]
        refine rcall 11 rfl (by kernel_rfl) (by rfl) (fun K hK => ?_)
        refine op_store_msg (op := ⟨none, .store _ _ _, _, _, _, _⟩) _ _ rfl (wb.heap.size) (msgF (tyH h.ty) d) (msgL hd0 zr) _ rfl rfl hA (msgF_length _ _) (msgL_length _ _ zr_length) (msgL_one _ _ (bdL_one _)) ?_
        have hS2 := hS.row_other hgz (msgF (tyH h.ty) d).toArray
        replace hM := hM.row_other hgm (msgF (tyH h.ty) d).toArray
        replace hA := hA.row (msgF (tyH h.ty) d)
        replace hbz := below_setRow hbz hgs (msgF (tyH h.ty) d).toArray
        refine hK.out _ _ hS2 ?_
        clear hK K hS
        generalize World.setRow _ _ _ = WS at *
        generalize wb.heap.size = g11 at *
        try simp only [Act.put, List.setIfInBounds_toArray, List.set_cons_zero, List.set_cons_succ]
        refine rtake 12 rfl (by rfl) (by kernel_rfl) (by kernel_rfl) (by kernel_rfl) (fun _ _ _ h => h) hS2 (fun wx hwx => by go_simp; try with_reducible rfl) ?_
        try simp only [Act.put, List.setIfInBounds_toArray, List.set_cons_zero, List.set_cons_succ]
        refine rtake 13 rfl (by rfl) (by kernel_rfl) (by kernel_rfl) (by kernel_rfl) (fun _ _ _ h => h) hS2 (fun wx hwx => by go_simp; try with_reducible rfl) ?_
        try simp only [Act.put, List.setIfInBounds_toArray, List.set_cons_zero, List.set_cons_succ]
        refine wpAnyH_done (by kernel_rfl) ?_ _
        generalize Value.slice (some ⟨gx, 0, none⟩) L.length capx = v47
        exact tail g11 WS v47 xa ⟨hbz, hM, hS2, hA⟩
    · skip
      have hna := bnew W (Obj.cells (msgL hd0 zr).toArray 29)
      have hnas := hna.size
      have hA := Box.new W (msgL hd0 zr) 29
      go_simp
      change K _ (W.alloc (Obj.cells (msgL hd0 zr).toArray 29))
      have hS2 := hS.below hna
      have hgz : w1.heap.size ≠ W.heap.size := by have := hS.lt; omega
      have hgm : w.heap.size ≠ W.heap.size := by have := hM.lt; omega
      have hgs := hbz.size
      replace hbz := hbz.trans (hna.mono hbz.size)
      replace hM := hM.below hna
      refine hK.out _ _ hS2 ?_
      clear hK K hS hna
      have hS := hS2
      clear hS2
      try simp only [Act.put, List.setIfInBounds_toArray, List.set_cons_zero, List.set_cons_succ]
      refine rcall 2 rfl (by kernel_rfl) (by rfl) (fun K hK => ?_)
      go_simp
      have hzb := hbz.size
      have hzl := hS.lt
      have hml := hM.lt
      have hal := hA.lt
      refine (bytes00_any _ L _ (HX.out _ hbz) (by have := HLl2.out; omega)).mono ?_
      rintro e wb ⟨xb, rfl, own, hbb⟩
      obtain ⟨gx, capx, rfl, -, hgx, -, hgl⟩ := own.form (by have := HN.out; omega)
      replace hbz := hbz.trans (hbb.mono hbz.size)
      replace hM := hM.below hbb
      have hS2 := hS.below hbb
      replace hA := hA.below hbb
      refine hK.out _ _ hS2 ?_
      clear hK K hS
      have hS := hS2
      clear hS2
      have nM : some w.heap.size ≠ some gx := fun e => by cases e; omega
      have nZ : some w1.heap.size ≠ some gx := fun e => by cases e; omega
      have nA : some W.heap.size ≠ some gx := fun e => by cases e; omega
      clear hal
      clear hgx hzl hml
      try simp only [Act.put, List.setIfInBounds_toArray, List.set_cons_zero, List.set_cons_succ]
      refine rcall 4 rfl (by kernel_rfl) (by rfl) (fun K hK => ?_)
      refine op_append_keep (o := ⟨some 49, _, _, _, _, _⟩) _ _ rfl rfl (W.alloc (Obj.cells (msgL hd0 zr).toArray 29)).heap.size _ _ L l rfl rfl own (HB.out _ (hb.trans (hbz.mono hb.size))) (by have := HLl2.out; exact this) (Nat.le_trans (by first | exact hbb.size | exact Nat.le_refl _) (by first | exact Nat.le_refl _ | exact hnas)) ?_
      intro xa wa own2 hga hbela
      replace hbz := hbz.trans (hbela.mono hzb)
      replace hM := hM.grown hga nM
      have hS2 := hS.grown hga nZ
      replace hA := hA.grown hga nA
      refine hK.out _ _ hS2 ?_
      clear hK K hS own
      have own := own2
      clear own2
      have hS := hS2
      clear hS2
      try simp only [Act.put, List.setIfInBounds_toArray, List.set_cons_zero, List.set_cons_succ]
      refine rcall 5 rfl (by kernel_rfl) (by rfl) (fun K hK => ?_)
      go_simp
      refine (Hback.out _ _ own.bytes).mono ?_
      rintro e wg ⟨rfl, hbg⟩
      replace hbz := hbz.trans (hbg.mono hbz.size)
      replace hM := hM.below hbg
      have hS2 := hS.below hbg
      replace hA := hA.below hbg
      refine hK.out _ _ hS2 ?_
      clear hK K hS hbg
      have hS := hS2
      clear hS2
      try simp only [Act.put, List.setIfInBounds_toArray, List.set_cons_zero, List.set_cons_succ]
      refine rtake 6 rfl (by rfl) (by kernel_rfl) (by kernel_rfl) (by kernel_rfl) (fun _ _ _ h => h) hS (fun wx hwx => by go_simp; try with_reducible rfl) ?_
      try simp only [Act.put, List.setIfInBounds_toArray, List.set_cons_zero, List.set_cons_succ]
      refine rtake 7 rfl (by rfl) (by kernel_rfl) (by kernel_rfl) (by kernel_rfl) (fun _ _ _ h => h) hS (fun wx hwx => by go_simp; try with_reducible rfl) ?_
      try simp only [Act.put, List.setIfInBounds_toArray, List.set_cons_zero, List.set_cons_succ]
      refine rtake 8 rfl (by rfl) (by kernel_rfl) (by kernel_rfl) (by kernel_rfl) (fun _ _ _ h => h) hS (fun wx hwx => by go_simp; try with_reducible rfl) ?_
      try simp only [Act.put, List.setIfInBounds_toArray, List.set_cons_zero, List.set_cons_succ]
      refine rtake 9 rfl (by rfl) (by kernel_rfl) (by kernel_rfl) (by kernel_rfl) (fun _ _ _ h => h) hS (fun wx hwx => by go_simp; try with_reducible rfl) ?_
      try simp only [Act.put, List.setIfInBounds_toArray, List.set_cons_zero, List.set_cons_succ]
      refine rcall 11 rfl (by kernel_rfl) (by rfl) (fun K hK => ?_)
      refine op_store_msg (op := ⟨none, .store _ _ _, _, _, _, _⟩) _ _ rfl (W.heap.size) (msgF (tyH h.ty) d) (msgL hd0 zr) _ rfl rfl hA (msgF_length _ _) (msgL_length _ _ zr_length) (msgL_one _ _ (bdL_one _)) ?_
      have hS2 := hS.row_other hgz (msgF (tyH h.ty) d).toArray
      replace hM := hM.row_other hgm (msgF (tyH h.ty) d).toArray
      replace hA := hA.row (msgF (tyH h.ty) d)
      replace hbz := below_setRow hbz hgs (msgF (tyH h.ty) d).toArray
      refine hK.out _ _ hS2 ?_
      clear hK K hS
      generalize World.setRow _ _ _ = WS at *
      generalize W.heap.size = g11 at *
      try simp only [Act.put, List.setIfInBounds_toArray, List.set_cons_zero, List.set_cons_succ]
      refine rtake 12 rfl (by rfl) (by kernel_rfl) (by kernel_rfl) (by kernel_rfl) (fun _ _ _ h => h) hS2 (fun wx hwx => by go_simp; try with_reducible rfl) ?_
      try simp only [Act.put, List.setIfInBounds_toArray, List.set_cons_zero, List.set_cons_succ]
      refine rtake 13 rfl (by rfl) (by kernel_rfl) (by kernel_rfl) (by kernel_rfl) (fun _ _ _ h => h) hS2 (fun wx hwx => by go_simp; try with_reducible rfl) ?_
      try simp only [Act.put, List.setIfInBounds_toArray, List.set_cons_zero, List.set_cons_succ]
      refine wpAnyH_done (by kernel_rfl) ?_ _
      generalize Value.slice (some ⟨gx, 0, none⟩) L.length capx = v47
      exact tail g11 WS v47 xa ⟨hbz, hM, hS2, hA⟩
  clear hZ hM hbz
  rintro g11 W6 v47 v49 ⟨hbz, hM, hZ, hA⟩
  rw [HLI.out]
  go_wp2_with (guard_target =~ wpList _ _ _ (⟨some 55, _, _, _, _, _⟩ :: _) _ _; refine wpList_load_msg (op := ⟨some 55, .load _ _, _, _, _, _⟩) (by rfl) _ (by rfl) w1.heap.size (by rfl) (msgF (tyH h.ty) bd0) _ hZ (msgF_length _ _) ?_)
  refine (Hs2.out _ _ (HX.out _ hbz)).mono ?_
  rintro e w7 ⟨rfl, hb7⟩
  replace hbz := hbz.trans (hb7.mono hbz.size)
  replace hM := hM.below hb7
  replace hA := hA.below hb7
  clear hb7 hZ
  go_upto_region 8 with (guard_target =~ wpList _ _ _ (⟨none, _, _, _, _, _⟩ :: _) _ _; refine wpList_store_msg (op := ⟨none, .store _ _ _, _, _, _, _⟩) (by rfl) _ _ (by rfl) w7.heap.size (msgL hd0 zr) (msgL hd0 zr) _ (by rfl) (by rfl) (Box.new w7 _ _) (msgL_length _ _ zr_length) (msgL_length _ _ zr_length) (msgL_one _ _ zr_one) ?_)
  have hn7 := bnew w7 (Obj.cells (msgL hd0 zr).toArray 29)
  have hne7 : w.heap.size ≠ w7.heap.size := by have := hM.lt; omega
  have hna7 : g11 ≠ w7.heap.size := by have := hA.lt; omega
  replace hM := (hM.below hn7).row_other hne7 (msgL hd0 zr).toArray
  replace hA := (hA.below hn7).row_other hna7 (msgL hd0 zr).toArray
  have hgs := hbz.size
  replace hbz := below_setRow (hbz.trans (hn7.mono hbz.size)) hgs (msgL hd0 zr).toArray
  clear hn7
  change Code.wp _ _ _ _ ((w7.alloc (Obj.cells (msgL hd0 zr).toArray 29)).setRow w7.heap.size (msgL hd0 zr).toArray)
  generalize (w7.alloc (Obj.cells (msgL hd0 zr).toArray 29)).setRow w7.heap.size (msgL hd0 zr).toArray = W8 at *
  generalize w7.heap.size = G7 at *
  have m8 := hM.cell 8 _ rfl
  have m9 := hM.cell 9 _ rfl
  have m10 := hM.cell 10 _ rfl
  have m17 := hM.cell 17 _ rfl
  have a8 := hA.cell 8 _ rfl
  have a9 := hA.cell 9 _ rfl
  have a10 := hA.cell 10 _ rfl
  have a17 := hA.cell 17 _ rfl
  go_wp2_with fail
  refine (awake07_any _).mono ?_
  rintro e w8 ⟨rfl, hb8⟩
  go_wp2_with fail
  go_ret
  exact ⟨rfl, bnext (hb.trans (hbz.mono hb.size)) hb8⟩
end Go.Proofs.Ytpelgbcccgdlbaa