/- body.Put. -/
import Derived.Test.YtohgpnlihfcecaaBodyPut
import Derived.Test.YtohgpnlihfcecaaBodyCheck
import Derived.Test.YtohgpnlihfcecaaSlices
namespace Go.Proofs.Ytohgpnlihfcecaa
open Go.RowKit Go.Proofs
set_option maxRecDepth 50000
set_option linter.unusedVariables false
set_option linter.unusedSimpArgs false

theorem checkM_head {h : Hd} {d : Bd} (hc : checkM h d = true) : checkB h = true ∧ knownB h.ty = true := by
  unfold checkM at hc
  rw [Bool.and_eq_true] at hc
  exact ⟨hc.1, (check_of hc.1).1⟩

set_option maxRecDepth 100000 in
set_option maxHeartbeats 1600000 in
theorem bodyPut_no (v : Value) (l : List UInt8) (h : Hd) (d : Bd) (w : World) (hB : Bytes w v l) (hl : l.length ≤ 140737488355328) (hc : checkM h d = false) :
    Calls Try.prog 20 #[v, .agg (msgF h d).toArray] w fun e w' => ∃ v', e = .returned (.tuple #[v', .bool false]) ∧ Own w' w.heap.size v' l ∧ Below w.heap.size w w' := by
  have HB := hid fun (w' : World) (h : Below w.heap.size w w') => hB.below h
  clear hB
  go_enter Try.func20, Try.ntmps20
  go_upto_region 1 with fail
  obtain ⟨W, hWe, hb, hM⟩ := box_msg w (msgF h d)
  rw [← hWe]
  clear hWe
  go_wp2_with (guard_target =~ wpList _ _ _ (⟨some 6, _, _, _, _, _⟩ :: _) _ _; refine wpList_load_msg (op := ⟨some 6, .load _ _, _, _, _, _⟩) (by rfl) _ (by rfl) w.heap.size (by rfl) (msgF h d) _ hM (msgF_length _ _) ?_)
  refine (checkM_any h d _).mono ?_
  rintro e w1 ⟨rfl, hb1⟩
  rw [hc]
  replace hb := bnext hb hb1
  clear hb1 hM
  go_wp2_with fail
  refine (clone_any v l _ (HB.out _ hb) hl).mono ?_
  rintro e w2 ⟨x, rfl, own, hb2⟩
  go_wp2_with fail
  go_ret2
  exact ⟨x, rfl, own.mono hb.size, bnext hb hb2⟩

set_option maxRecDepth 100000 in
set_option maxHeartbeats 1600000 in
theorem bodyPut_yes (v : Value) (l : List UInt8) (h : Hd) (d : Bd) (w : World) (hB : Bytes w v l) (hl : l.length ≤ 140737488355000) (hgr : 0 ≤ d.gr) (htc : 0 ≤ d.tc) (hc : checkM h d = true) :
    Calls Try.prog 20 #[v, .agg (msgF h d).toArray] w fun e w' => ∃ v', e = .returned (.tuple #[v', .bool true]) ∧ Own w' w.heap.size v' (l ++ bodyS h.ty d) ∧ Below w.heap.size w w' := by
  have HB := hid fun (w' : World) (h : Below w.heap.size w w') => hB.below h
  obtain ⟨p, cap, rfl, -, -, -⟩ := id hB
  have hlen := bodyS_length h.ty d
  have hlen2 := lenI_in h.ty
  clear hB
  go_enter Try.func20, Try.ntmps20
  go_upto_region 1 with fail
  obtain ⟨W, hWe, hb, hM⟩ := box_msg w (msgF h d)
  rw [← hWe]
  clear hWe
  go_wp2_with (guard_target =~ wpList _ _ _ (⟨some 6, _, _, _, _, _⟩ :: _) _ _; refine wpList_load_msg (op := ⟨some 6, .load _ _, _, _, _, _⟩) (by rfl) _ (by rfl) w.heap.size (by rfl) (msgF h d) _ hM (msgF_length _ _) ?_)
  refine (checkM_any h d _).mono ?_
  rintro e w1 ⟨rfl, hb1⟩
  rw [hc]
  replace hb := bnext hb hb1
  replace hM := hM.below hb1
  clear hb1
  go_wp2_with (guard_target =~ wpList _ _ _ (⟨some 12, _, _, _, _, _⟩ :: _) _ _; refine wpList_load_msg (op := ⟨some 12, .load _ _, _, _, _, _⟩) (by rfl) _ (by rfl) w.heap.size (by rfl) (msgF h d) _ hM (msgF_length _ _) ?_)
  refine (said_any h d _ (checkM_head hc).2 hgr htc).mono ?_
  rintro e w2 ⟨x, rfl, own, hb2⟩
  replace hb := bnext hb hb2
  clear hb2 hM
  have hX := own.bytes
  obtain ⟨p2, cap2, rfl, -, -, -⟩ := id hX
  clear own
  have hV := HB.out _ hb
  have hsz : l.length + (bodyS h.ty d).length ≤ 140737488355328 := by omega
  have hn := bnew w2 (Obj.cells ([.slice p l.length cap, .slice p2 (bodyS h.ty d).length cap2] : List Value).toArray 43)
  have hBx := Box.new w2 [.slice p l.length cap, .slice p2 (bodyS h.ty d).length cap2] 43
  generalize hL : bodyS h.ty d = L at *
  have HL := hid hL
  clear hlen hlen2 hL
  go_wp2_with fail
  refine (concat_two w2.heap.size _ _ l L _ (hV.below hn) (hX.below hn) (hBx.cell 0 _ rfl) (hBx.cell 1 _ rfl) hBx.lt hsz).mono ?_
  rintro e w3 ⟨x3, rfl, own3, hb3⟩
  have hb4 := bnext hb hn
  go_wp2_with fail
  go_ret2
  exact ⟨x3, rfl, by rw [HL.out]; exact own3.mono hb4.size, bnext hb4 hb3⟩
end Go.Proofs.Ytohgpnlihfcecaa
