/- The walk of the law HeaderLengths. -/
import Derived.Test.YtomfpmoglamflaaHeadAwake
import Derived.Test.YtomfpmoglamflaaHeadSay
import Derived.Test.YtomfpmoglamflaaAppZ
import Derived.Test.YtomfpmoglamflaaPlace
namespace Go.Proofs.Ytomfpmoglamflaa
open Go.RowKit Go.Proofs
set_option linter.unusedVariables false
set_option linter.unusedSimpArgs false

/-- One byte more, one byte less, 33 bytes. -/
theorem head_lengths (h : Hd) (k : Nat) (hok : HdOk h) (hp : putB h (35 + (k : Int)) = true) :
    getE (headS h (35 + (k : Int)) ++ List.replicate (k + 1) 0 ++ [0]) = 3 ∧
    getE ((headS h (35 + (k : Int)) ++ List.replicate (k + 1) 0).take (34 + k)) = 2 ∧
    getE ((headS h (35 + (k : Int)) ++ List.replicate (k + 1) 0).take 33) = 2 := by
  have hl := headS_length h (35 + (k : Int))
  refine ⟨?_, ?_, ?_⟩
  · rw [List.append_assoc]
    obtain ⟨-, e2, e3⟩ := head_got h (35 + (k : Int)) (List.replicate (k + 1) 0 ++ [0]) hok hp
    refine getE_long ?_ e3 ?_
    · rw [List.length_append, hl]; omega
    · rw [e2, List.length_append, hl, List.length_append, List.length_replicate]; simp; omega
  · obtain ⟨-, e2, e3⟩ := head_got h (35 + (k : Int)) (List.replicate k 0) hok hp
    have e : (headS h (35 + (k : Int)) ++ List.replicate (k + 1) 0).take (34 + k) = headS h (35 + (k : Int)) ++ List.replicate k 0 := by
      rw [List.take_append, hl, List.take_of_length_le (by omega), List.take_replicate]
      congr 2
      omega
    rw [e]
    refine getE_short ?_ e3 ?_
    · rw [List.length_append, hl]; omega
    · rw [e2, List.length_append, hl, List.length_replicate]; omega
  · exact getE_few (by rw [List.length_take]; omega)

set_option maxRecDepth 100000 in
set_option maxHeartbeats 4000000 in
theorem headerLengths_walk (h : Hd) (r : List Value) (hr : r.length = 15) (hok : HdOk h) (n : Int) (wn : (Lit.int .i64 n).wf = true) (w : World) :
    Calls Try.prog 6 #[.agg (msgL h r).toArray, .int .i64 n] w fun e w' => e = .returned (.bool true) ∧ Below w.heap.size w w' := by
  have hl := msgL_length h r hr
  clear wn
  go_enter Try.func6, Try.ntmps6
  go_upto_region 1 with fail
  obtain ⟨W, hWe, hbw, hBox⟩ := box_msg w (msgL h r)
  rw [← hWe]
  clear hWe
  go_wp2_with fail
  refine (place_in _ _ _ (by decide) (by decide)).mono ?_
  rintro e w' ⟨y, rfl, hy0, hy1, hy, rfl⟩
  obtain ⟨k, rfl⟩ := Int.eq_ofNat_of_zero_le hy0
  clear hy
  have hk : k < 365 := by omega
  go_wp2_with (refine wpList_load_msg (op := ⟨some 21, .load _ _, _, _, _, _⟩) rfl _ rfl w.heap.size rfl (msgL h r) _ hBox hl ?_)
  cases hp : putB h (35 + (k : Int))
  · refine (headPut_no h r _ _ hr hp).mono ?_
    rintro e w1 ⟨rfl, hb1⟩
    go_wp2_with fail
    refine (awake06_any _).mono ?_
    rintro e w4 ⟨rfl, hb4⟩
    go_wp2_with fail
    go_ret
    exact ⟨rfl, bnext hbw (bnext hb1 hb4)⟩
  · refine (headPut_yes h r _ _ hr hok.1 hp).mono ?_
    rintro e w1 ⟨v1, rfl, own1, hb1⟩
    obtain ⟨eL, eS, eF⟩ := head_lengths h k hok hp
    have HL := headS_length h (35 + (k : Int))
    generalize headS h (35 + (k : Int)) = L at *
    have hl0 : 0 < L.length := by rw [HL]; decide
    have hsm : L.length + (k + 1) ≤ 1000000 := by rw [HL]; omega
    have hlen : (L ++ List.replicate (k + 1) 0).length = 35 + k := by rw [List.length_append, HL, List.length_replicate]; omega
    clear hp hBox HL
    go_wp2_with (at_builtin; refine wpList_append_zeros (o := ⟨some 37, _, _, _, _, _⟩) rfl _ _ rfl rfl W.heap.size _ L (k + 1) _ rfl rfl ?_ own1 hl0 hsm hb1.size ?_; omega; intro v' w2 own2 hb2)
    replace hb2 := hb1.trans hb2
    generalize L ++ List.replicate (k + 1) 0 = l at *
    clear own1 hb1 hl0 hsm
    refine (bytes00_any _ l _ own2.bytes (by omega)).mono ?_
    rintro e w3 ⟨v3, rfl, own3, hb3⟩
    have hB : W.heap.size ≤ (w3.alloc (Obj.cells (cellsOf [0]).toArray 5)).heap.size := (bnext (bnext hb2 hb3) (bnew w3 _)).size
    have hx : Bytes (w3.alloc (Obj.cells (cellsOf [0]).toArray 5)) (.slice (some ⟨w3.heap.size, 0, none⟩) 1 1) [0] := (Own.lit w3 [0] (by simp [maxLen])).bytes
    have hO := (own3.mono hb2.size).below (bnew w3 (Obj.cells (cellsOf [0]).toArray 5))
    have hsz : l.length + [(0 : UInt8)].length ≤ 140737488355328 := by rw [hlen]; simp; omega
    go_wp2_with (at_builtin; refine wpList_append_bytes (o := ⟨some 42, _, _, _, _, _⟩) rfl _ _ rfl rfl w2.heap.size _ _ l [0] rfl rfl (own3.below (bnew _ _)) hx hsz ?_ ?_; (have := (bnext hb3 (bnew w3 (Obj.cells (cellsOf [0]).toArray 5))).size; exact this); intro v4 w4 own4 hb4)
    have hb24 := (bnext hb3 (bnew w3 (Obj.cells (cellsOf [0]).toArray 5))).trans hb4
    obtain ⟨g, cap, hv, hcap, _, hmax, hg⟩ := own2.form (by omega)
    have hcell := fun i (hi : i < l.length) => (by rw [hv] at own2; exact own2.cell i hi : w2.cell? ⟨g, i, none⟩ = some (bv l[i]))
    have HS := hid fun (wx : World) (hx : Below w2.heap.size w2 wx) => (Bytes.cut (w := w2) (b := g) (off := 0) (l := l) (cap := cap) 0 (34 + k) cap hg (fun i hi => by rw [Nat.zero_add]; exact hcell i hi) (by omega) hcap hmax rfl).below hx
    have HF := hid fun (wx : World) (hx : Below w2.heap.size w2 wx) => (Bytes.cut (w := w2) (b := g) (off := 0) (l := l) (cap := cap) 0 33 cap hg (fun i hi => by rw [Nat.zero_add]; exact hcell i hi) (by omega) hcap hmax rfl).below hx
    rw [List.drop_zero, Nat.zero_add] at HS HF
    rw [hlen] at hv hcap
    subst hv
    have HL := hid eL
    have HSe := hid eS
    have HFe := hid eF
    have hl1 : (l ++ [0]).length ≤ 140737488355328 := by rw [List.length_append, hlen]; simp; omega
    have hl2 : (l.take (34 + k)).length ≤ 140737488355328 := by rw [List.length_take]; omega
    have hl3 : (l.take 33).length ≤ 140737488355328 := by rw [List.length_take]; omega
    have hcapI : (35 : Int) + (k : Int) ≤ (cap : Int) := by omega
    unfold maxLen at hmax
    refine (headGet_any _ (l ++ [0]) _ own4.bytes hl1).mono ?_
    rintro e w5 ⟨rfl, hb5⟩
    rw [HL.out]
    generalize getH (l ++ [0]) = H1 at *
    generalize getN (l ++ [0]) = N1 at *
    have hb25 := bnext hb24 hb5
    clear own4 hb4 hb5 hb24 hb3 own3 own2 hx hO hB hsz hcell hg eL eS eF
    go_upto_region 7 with (refine wpList_store_msg (op := ⟨none, .store _ _ _, _, _, _, _⟩) rfl _ _ rfl w5.heap.size (msgL H1 zr) (msgL hd0 zr) _ rfl rfl (Box.new w5 _ _) (msgL_length _ _ zr_length) (msgL_length _ _ zr_length) (msgL_one _ _ zr_one) ?_)
    have hbW6 := below_setRow (bnext hb25 (bnew w5 (Obj.cells (msgL hd0 zr).toArray 28))) (hb25).size (msgL H1 zr).toArray
    change Code.wp _ _ _ _ ((w5.alloc (Obj.cells (msgL hd0 zr).toArray 28)).setRow w5.heap.size (msgL H1 zr).toArray)
    generalize ((w5.alloc (Obj.cells (msgL hd0 zr).toArray 28)).setRow w5.heap.size (msgL H1 zr).toArray) = W6 at *
    generalize w5.heap.size = GW6 at *
    clear hb25
    go_wp2_with fail
    refine (headGet_any _ (l.take (34 + k)) _ (HS.out _ hbW6) hl2).mono ?_
    rintro e w7 ⟨rfl, hb7⟩
    rw [HSe.out]
    generalize getH (l.take (34 + k)) = H2 at *
    generalize getN (l.take (34 + k)) = N2 at *
    have hb27 := bnext hbW6 hb7
    clear hb7 hbW6
    go_upto_region 8 with (refine wpList_store_msg (op := ⟨none, .store _ _ _, _, _, _, _⟩) rfl _ _ rfl w7.heap.size (msgL H2 zr) (msgL hd0 zr) _ rfl rfl (Box.new w7 _ _) (msgL_length _ _ zr_length) (msgL_length _ _ zr_length) (msgL_one _ _ zr_one) ?_)
    have hbW8 := below_setRow (bnext hb27 (bnew w7 (Obj.cells (msgL hd0 zr).toArray 28))) (hb27).size (msgL H2 zr).toArray
    change Code.wp _ _ _ _ ((w7.alloc (Obj.cells (msgL hd0 zr).toArray 28)).setRow w7.heap.size (msgL H2 zr).toArray)
    generalize ((w7.alloc (Obj.cells (msgL hd0 zr).toArray 28)).setRow w7.heap.size (msgL H2 zr).toArray) = W8 at *
    generalize w7.heap.size = GW8 at *
    clear hb27
    go_wp2_with fail
    refine (headGet_any _ (l.take 33) _ (HF.out _ hbW8) hl3).mono ?_
    rintro e w9 ⟨rfl, hb9⟩
    rw [HFe.out]
    generalize getH (l.take 33) = H3 at *
    generalize getN (l.take 33) = N3 at *
    have hb29 := bnext hbW8 hb9
    clear hb9 hbW8
    go_upto_region 9 with (refine wpList_store_msg (op := ⟨none, .store _ _ _, _, _, _, _⟩) rfl _ _ rfl w9.heap.size (msgL H3 zr) (msgL hd0 zr) _ rfl rfl (Box.new w9 _ _) (msgL_length _ _ zr_length) (msgL_length _ _ zr_length) (msgL_one _ _ zr_one) ?_)
    have hbW10 := below_setRow (bnext hb29 (bnew w9 (Obj.cells (msgL hd0 zr).toArray 28))) (hb29).size (msgL H3 zr).toArray
    change Code.wp _ _ _ _ ((w9.alloc (Obj.cells (msgL hd0 zr).toArray 28)).setRow w9.heap.size (msgL H3 zr).toArray)
    generalize ((w9.alloc (Obj.cells (msgL hd0 zr).toArray 28)).setRow w9.heap.size (msgL H3 zr).toArray) = W10 at *
    generalize w9.heap.size = GW10 at *
    clear hb29
    go_wp2_with fail
    refine (awake06_any _).mono ?_
    rintro e w11 ⟨rfl, hb11⟩
    go_wp2_with fail
    go_ret
    exact ⟨rfl, bnext hbw (bnext hb2 (bnext hbW10 hb11))⟩
end Go.Proofs.Ytomfpmoglamflaa
