/- Rows of truths and of pointers to vectors; carillonlaw13.some; the contracts of chapter 13 (gen_declaws.py). -/
import Derived.Test.YtclpblhjfaodbaaDec
import Derived.Test.YtclpblhjfaodbaaVecLaws5
import Derived.Test.YtclpblhjfaodbaaRowKeep
import Derived.Test.YtclpblhjfaodbaaBoK
namespace Go.Proofs.Ytclpblhjfaodbaa
open Go.RowKit Go.Proofs
set_option maxRecDepth 50000
set_option linter.unusedVariables false
set_option linter.unusedSimpArgs false

def poK : RowK (Option Addr) := ⟨fun p => [.pointer p], 1, by decide, fun _ => rfl, by intro a u hu; rw [List.mem_singleton.1 hu]; rfl⟩
theorem po_info : (Try.prog.info? 42).map (fun i => (i.zero, i.size, i.bytes)) = some (some (.pointer none), poK.n, 8) := by kernel_rfl
theorem ty_pov : 28 ≠ 42 := by decide

/-- A pointer to a vector, or none. -/
def PAt (w : World) : Option Addr → Option Vc → Prop
  | none, none => True
  | some x, some a => ∃ b off, x = ⟨b, off, none⟩ ∧ b < w.heap.size ∧ w.rangeAt b off (vcL a)
  | _, _ => False
def Pts (w : World) (ps : List (Option Addr)) (os : List (Option Vc)) : Prop := ps.length = os.length ∧ ∀ (i : Nat) (h : i < ps.length) (h' : i < os.length), PAt w ps[i] os[i]
theorem PAt.below {w w' : World} {p : Option Addr} {o : Option Vc} (h : PAt w p o) (hb : Below w.heap.size w w') : PAt w' p o := by
  cases p with
  | none => cases o with
    | none => exact trivial
    | some a => exact h
  | some x => cases o with
    | none => exact h
    | some a =>
      obtain ⟨b, off, rfl, hlt, hr⟩ := h
      exact ⟨b, off, rfl, Nat.lt_of_lt_of_le hlt hb.size, fun j v hj => by rw [hb.cell (p := ⟨b, off + j, none⟩) hlt]; exact hr j v hj⟩
theorem Pts.below {w w' : World} {ps : List (Option Addr)} {os : List (Option Vc)} (h : Pts w ps os) (hb : Below w.heap.size w w') : Pts w' ps os := ⟨h.1, fun i hi hi' => (h.2 i hi hi').below hb⟩
/-- .. to a box of its own. -/
def PBx (w : World) : Option Addr → Option Vc → Prop
  | none, none => True
  | some x, some a => ∃ b, x = ⟨b, 0, none⟩ ∧ Box w b (vcL a) 28
  | _, _ => False
def PtsB (w : World) (ps : List (Option Addr)) (os : List (Option Vc)) : Prop := ps.length = os.length ∧ ∀ (i : Nat) (h : i < ps.length) (h' : i < os.length), PBx w ps[i] os[i]
theorem PBx.below {w w' : World} {p : Option Addr} {o : Option Vc} (h : PBx w p o) (hb : Below w.heap.size w w') : PBx w' p o := by
  cases p with
  | none => cases o with
    | none => exact trivial
    | some a => exact h
  | some x => cases o with
    | none => exact h
    | some a =>
      obtain ⟨b, rfl, hB⟩ := h
      exact ⟨b, rfl, hB.below hb⟩
theorem PBx.kept {w w' : World} {p : Option Addr} {o : Option Vc} (h : PBx w p o) (hk : KeptBut 42 w w') : PBx w' p o := by
  cases p with
  | none => cases o with
    | none => exact trivial
    | some a => exact h
  | some x => cases o with
    | none => exact h
    | some a =>
      obtain ⟨b, rfl, hB⟩ := h
      exact ⟨b, rfl, hB.kept hk ty_pov⟩
theorem PBx.at {w : World} {p : Option Addr} {o : Option Vc} (h : PBx w p o) : PAt w p o := by
  cases p with
  | none => cases o with
    | none => exact trivial
    | some a => exact h
  | some x => cases o with
    | none => exact h
    | some a =>
      obtain ⟨b, rfl, hB⟩ := h
      exact ⟨b, 0, rfl, hB.lt, hB.rangeV⟩
theorem PtsB.below {w w' : World} {ps : List (Option Addr)} {os : List (Option Vc)} (h : PtsB w ps os) (hb : Below w.heap.size w w') : PtsB w' ps os := ⟨h.1, fun i hi hi' => (h.2 i hi hi').below hb⟩
theorem PtsB.kept {w w' : World} {ps : List (Option Addr)} {os : List (Option Vc)} (h : PtsB w ps os) (hk : KeptBut 42 w w') : PtsB w' ps os := ⟨h.1, fun i hi hi' => (h.2 i hi hi').kept hk⟩
theorem PtsB.pts {w : World} {ps : List (Option Addr)} {os : List (Option Vc)} (h : PtsB w ps os) : Pts w ps os := ⟨h.1, fun i hi hi' => (h.2 i hi hi').at⟩
theorem PtsB.snoc {w : World} {ps : List (Option Addr)} {os : List (Option Vc)} (h : PtsB w ps os) {p : Option Addr} {o : Option Vc} (hp : PBx w p o) : PtsB w (ps ++ [p]) (os ++ [o]) := by
  have h1 := h.1
  refine ⟨by simp [h1], fun i hi hi' => ?_⟩
  simp only [List.length_append, List.length_singleton] at hi hi'
  by_cases e : i < ps.length
  · rw [List.getElem_append_left e, List.getElem_append_left (by omega)]
    exact h.2 i e (by omega)
  · obtain rfl : i = ps.length := by omega
    rw [List.getElem_append_right (Nat.le_refl _), List.getElem_append_right (by omega)]
    simp only [Nat.sub_self, List.getElem_singleton]
    exact hp
theorem Pts.nil (w : World) : Pts w [] [] := ⟨rfl, fun i hi => absurd hi (by simp)⟩

/-- The first n, where there is one. -/
def someO (l : List Vc) (bs : List Bool) (n : Nat) : List (Option Vc) := (List.range n).map fun i => if bs.getD i false then l[i]? else none
theorem someO_succ (l : List Vc) (bs : List Bool) (n : Nat) : someO l bs (n + 1) = someO l bs n ++ [if bs.getD n false then l[n]? else none] := by simp [someO, List.range_succ]
theorem someO_length (l : List Vc) (bs : List Bool) (n : Nat) : (someO l bs n).length = n := by simp [someO]
theorem someO_in {l : List Vc} {bs : List Bool} {n : Nat} (h : ∀ a ∈ l, VcIn a) : ∀ a, some a ∈ someO l bs n → VcIn a := by
  intro a ha
  unfold someO at ha
  simp only [List.mem_map, List.mem_range] at ha
  obtain ⟨i, _, hi⟩ := ha
  split at hi
  · exact h a (List.mem_of_getElem? hi)
  · cases hi

def CAll : Prop := ∀ (d : Vc) (lv pv : Value) (bs : List Bool) (ps : List (Option Addr)) (os : List (Option Vc)) (w : World), VcIn d → boK.Reads w lv bs → poK.Reads w pv ps → Pts w ps os → os.length ≤ 12 → (∀ a, some a ∈ os → VcIn a) →
  Calls Try.prog 8 #[.agg (vcL d).toArray, lv, pv] w fun e w' => ∃ x, e = .returned (.tuple #[x, .int .i64 (bestO (os.take 8) (os.take 8).length)]) ∧ Ints w' x (allD d bs (os.take 8)) ∧ Below w.heap.size w w'
def CText : Prop := ∀ (d : Int) (w : World), Calls Try.prog 14 #[.int .i64 d] w fun e w' => e = .returned (.string (textD d)) ∧ Below w.heap.size w w'

set_option maxRecDepth 100000 in
set_option maxHeartbeats 8000000 in
theorem some_any (lv tv : Value) (l : List Vc) (bs : List Bool) (w : World) (hL : vecK.Reads w lv l) (hT : boK.Reads w tv bs) :
    Calls Try.prog 9 #[lv, tv] w fun e w' => ∃ v' ps, e = .returned v' ∧ poK.Own 42 w' w.heap.size v' ps ∧ Pts w' ps (someO l bs (min l.length 12)) ∧ Below w.heap.size w w' := by
  obtain ⟨p, cap, rfl, hcap, hmax, hat⟩ := hL
  obtain ⟨q, capq, rfl, hcapq, hmaxq, hatq⟩ := hT
  have HL := hid fun h => RowK.At.pos (K := vecK) hat h
  have HT := hid fun h => RowK.At.pos (K := boK) hatq h
  unfold maxLen at hmax hmaxq
  clear hat hatq
  obtain ⟨B0, hB0⟩ : ∃ B0, B0 = w.heap.size := ⟨_, rfl⟩
  have hbs0 : B0 ≤ w.heap.size := Nat.le_of_eq hB0
  have hb0 : Below B0 w w := Below.refl _ _
  rw [← hB0]
  have HB0 := hid hB0
  clear hB0
  have hO0 := RowK.Own.nil poK 42 w B0
  go_enter Try.func9, Try.ntmps9
  go_wp2_with fail
  go_loopw [5, 6] (fun mv iv wr => ∃ (j : Nat) (ps : List (Option Addr)), j ≤ l.length ∧ j ≤ 12 ∧ iv = .int .i64 (j : Int) ∧ poK.Own 42 wr B0 mv ps ∧ PtsB wr ps (someO l bs j) ∧ Below B0 w wr ∧ B0 ≤ wr.heap.size) (fun _ iv _ => 12 - (intOf iv).toNat)
  case atStart => exact ⟨0, [], Nat.zero_le _, Nat.zero_le _, rfl, hO0, ⟨rfl, fun i hi => absurd hi (by simp)⟩, hb0, hbs0⟩
  case round =>
    obtain ⟨j, ps, hjl, hj12, rfl, oP, hP, hb, hbs⟩ := hrel
    have hpl : ps.length = j := by rw [hP.1, someO_length]
    by_cases hlt : j < l.length
    · by_cases h12 : j < 12
      · have hjI : (j : Int) < (l.length : Int) := by omega
        have h12I : (j : Int) < 12 := by omega
        obtain ⟨b, off, rfl, hbl, hrow⟩ := HL.out (by omega)
        have hpl9 : ps.length ≤ 12 := by omega
        clear hpl
        by_cases htj : j < bs.length
        · have htI : (j : Int) < (bs.length : Int) := by omega
          obtain ⟨bq, offq, rfl, hbq, hrowq⟩ := HT.out (by omega)
          have hbo : wr.cell? ⟨bq, offq + j, none⟩ = some (.bool bs[j]) := by
            rw [hb.cell (p := ⟨bq, offq + j, none⟩) (by show bq < B0; have := HB0.out; omega)]
            exact cell_one rfl hrowq j htj _ rfl
          have hgd : bs.getD j false = bs[j] := by rw [List.getD_eq_getElem?_getD, List.getElem?_eq_getElem htj]; rfl
          clear hrowq
          cases hbj : bs[j]
          · rw [hbj] at hbo hgd
            have hS := someO_succ l bs j
            rw [hgd] at hS
            have hS' := hid hS
            clear hS hgd hbj hrow
            have q1 := bnew wr (Obj.cells #[.pointer none] 42)
            have r1 : poK.Reads (wr.alloc (Obj.cells #[.pointer none] 42)) (.slice (some ⟨wr.heap.size, 0, none⟩) 1 1) [none] := RowK.Reads.one poK wr 42 none rfl
            have oP1 := oP.below q1
            have hbs1 := Nat.le_trans hbs q1.size
            go_wp2_with (at_builtin; refine RowK.wpList_append_kept poK Try.underlying34 po_info rfl (o := ⟨some 37, _, _, _, _, _⟩) rfl _ _ rfl rfl B0 _ _ ps [none] rfl rfl oP1 r1 ?_ ?_ hbs1 ?_; (simp only [List.length_singleton]; omega); (simp only [List.length_singleton]; omega); intro vP w3 oP3 b3 k3)
            replace hP := (hP.below q1).kept k3
            replace hb := (hb.trans (q1.mono hbs)).trans b3
            replace hbs := Nat.le_trans hbs1 b3.size
            have hP3 := hP.snoc (p := none) (o := none) trivial
            rw [show someO l bs j ++ [none] = someO l bs (j + 1) from hS'.out.symm] at hP3
            clear q1 r1 oP1 hbs1 b3 k3 oP hP
            go_roundw
            case rel => exact ⟨j + 1, ps ++ [none], by omega, by omega, by go_num, oP3, hP3, hb, hbs⟩
            case measure => (simp [intOf] <;> omega)
          · rw [hbj] at hbo hgd
            have hS := someO_succ l bs j
            rw [hgd, if_pos rfl, List.getElem?_eq_getElem hlt] at hS
            have hS' := hid hS
            have hR : wr.rangeAt b (off + j * 11) (vcL l[j]) := fun i u hi => by
              have hi11 : i < 11 := (List.getElem?_eq_some_iff.1 hi).1
              rw [hb.cell (p := ⟨b, off + j * 11 + i, none⟩) (by show b < B0; have := HB0.out; omega), Nat.add_assoc]
              exact RowK.At.cell (K := vecK) hrow j i hlt hi11 u hi
            clear hS hgd hbj hrow
            generalize l[j] = a at *
            have hn1 := bnew wr (Obj.cells (vcL zeroV).toArray 28)
            go_upto_region 7 with (first | (guard_target =~ wpList _ _ _ (⟨some 31, _, _, _, _, _⟩ :: _) _ _; refine wpList_load_mid (op := ⟨some 31, .load _ _, _, _, _, _⟩) (by rfl) _ _ (by rfl) b (off + j * 11) (by rfl) (vcL a) _ hR Try.underlying28 rfl (by rw [info_vec, vcL_length]) ?_) | (guard_target =~ wpList _ _ _ (⟨none, _, _, _, _, _⟩ :: _) _ _; refine wpList_store_vec (op := ⟨none, .store _ _ _, _, _, _, _⟩) (by rfl) _ _ (by rfl) wr.heap.size a zeroV _ (by rfl) (by rfl) (Box.new wr _ _) ?_))
            have hV := (Box.new wr (vcL zeroV) 28).rowV (vcL a)
            have hW := below_setRow hn1 (Nat.le_refl _) (vcL a).toArray
            change Code.wp Try.prog _ _ _ ((wr.alloc (Obj.cells (vcL zeroV).toArray 28)).setRow wr.heap.size (vcL a).toArray)
            generalize (wr.alloc (Obj.cells (vcL zeroV).toArray 28)).setRow wr.heap.size (vcL a).toArray = W at *
            replace oP := oP.below hW
            replace hP := hP.below hW
            replace hb := hb.trans (hW.mono hbs)
            replace hbs := Nat.le_trans hbs hW.size
            generalize wr.heap.size = g9 at *
            clear hn1 hW hR hbo
            have q1 := bnew W (Obj.cells #[.pointer (some ⟨g9, 0, none⟩)] 42)
            have r1 : poK.Reads (W.alloc (Obj.cells #[.pointer (some ⟨g9, 0, none⟩)] 42)) (.slice (some ⟨W.heap.size, 0, none⟩) 1 1) [some ⟨g9, 0, none⟩] := RowK.Reads.one poK W 42 (some ⟨g9, 0, none⟩) rfl
            have oP1 := oP.below q1
            have hbs1 := Nat.le_trans hbs q1.size
            go_wp2_with (at_builtin; refine RowK.wpList_append_kept poK Try.underlying34 po_info rfl (o := ⟨some 34, _, _, _, _, _⟩) rfl _ _ rfl rfl B0 _ _ ps [some ⟨g9, 0, none⟩] rfl rfl oP1 r1 ?_ ?_ hbs1 ?_; (simp only [List.length_singleton]; omega); (simp only [List.length_singleton]; omega); intro vP w3 oP3 b3 k3)
            replace hP := (hP.below q1).kept k3
            replace hV := (hV.below q1).kept k3 ty_pov
            replace hb := (hb.trans (q1.mono hbs)).trans b3
            replace hbs := Nat.le_trans hbs1 b3.size
            have hP3 := hP.snoc (p := some ⟨g9, 0, none⟩) (o := some a) ⟨g9, rfl, hV⟩
            rw [← hS'.out] at hP3
            clear q1 r1 oP1 hbs1 b3 k3 oP hP hV
            go_roundw
            case rel => exact ⟨j + 1, ps ++ [some ⟨g9, 0, none⟩], by omega, by omega, by go_num, oP3, hP3, hb, hbs⟩
            case measure => (simp [intOf] <;> omega)
        · have htI : ¬ (j : Int) < (bs.length : Int) := by omega
          have hgd : bs.getD j false = false := by rw [List.getD_eq_getElem?_getD, List.getElem?_eq_none (by omega)]; rfl
          have hS := someO_succ l bs j
          rw [hgd] at hS
          have hS' := hid hS
          clear hS hgd hrow
          have q1 := bnew wr (Obj.cells #[.pointer none] 42)
          have r1 : poK.Reads (wr.alloc (Obj.cells #[.pointer none] 42)) (.slice (some ⟨wr.heap.size, 0, none⟩) 1 1) [none] := RowK.Reads.one poK wr 42 none rfl
          have oP1 := oP.below q1
          have hbs1 := Nat.le_trans hbs q1.size
          go_wp2_with (at_builtin; refine RowK.wpList_append_kept poK Try.underlying34 po_info rfl (o := ⟨some 37, _, _, _, _, _⟩) rfl _ _ rfl rfl B0 _ _ ps [none] rfl rfl oP1 r1 ?_ ?_ hbs1 ?_; (simp only [List.length_singleton]; omega); (simp only [List.length_singleton]; omega); intro vP w3 oP3 b3 k3)
          replace hP := (hP.below q1).kept k3
          replace hb := (hb.trans (q1.mono hbs)).trans b3
          replace hbs := Nat.le_trans hbs1 b3.size
          have hP3 := hP.snoc (p := none) (o := none) trivial
          rw [show someO l bs j ++ [none] = someO l bs (j + 1) from hS'.out.symm] at hP3
          clear q1 r1 oP1 hbs1 b3 k3 oP hP
          go_roundw
          case rel => exact ⟨j + 1, ps ++ [none], by omega, by omega, by go_num, oP3, hP3, hb, hbs⟩
          case measure => (simp [intOf] <;> omega)
      · obtain rfl : j = 12 := by omega
        have h12I : (12 : Int) < (l.length : Int) := by omega
        have hm : min l.length 12 = 12 := by omega
        have hPp := hP.pts
        go_wp2_with fail
        go_ret
        exact ⟨_, ps, rfl, oP, by rw [hm]; exact hPp, hb⟩
    · obtain rfl : j = l.length := by omega
      have hm : min l.length 12 = l.length := by omega
      have hPp := hP.pts
      go_wp2_with fail
      go_ret
      exact ⟨_, ps, rfl, oP, by rw [hm]; exact hPp, hb⟩
end Go.Proofs.Ytclpblhjfaodbaa
