/- carillonlaw13's DecideClass from contracts (gen_declaws.py). -/
import Derived.Test.YtclpblhjfaodbaaDecLaws2
namespace Go.Proofs.Ytclpblhjfaodbaa
open Go.RowKit Go.Proofs
set_option maxRecDepth 50000
set_option linter.unusedVariables false
set_option linter.unusedSimpArgs false

theorem PAt.none {w : World} {p : Option Addr} {o : Option Vc} (h : PAt w p o) (ho : o = Option.none) : p = Option.none ∧ o = Option.none := by
  subst ho
  cases p with
  | none => exact ⟨rfl, rfl⟩
  | some x => exact h.elim
theorem PAt.some {w : World} {p : Option Addr} {o : Option Vc} {v : Vc} (h : PAt w p o) (ho : o = Option.some v) : ∃ b off, p = Option.some ⟨b, off, Option.none⟩ ∧ b < w.heap.size ∧ w.rangeAt b off (vcL v) := by
  subst ho
  cases p with
  | none => exact h.elim
  | some x =>
    obtain ⟨b, off, rfl, h1, h2⟩ := h
    exact ⟨b, off, rfl, h1, h2⟩
theorem oat_mem (os : List (Option Vc)) (i : Nat) (h : i < os.length) : oat os (i : Int) ∈ os := by
  rw [oat_get os i h]
  exact List.getElem_mem h
theorem oat_take (os : List (Option Vc)) (i k : Nat) (h : i < k) : oat (os.take k) (i : Int) = oat os (i : Int) := by
  unfold oat
  rw [Int.toNat_natCast, List.getD_eq_getElem?_getD, List.getD_eq_getElem?_getD, List.getElem?_take_of_lt h]

set_option maxRecDepth 100000 in
set_option maxHeartbeats 8000000 in
theorem decideClass_from (HA : CAll) (HT : CText) (HC : CComp) (d : Vc) (hd : VcIn d) (lv : Value) (bs : List Bool) (l2 : Value) (l : List Vc) (tv : Value) (ts : List Bool) (w : World) (hL : boK.Reads w lv bs) (hV : vecK.Reads w l2 l) (hin : ∀ a ∈ l, VcIn a) (hT2 : boK.Reads w tv ts) :
    Calls Try.prog 7 #[.agg (vcL d).toArray, lv, l2, tv] w fun e w' => e = .returned (.bool true) ∧ Below w.heap.size w w' := by
  have hB := Box.new w (vcL d) 28
  have hb := bnew w (Obj.cells (vcL d).toArray 28)
  go_enter Try.func7, Try.ntmps7
  go_upto_region 1 with fail
  change Code.wp Try.prog _ _ _ (w.alloc (Obj.cells (vcL d).toArray 28))
  generalize w.alloc (Obj.cells (vcL d).toArray 28) = W at *
  generalize hG : w.heap.size = G at *
  have hb2 := hb.setCell (p := ⟨G, 1, none⟩) (Nat.le_refl _)
  rw [← hG] at hb
  have c1 := hB.cell 1 _ rfl
  have f1 := hB.free 1
  have hBs := fun y => hB.set 1 (.int .i64 y)
  go_wp2_with fail
  refine (place_in d.qc 128 _ (by decide) (by decide)).mono ?_
  rintro e w1 ⟨y, rfl, hy0, hy1, -, rfl⟩
  replace hB : Box (W.setCell ⟨G, 1, none⟩ (.int .i64 y)) G (vcL { d with qc := y }) 28 := hBs y
  replace hb := hb2 (.int .i64 y)
  have hdin : VcIn { d with qc := y } := ⟨hd.1, (show I64 y from ⟨by omega, by omega⟩), hd.2.2⟩
  clear hBs hb2
  go_upto_region 2 with fail
  clear c1 f1
  generalize W.setCell ⟨G, 1, none⟩ (.int .i64 y) = W2 at *
  rw [← hG] at hb
  go_wp2_with fail
  refine (some_any _ _ l ts _ (hV.below hb) (hT2.below hb)).mono ?_
  rintro e wq ⟨vP, ps, rfl, oP, hP, bq⟩
  replace hb := bnext hb bq
  replace hB := hB.below bq
  go_wp2_with (guard_target =~ wpList _ _ _ (⟨some 24, _, _, _, _, _⟩ :: _) _ _; refine wpList_load_vec (op := ⟨some 24, .load _ _, _, _, _, _⟩) (by rfl) _ (by rfl) G (by rfl) ({ d with qc := y }) _ hB ?_)
  have hsin : ∀ a, some a ∈ someO l ts (min l.length 12) → VcIn a := someO_in hin
  have hlen12 : (someO l ts (min l.length 12)).length ≤ 12 := by rw [someO_length]; omega
  generalize someO l ts (min l.length 12) = os at *
  refine (HA { d with qc := y } _ _ bs ps os _ hdin (hL.below hb) oP.reads hP hlen12 hsin).mono ?_
  rintro e wz ⟨x, rfl, hx, bz⟩
  replace hb := bnext hb bz
  replace hB := hB.below bz
  replace oP := oP.below bz
  replace hP := hP.below bz
  have hL2 := hL.below hb
  obtain ⟨pp, capp, rfl, hcp, hmp, hatp⟩ := oP.reads
  have HPT := hid fun h => RowK.At.pos (K := poK) hatp h
  obtain ⟨q, capq, hlv, hcapq, hmaxq, hatq⟩ := hL2
  subst hlv
  have HQT := hid fun h => RowK.At.pos (K := boK) hatq h
  have hAl := allD_length { d with qc := y } bs (os.take 8)
  rw [List.length_take] at hAl
  have hAg := fun i (h : i < (allD { d with qc := y } bs (os.take 8)).length) => (allD_get { d with qc := y } bs (os.take 8) i h).trans (oneD_class (by show y ≤ 127; omega))
  generalize bestO (os.take 8) (os.take 8).length = KB at *
  generalize allD { d with qc := y } bs (os.take 8) = A at *
  obtain ⟨p, cap, rfl, hcap, hmax, hat⟩ := hx
  have HAT := hid fun h => hat.pos h
  have hpl := hP.1
  have HP := hid hP
  have HIN := hid hsin
  have HAg := hid hAg
  unfold maxLen at hmax hmaxq hmp
  rw [← hpl] at hAl
  have hmin : min (ps.length : Int) 8 = (A.length : Int) := by omega
  have Hmin := hid hmin
  have HAl := hid hAl
  have Hpl := hid hpl
  clear hat hatq hatp oP hP hsin hAg hAl hpl hlen12 hL hT2 hV
  go_wp2_with fail
  all_goals
    go_loopw [12] (fun iv wr => ∃ j : Nat, j ≤ A.length ∧ iv = .int .i64 (j : Int) ∧ Below wz.heap.size wz wr) (fun iv _ => A.length - (intOf iv).toNat)
    case atStart => exact ⟨0, Nat.zero_le _, rfl, Below.refl _ _⟩
    case round =>
      obtain ⟨j, hj, rfl, hbr⟩ := hrel
      by_cases hlt : j < A.length
      · have hjI : (j : Int) < (A.length : Int) := by omega
        have hj8 : j < min 8 ps.length := by have := HAl.out; omega
        have hjp : j < ps.length := by omega
        have hjpI : (j : Int) < (ps.length : Int) := by omega
        have hjo : j < os.length := by have := Hpl.out; omega
        have hjA := hlt
        obtain ⟨b, off, rfl, hbl, hc⟩ := HAT.out (by omega)
        obtain ⟨bp, offp, rfl, hbp, hrowp⟩ := HPT.out (by omega)
        have hz := HAg.out j hjA
        rw [oat_take os j 8 (by omega)] at hz
        have hpa := HP.out.2 j hjp hjo
        rw [← oat_get os j hjo] at hpa
        cases ho : oat os (j : Int) with
        | none =>
          obtain ⟨hpn, hon⟩ := PAt.none hpa ho
          have hcp : wr.cell? ⟨bp, offp + j, none⟩ = some (.pointer none) := by
            rw [hbr.cell (p := ⟨bp, offp + j, none⟩) hbp]
            exact cell_one rfl hrowp j hjp _ (by rw [hpn]; rfl)
          clear hrowp hpa hpn hon
          rw [ho] at hz
          simp only [Option.isNone_none, Bool.true_and, beatsV, if_true] at hz
          by_cases htj : j < bs.length
          · have htI : (j : Int) < (bs.length : Int) := by omega
            obtain ⟨bq, offq, rfl, hbq, hrowq⟩ := HQT.out (by omega)
            have hbo := bo_cell hrowq j htj
            rw [← hbr.cell (p := ⟨bq, offq + j, none⟩) hbq] at hbo
            cases hbj : bs.getD j false
            · rw [hbj] at hbo hz
              have hca := ints_cell hc j hjA hz
              rw [if_neg Bool.false_ne_true, ← hbr.cell (p := ⟨b, off + j, none⟩) hbl] at hca
              clear hz hc
              go_upto_region 12 with fail
              have HCA := fun wx (h : Below wr.heap.size wr wx) => (h.cell (p := ⟨b, off + j, none⟩) (Nat.lt_of_lt_of_le hbl hbr.size)).trans hca
              have HCP := fun wx (h : Below wr.heap.size wr wx) => (h.cell (p := ⟨bp, offp + j, none⟩) (Nat.lt_of_lt_of_le hbp hbr.size)).trans hcp
              clear hca hcp
              refine wp_region_held_drew (S := fun w' => Below wr.drew.heap.size wr.drew w') (by kernel_rfl) (Below.refl _ _) ?_
              intro hHeld
              have hbd := Below.drew (Below.refl wr.heap.size wr)
              replace hbr := bnext hbr hbd
              have hca := HCA _ hbd
              generalize wr.drew = wd at *
              have hcp := fun wx (h : Below wd.heap.size wd wx) => HCP wx (bnext hbd h)
              refine rtake 0 rfl (by rfl) (by kernel_rfl) (by kernel_rfl) (by kernel_rfl) (fun _ _ _ h => h) hHeld (fun wx hwx => by go_simp; try with_reducible rfl) ?_
              try simp only [Act.put, List.setIfInBounds_toArray, List.set_cons_zero, List.set_cons_succ]
              refine rtake 1 rfl (by rfl) (by kernel_rfl) (by kernel_rfl) (by kernel_rfl) (fun _ _ _ h => h) hHeld (fun wx hwx => by go_simp; try with_reducible rfl) ?_
              try simp only [Act.put, List.setIfInBounds_toArray, List.set_cons_zero, List.set_cons_succ]
              refine rtake 2 rfl (by rfl) (by kernel_rfl) (by kernel_rfl) (by kernel_rfl) (fun _ _ _ h => h) hHeld (fun wx hwx => by go_simp; try with_reducible rfl) ?_
              try simp only [Act.put, List.setIfInBounds_toArray, List.set_cons_zero, List.set_cons_succ]
              refine rtake 3 rfl (by rfl) (by kernel_rfl) (by kernel_rfl) (by kernel_rfl) (fun _ _ _ h => h) hHeld (fun wx hwx => by go_simp; try with_reducible rfl) ?_
              try simp only [Act.put, List.setIfInBounds_toArray, List.set_cons_zero, List.set_cons_succ]
              refine rtake 4 rfl (by rfl) (by kernel_rfl) (by kernel_rfl) (by kernel_rfl) (fun _ _ _ h => h) hHeld (fun wx hwx => by go_simp; try with_reducible rfl) ?_
              try simp only [Act.put, List.setIfInBounds_toArray, List.set_cons_zero, List.set_cons_succ]
              refine rtake 5 rfl (by rfl) (by kernel_rfl) (by kernel_rfl) (by kernel_rfl) (fun _ _ _ h => h) hHeld (fun wx hwx => by go_simp; try with_reducible rfl) ?_
              try simp only [Act.put, List.setIfInBounds_toArray, List.set_cons_zero, List.set_cons_succ]
              refine rpass 6 rfl (by rfl) (by kernel_rfl) (by kernel_rfl) (by kernel_rfl) (fun _ _ _ h => h) hHeld ?_
              try simp only [Act.put, List.setIfInBounds_toArray, List.set_cons_zero, List.set_cons_succ]
              refine rpass 7 rfl (by rfl) (by kernel_rfl) (by kernel_rfl) (by kernel_rfl) (fun _ _ _ h => h) hHeld ?_
              try simp only [Act.put, List.setIfInBounds_toArray, List.set_cons_zero, List.set_cons_succ]
              refine rpass 8 rfl (by rfl) (by kernel_rfl) (by kernel_rfl) (by kernel_rfl) (fun _ _ _ h => h) hHeld ?_
              try simp only [Act.put, List.setIfInBounds_toArray, List.set_cons_zero, List.set_cons_succ]
              refine rpass 9 rfl (by rfl) (by kernel_rfl) (by kernel_rfl) (by kernel_rfl) (fun _ _ _ h => h) hHeld ?_
              try simp only [Act.put, List.setIfInBounds_toArray, List.set_cons_zero, List.set_cons_succ]
              refine rpass 10 rfl (by rfl) (by kernel_rfl) (by kernel_rfl) (by kernel_rfl) (fun _ _ _ h => h) hHeld ?_
              try simp only [Act.put, List.setIfInBounds_toArray, List.set_cons_zero, List.set_cons_succ]
              refine rpass 11 rfl (by rfl) (by kernel_rfl) (by kernel_rfl) (by kernel_rfl) (fun _ _ _ h => h) hHeld ?_
              try simp only [Act.put, List.setIfInBounds_toArray, List.set_cons_zero, List.set_cons_succ]
              refine rpass 12 rfl (by rfl) (by kernel_rfl) (by kernel_rfl) (by kernel_rfl) (fun _ _ _ h => h) hHeld ?_
              try simp only [Act.put, List.setIfInBounds_toArray, List.set_cons_zero, List.set_cons_succ]
              refine rpass 13 rfl (by rfl) (by kernel_rfl) (by kernel_rfl) (by kernel_rfl) (fun _ _ _ h => h) hHeld ?_
              try simp only [Act.put, List.setIfInBounds_toArray, List.set_cons_zero, List.set_cons_succ]
              refine rpass 14 rfl (by rfl) (by kernel_rfl) (by kernel_rfl) (by kernel_rfl) (fun _ _ _ h => h) hHeld ?_
              try simp only [Act.put, List.setIfInBounds_toArray, List.set_cons_zero, List.set_cons_succ]
              refine rtake 15 rfl (by rfl) (by kernel_rfl) (by kernel_rfl) (by kernel_rfl) (fun _ _ _ h => h) hHeld (fun wx hwx => by go_simp; try with_reducible rfl) ?_
              try simp only [Act.put, List.setIfInBounds_toArray, List.set_cons_zero, List.set_cons_succ]
              refine rtake 16 rfl (by rfl) (by kernel_rfl) (by kernel_rfl) (by kernel_rfl) (fun _ _ _ h => h) hHeld (fun wx hwx => by go_simp; try with_reducible rfl) ?_
              try simp only [Act.put, List.setIfInBounds_toArray, List.set_cons_zero, List.set_cons_succ]
              refine wpAnyH_done (by kernel_rfl) ?_ _
              clear hHeld
              clear hcp HCP HCA hbd
              go_wp2_with fail
              go_roundw
              case rel => exact ⟨j + 1, by omega, by go_num, hbr⟩
              case measure => (simp [intOf] <;> omega)
            · rw [hbj] at hbo hz
              have hca := ints_cell hc j hjA hz
              rw [if_pos rfl, ← hbr.cell (p := ⟨b, off + j, none⟩) hbl] at hca
              clear hz hc
              go_wp2_with fail
              go_roundw
              case rel => exact ⟨j + 1, by omega, by go_num, hbr⟩
              case measure => (simp [intOf] <;> omega)
          · have htI : ¬ (j : Int) < (bs.length : Int) := by omega
            rw [getD_over bs j (by omega)] at hz
            have hca := ints_cell hc j hjA hz
            rw [if_neg Bool.false_ne_true, ← hbr.cell (p := ⟨b, off + j, none⟩) hbl] at hca
            clear hz hc
            go_upto_region 12 with fail
            have HCA := fun wx (h : Below wr.heap.size wr wx) => (h.cell (p := ⟨b, off + j, none⟩) (Nat.lt_of_lt_of_le hbl hbr.size)).trans hca
            have HCP := fun wx (h : Below wr.heap.size wr wx) => (h.cell (p := ⟨bp, offp + j, none⟩) (Nat.lt_of_lt_of_le hbp hbr.size)).trans hcp
            clear hca hcp
            refine wp_region_held_drew (S := fun w' => Below wr.drew.heap.size wr.drew w') (by kernel_rfl) (Below.refl _ _) ?_
            intro hHeld
            have hbd := Below.drew (Below.refl wr.heap.size wr)
            replace hbr := bnext hbr hbd
            have hca := HCA _ hbd
            generalize wr.drew = wd at *
            have hcp := fun wx (h : Below wd.heap.size wd wx) => HCP wx (bnext hbd h)
            refine rtake 0 rfl (by rfl) (by kernel_rfl) (by kernel_rfl) (by kernel_rfl) (fun _ _ _ h => h) hHeld (fun wx hwx => by go_simp; try with_reducible rfl) ?_
            try simp only [Act.put, List.setIfInBounds_toArray, List.set_cons_zero, List.set_cons_succ]
            refine rtake 1 rfl (by rfl) (by kernel_rfl) (by kernel_rfl) (by kernel_rfl) (fun _ _ _ h => h) hHeld (fun wx hwx => by go_simp; try with_reducible rfl) ?_
            try simp only [Act.put, List.setIfInBounds_toArray, List.set_cons_zero, List.set_cons_succ]
            refine rtake 2 rfl (by rfl) (by kernel_rfl) (by kernel_rfl) (by kernel_rfl) (fun _ _ _ h => h) hHeld (fun wx hwx => by go_simp; try with_reducible rfl) ?_
            try simp only [Act.put, List.setIfInBounds_toArray, List.set_cons_zero, List.set_cons_succ]
            refine rtake 3 rfl (by rfl) (by kernel_rfl) (by kernel_rfl) (by kernel_rfl) (fun _ _ _ h => h) hHeld (fun wx hwx => by go_simp; try with_reducible rfl) ?_
            try simp only [Act.put, List.setIfInBounds_toArray, List.set_cons_zero, List.set_cons_succ]
            refine rtake 4 rfl (by rfl) (by kernel_rfl) (by kernel_rfl) (by kernel_rfl) (fun _ _ _ h => h) hHeld (fun wx hwx => by go_simp; try with_reducible rfl) ?_
            try simp only [Act.put, List.setIfInBounds_toArray, List.set_cons_zero, List.set_cons_succ]
            refine rtake 5 rfl (by rfl) (by kernel_rfl) (by kernel_rfl) (by kernel_rfl) (fun _ _ _ h => h) hHeld (fun wx hwx => by go_simp; try with_reducible rfl) ?_
            try simp only [Act.put, List.setIfInBounds_toArray, List.set_cons_zero, List.set_cons_succ]
            refine rpass 6 rfl (by rfl) (by kernel_rfl) (by kernel_rfl) (by kernel_rfl) (fun _ _ _ h => h) hHeld ?_
            try simp only [Act.put, List.setIfInBounds_toArray, List.set_cons_zero, List.set_cons_succ]
            refine rpass 7 rfl (by rfl) (by kernel_rfl) (by kernel_rfl) (by kernel_rfl) (fun _ _ _ h => h) hHeld ?_
            try simp only [Act.put, List.setIfInBounds_toArray, List.set_cons_zero, List.set_cons_succ]
            refine rpass 8 rfl (by rfl) (by kernel_rfl) (by kernel_rfl) (by kernel_rfl) (fun _ _ _ h => h) hHeld ?_
            try simp only [Act.put, List.setIfInBounds_toArray, List.set_cons_zero, List.set_cons_succ]
            refine rpass 9 rfl (by rfl) (by kernel_rfl) (by kernel_rfl) (by kernel_rfl) (fun _ _ _ h => h) hHeld ?_
            try simp only [Act.put, List.setIfInBounds_toArray, List.set_cons_zero, List.set_cons_succ]
            refine rpass 10 rfl (by rfl) (by kernel_rfl) (by kernel_rfl) (by kernel_rfl) (fun _ _ _ h => h) hHeld ?_
            try simp only [Act.put, List.setIfInBounds_toArray, List.set_cons_zero, List.set_cons_succ]
            refine rpass 11 rfl (by rfl) (by kernel_rfl) (by kernel_rfl) (by kernel_rfl) (fun _ _ _ h => h) hHeld ?_
            try simp only [Act.put, List.setIfInBounds_toArray, List.set_cons_zero, List.set_cons_succ]
            refine rpass 12 rfl (by rfl) (by kernel_rfl) (by kernel_rfl) (by kernel_rfl) (fun _ _ _ h => h) hHeld ?_
            try simp only [Act.put, List.setIfInBounds_toArray, List.set_cons_zero, List.set_cons_succ]
            refine rpass 13 rfl (by rfl) (by kernel_rfl) (by kernel_rfl) (by kernel_rfl) (fun _ _ _ h => h) hHeld ?_
            try simp only [Act.put, List.setIfInBounds_toArray, List.set_cons_zero, List.set_cons_succ]
            refine rpass 14 rfl (by rfl) (by kernel_rfl) (by kernel_rfl) (by kernel_rfl) (fun _ _ _ h => h) hHeld ?_
            try simp only [Act.put, List.setIfInBounds_toArray, List.set_cons_zero, List.set_cons_succ]
            refine rtake 15 rfl (by rfl) (by kernel_rfl) (by kernel_rfl) (by kernel_rfl) (fun _ _ _ h => h) hHeld (fun wx hwx => by go_simp; try with_reducible rfl) ?_
            try simp only [Act.put, List.setIfInBounds_toArray, List.set_cons_zero, List.set_cons_succ]
            refine rtake 16 rfl (by rfl) (by kernel_rfl) (by kernel_rfl) (by kernel_rfl) (fun _ _ _ h => h) hHeld (fun wx hwx => by go_simp; try with_reducible rfl) ?_
            try simp only [Act.put, List.setIfInBounds_toArray, List.set_cons_zero, List.set_cons_succ]
            refine wpAnyH_done (by kernel_rfl) ?_ _
            clear hHeld
            clear hcp HCP HCA hbd
            go_wp2_with fail
            go_roundw
            case rel => exact ⟨j + 1, by omega, by go_num, hbr⟩
            case measure => (simp [intOf] <;> omega)
        | some v =>
          obtain ⟨bv, offv, hpv, hbv, hrv⟩ := PAt.some hpa ho
          have HCP := fun wx (h : Below wz.heap.size wz wx) => (h.cell (p := ⟨bp, offp + j, none⟩) hbp).trans (cell_one rfl hrowp j hjp (.pointer (some ⟨bv, offv, none⟩)) (by rw [hpv]; rfl))
          have HRV := fun wx (h : Below wz.heap.size wz wx) => (fun i u hi => by rw [h.cell (p := ⟨bv, offv + i, none⟩) hbv]; exact hrv i u hi : wx.rangeAt bv offv (vcL v))
          have HBX := fun wx (h : Below wz.heap.size wz wx) => hB.below h
          have hvin := HIN.out v (by rw [← ho]; exact oat_mem _ _ (by omega))
          rw [ho] at hz
          simp only [Option.isNone_some, Bool.false_and] at hz
          rw [if_neg Bool.false_ne_true] at hz
          obtain ⟨X, hXe⟩ : ∃ X, X = compV { d with qc := y } v := ⟨_, rfl⟩
          have hcc : ∀ w, Calls Try.prog 15 #[.agg (vcL { d with qc := y }).toArray, .agg (vcL v).toArray] w fun e w' => e = .returned (.int .i64 X) ∧ Below w.heap.size w w' := by
            intro w
            rw [hXe]
            exact HC _ _ w hdin hvin
          have hbe : beatsV { d with qc := y } (some v) = decide (X < 0) := by rw [hXe]; rfl
          rw [hbe] at hz
          clear hXe hbe
          have hcp := HCP wr hbr
          clear hrowp hpa hpv hrv
          go_upto_region 12 with fail
          clear hcp
          refine wp_region_held_drew (S := fun w' => Below wr.drew.heap.size wr.drew w') (by kernel_rfl) (Below.refl _ _) ?_
          intro hHeld
          replace hbr := bnext hbr (Below.drew (Below.refl wr.heap.size wr))
          generalize wr.drew = wd at *
          have hcp := fun wx (h : Below wd.heap.size wd wx) => HCP wx (bnext hbr h)
          refine rtake 0 rfl (by rfl) (by kernel_rfl) (by kernel_rfl) (by kernel_rfl) (fun _ _ _ h => h) hHeld (fun wx hwx => by go_simp; try with_reducible rfl) ?_
          try simp only [Act.put, List.setIfInBounds_toArray, List.set_cons_zero, List.set_cons_succ]
          refine rtake 1 rfl (by rfl) (by kernel_rfl) (by kernel_rfl) (by kernel_rfl) (fun _ _ _ h => h) hHeld (fun wx hwx => by go_simp; try with_reducible rfl) ?_
          try simp only [Act.put, List.setIfInBounds_toArray, List.set_cons_zero, List.set_cons_succ]
          refine rtake 2 rfl (by rfl) (by kernel_rfl) (by kernel_rfl) (by kernel_rfl) (fun _ _ _ h => h) hHeld (fun wx hwx => by go_simp; try with_reducible rfl) ?_
          try simp only [Act.put, List.setIfInBounds_toArray, List.set_cons_zero, List.set_cons_succ]
          refine rtake 3 rfl (by rfl) (by kernel_rfl) (by kernel_rfl) (by kernel_rfl) (fun _ _ _ h => h) hHeld (fun wx hwx => by go_simp; try with_reducible rfl) ?_
          try simp only [Act.put, List.setIfInBounds_toArray, List.set_cons_zero, List.set_cons_succ]
          refine rtake 4 rfl (by rfl) (by kernel_rfl) (by kernel_rfl) (by kernel_rfl) (fun _ _ _ h => h) hHeld (fun wx hwx => by go_simp; try with_reducible rfl) ?_
          try simp only [Act.put, List.setIfInBounds_toArray, List.set_cons_zero, List.set_cons_succ]
          refine rtake 5 rfl (by rfl) (by kernel_rfl) (by kernel_rfl) (by kernel_rfl) (fun _ _ _ h => h) hHeld (fun wx hwx => by go_simp; try with_reducible rfl) ?_
          try simp only [Act.put, List.setIfInBounds_toArray, List.set_cons_zero, List.set_cons_succ]
          refine rtake 6 rfl (by rfl) (by kernel_rfl) (by kernel_rfl) (by kernel_rfl) (fun _ _ _ h => h) hHeld (fun wx hwx => exec_load_vec _ rfl G rfl { d with qc := y } _ (HBX wx (bnext hbr hwx))) ?_
          try simp only [Act.put, List.setIfInBounds_toArray, List.set_cons_zero, List.set_cons_succ]
          refine rtake 7 rfl (by rfl) (by kernel_rfl) (by kernel_rfl) (by kernel_rfl) (fun _ _ _ h => h) hHeld (fun wx hwx => by go_simp; try with_reducible rfl) ?_
          try simp only [Act.put, List.setIfInBounds_toArray, List.set_cons_zero, List.set_cons_succ]
          refine rtake 8 rfl (by rfl) (by kernel_rfl) (by kernel_rfl) (by kernel_rfl) (fun _ _ _ h => h) hHeld (fun wx hwx => by go_simp; try with_reducible rfl) ?_
          try simp only [Act.put, List.setIfInBounds_toArray, List.set_cons_zero, List.set_cons_succ]
          refine rtake 9 rfl (by rfl) (by kernel_rfl) (by kernel_rfl) (by kernel_rfl) (fun _ _ _ h => h) hHeld (fun wx hwx => by go_simp; try with_reducible rfl) ?_
          try simp only [Act.put, List.setIfInBounds_toArray, List.set_cons_zero, List.set_cons_succ]
          refine rtake 10 rfl (by rfl) (by kernel_rfl) (by kernel_rfl) (by kernel_rfl) (fun _ _ _ h => h) hHeld (fun wx hwx => by go_simp; try with_reducible rfl) ?_
          try simp only [Act.put, List.setIfInBounds_toArray, List.set_cons_zero, List.set_cons_succ]
          refine rtake 11 rfl (by rfl) (by kernel_rfl) (by kernel_rfl) (by kernel_rfl) (fun _ _ _ h => h) hHeld (fun wx hwx => by go_simp; try with_reducible rfl) ?_
          try simp only [Act.put, List.setIfInBounds_toArray, List.set_cons_zero, List.set_cons_succ]
          refine rtake 12 rfl (by rfl) (by kernel_rfl) (by kernel_rfl) (by kernel_rfl) (fun _ _ _ h => h) hHeld (fun wx hwx => exec_load_vec_at _ rfl bv offv rfl v (HRV wx (bnext hbr hwx))) ?_
          try simp only [Act.put, List.setIfInBounds_toArray, List.set_cons_zero, List.set_cons_succ]
          refine rcall 13 rfl (by kernel_rfl) (by rfl) (fun K' hK => ?_)
          go_simp
          refine (hcc _).mono ?_
          rintro e wq ⟨rfl, bq⟩
          refine hK.out _ _ bq ?_
          clear hK K' hcc hcp HCP HRV HBX
          refine wpAnyH_mono (S' := fun w' => Below wq.heap.size wq w') (fun w' h => bnext bq h) _ _ _ _ ?_
          replace hbr := bnext hbr bq
          clear hHeld bq
          have hHeld := Below.refl wq.heap.size wq
          try simp only [Act.put, List.setIfInBounds_toArray, List.set_cons_zero, List.set_cons_succ]
          by_cases hX : X < 0
          · have hX0 : ¬ 0 ≤ X := by omega
            rw [decide_eq_true hX, if_pos rfl] at hz
            have hca := ints_cell hc j hjA hz
            rw [← hbr.cell (p := ⟨b, off + j, none⟩) hbl] at hca
            have hcaw := hca
            clear hca
            refine rtake 14 rfl (by rfl) (by kernel_rfl) (by kernel_rfl) (by kernel_rfl) (fun _ _ _ h => h) hHeld (fun wx hwx => by go_simp; try with_reducible rfl) ?_
            try simp only [Act.put, List.setIfInBounds_toArray, List.set_cons_zero, List.set_cons_succ]
            refine rtake 15 rfl (by rfl) (by kernel_rfl) (by kernel_rfl) (by kernel_rfl) (fun _ _ _ h => h) hHeld (fun wx hwx => by go_simp; try with_reducible rfl) ?_
            try simp only [Act.put, List.setIfInBounds_toArray, List.set_cons_zero, List.set_cons_succ]
            refine rtake 16 rfl (by rfl) (by kernel_rfl) (by kernel_rfl) (by kernel_rfl) (fun _ _ _ h => h) hHeld (fun wx hwx => by go_simp; try with_reducible rfl) ?_
            try simp only [Act.put, List.setIfInBounds_toArray, List.set_cons_zero, List.set_cons_succ]
            refine wpAnyH_done (by kernel_rfl) ?_ _
            clear hHeld
            have hca := hcaw
            clear hcaw
            clear hz hc
            go_wp2_with fail
            go_roundw
            case rel => exact ⟨j + 1, by omega, by go_num, hbr⟩
            case measure => (simp [intOf] <;> omega)
          · have hX0 : 0 ≤ X := by omega
            rw [decide_eq_false hX, if_neg Bool.false_ne_true] at hz
            have hca := ints_cell hc j hjA hz
            rw [← hbr.cell (p := ⟨b, off + j, none⟩) hbl] at hca
            have hcaw := hca
            clear hca
            refine rtake 14 rfl (by rfl) (by kernel_rfl) (by kernel_rfl) (by kernel_rfl) (fun _ _ _ h => h) hHeld (fun wx hwx => by go_simp; try with_reducible rfl) ?_
            try simp only [Act.put, List.setIfInBounds_toArray, List.set_cons_zero, List.set_cons_succ]
            refine rtake 15 rfl (by rfl) (by kernel_rfl) (by kernel_rfl) (by kernel_rfl) (fun _ _ _ h => h) hHeld (fun wx hwx => by go_simp; try with_reducible rfl) ?_
            try simp only [Act.put, List.setIfInBounds_toArray, List.set_cons_zero, List.set_cons_succ]
            refine rtake 16 rfl (by rfl) (by kernel_rfl) (by kernel_rfl) (by kernel_rfl) (fun _ _ _ h => h) hHeld (fun wx hwx => by go_simp; try with_reducible rfl) ?_
            try simp only [Act.put, List.setIfInBounds_toArray, List.set_cons_zero, List.set_cons_succ]
            refine wpAnyH_done (by kernel_rfl) ?_ _
            clear hHeld
            have hca := hcaw
            clear hcaw
            clear hz hc
            go_wp2_with fail
            go_roundw
            case rel => exact ⟨j + 1, by omega, by go_num, hbr⟩
            case measure => (simp [intOf] <;> omega)
      · obtain rfl : j = A.length := by omega
        go_wp2_with fail
        refine (awake13_from HA HT _).mono ?_
        rintro e w2 ⟨rfl, b2⟩
        go_wp2_with fail
        go_ret
        exact ⟨rfl, bnext (bnext hb hbr) b2⟩
end Go.Proofs.Ytclpblhjfaodbaa
