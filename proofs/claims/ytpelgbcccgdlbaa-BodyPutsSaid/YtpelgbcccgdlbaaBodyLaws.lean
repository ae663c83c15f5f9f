/- carillonlaw07's awake; the walk of the law BodyLens (gen_bodylens.py). -/
import Derived.Test.YtpelgbcccgdlbaaBodyPut2
namespace Go.Proofs.Ytpelgbcccgdlbaa
open Go.RowKit Go.Proofs
set_option linter.unusedVariables false
set_option linter.unusedSimpArgs false

/-- A message of that type alone. -/
def tyH (t : Int) : Hd := ⟨t, 0, 0, 0, 0, 0, 0, 0⟩

theorem nil_len (l : List UInt8) (n : Nat) (h : l.length = n) : ([] ++ l).length = n := by rw [List.nil_append]; exact h

theorem bodyS_len (t : Int) (d : Bd) (n : Nat) (h : lenI t = (n : Int)) : ([] ++ bodyS t d).length = n := by
  have := bodyS_length t d
  rw [List.nil_append]
  omega

set_option maxRecDepth 100000 in
set_option maxHeartbeats 1600000 in
theorem awake07_any (w : World) :
    Calls Try.prog 14 #[] w fun e w' => e = .returned (.bool true) ∧ Below w.heap.size w w' := by
  have hlen := bodyS_len (tyH 11).ty bd0 30 (by decide)
  go_enter Try.func14, Try.ntmps14
  go_wp2_with (guard_target =~ wpList _ _ _ (⟨some 4, _, _, _, _, _⟩ :: _) _ _; refine wpList_build_type (op := ⟨some 4, .build _ _, _, _, _, _⟩) (by rfl) _ (by rfl) 11 (by rfl) ?_)
  refine (bodyPut_yes _ [] (tyH 11) bd0 _ (Bytes.nil _) (by decide) (by decide) (by decide) (by decide)).mono ?_
  rintro e w1 ⟨v, rfl, own, hb1⟩
  generalize ([] ++ bodyS (tyH 11).ty bd0 : List UInt8) = L at *
  obtain ⟨g, cap, rfl, -⟩ := own.form (by omega)
  rw [hlen]
  clear own hlen
  go_wp2_with fail
  refine (len_any _ _).mono ?_
  rintro e w2 ⟨rfl, hb2⟩
  rw [show lenI 13 = 14 by decide]
  go_wp2_with fail
  refine (len_any _ _).mono ?_
  rintro e w3 ⟨rfl, hb3⟩
  rw [show lenI 4 = 0 by decide]
  go_wp2_with fail
  go_ret
  exact ⟨rfl, bnext (bnext hb1 hb2) hb3⟩

theorem check_unknown {t : Int} (h : knownB t = false) : checkM (tyH t) bd0 = false := by
  unfold checkM checkB tyH
  rw [h]
  rfl

set_option maxRecDepth 100000 in
set_option maxHeartbeats 8000000 in
theorem bodyLens_walk (w : World) :
    Calls Try.prog 7 #[] w fun e w' => e = .returned (.bool true) ∧ Below w.heap.size w w' := by
  go_enter Try.func7, Try.ntmps7
  go_wp2_with fail
  have hBx := Box.new w [Value.int IntKind.i64 10, Value.int IntKind.i64 10, Value.int IntKind.i64 20, Value.int IntKind.i64 20, Value.int IntKind.i64 0, Value.int IntKind.i64 0, Value.int IntKind.i64 0, Value.int IntKind.i64 0, Value.int IntKind.i64 10, Value.int IntKind.i64 20, Value.int IntKind.i64 20, Value.int IntKind.i64 30, Value.int IntKind.i64 10, Value.int IntKind.i64 14, Value.int IntKind.i64 0, Value.int IntKind.i64 0] 44
  have hbw := bnew w (Obj.cells ([Value.int IntKind.i64 10, Value.int IntKind.i64 10, Value.int IntKind.i64 20, Value.int IntKind.i64 20, Value.int IntKind.i64 0, Value.int IntKind.i64 0, Value.int IntKind.i64 0, Value.int IntKind.i64 0, Value.int IntKind.i64 10, Value.int IntKind.i64 20, Value.int IntKind.i64 20, Value.int IntKind.i64 30, Value.int IntKind.i64 10, Value.int IntKind.i64 14, Value.int IntKind.i64 0, Value.int IntKind.i64 0] : List Value).toArray 44)
  change Code.wp Try.prog _ _ _ (w.alloc (Obj.cells ([Value.int IntKind.i64 10, Value.int IntKind.i64 10, Value.int IntKind.i64 20, Value.int IntKind.i64 20, Value.int IntKind.i64 0, Value.int IntKind.i64 0, Value.int IntKind.i64 0, Value.int IntKind.i64 0, Value.int IntKind.i64 10, Value.int IntKind.i64 20, Value.int IntKind.i64 20, Value.int IntKind.i64 30, Value.int IntKind.i64 10, Value.int IntKind.i64 14, Value.int IntKind.i64 0, Value.int IntKind.i64 0] : List Value).toArray 44))
  generalize w.alloc _ = W at *
  have HBx := hid fun (wx : World) (hx : Below W.heap.size W wx) => hBx.below hx
  clear hBx
  go_loopw [2] (fun t wr => ∃ T : Int, -3 ≤ T ∧ T ≤ 16 ∧ t = .int .i64 T ∧ Below W.heap.size W wr) (fun t _ => (16 - intOf t).toNat)
  case atStart => exact ⟨-3, by decide, by decide, rfl, Below.refl _ _⟩
  case round =>
    obtain ⟨T, hT0, hT1, rfl, hb⟩ := hrel
    by_cases hlt : T < 16
    · by_cases hneg : T < 0
      · have hc := check_unknown (t := T) (by unfold knownB; rw [decide_eq_false_iff_not]; omega)
        have hl0 : lenI T = 0 := by obtain ⟨a, b, c⟩ := parts_none (t := T) (by unfold knownB; rw [decide_eq_false_iff_not]; omega); unfold lenI; rw [a, b, c]; rfl
        go_wp2_with (guard_target =~ wpList _ _ _ (⟨some 18, _, _, _, _, _⟩ :: _) _ _; refine wpList_build_type (op := ⟨some 18, .build _ _, _, _, _, _⟩) (by rfl) _ (by rfl) T (by rfl) ?_)
        refine (bodyPut_no _ [] (tyH T) bd0 _ (Bytes.nil _) (by decide) hc).mono ?_
        rintro e w1 ⟨v, rfl, own, hb1⟩
        have hv := own.bytes
        obtain ⟨p, cap, rfl, -, -, -⟩ := hv
        rw [List.length_nil]
        clear own hc
        replace hb := bnext hb hb1
        clear hb1
        go_wp2_with fail
        refine (len_any _ _).mono ?_
        rintro e w2 ⟨rfl, hb2⟩
        rw [hl0]
        clear hl0
        go_wp2_with fail
        go_roundw
        case rel => exact ⟨T + 1, by omega, by omega, rfl, bnext hb hb2⟩
        case measure => simp [intOf]; omega
      · have hcs : T = 0 ∨ T = 1 ∨ T = 2 ∨ T = 3 ∨ T = 4 ∨ T = 5 ∨ T = 6 ∨ T = 7 ∨ T = 8 ∨ T = 9 ∨ T = 10 ∨ T = 11 ∨ T = 12 ∨ T = 13 ∨ T = 14 ∨ T = 15 := by omega
        rcases hcs with rfl | rfl | rfl | rfl | rfl | rfl | rfl | rfl | rfl | rfl | rfl | rfl | rfl | rfl | rfl | rfl
        · have cT := (HBx.out _ hb).cell 0 _ rfl
          clear hneg hT0 hT1 hlt
          go_wp2_with (guard_target =~ wpList _ _ _ (⟨some 18, _, _, _, _, _⟩ :: _) _ _; refine wpList_build_type (op := ⟨some 18, .build _ _, _, _, _, _⟩) (by rfl) _ (by rfl) 0 (by rfl) ?_)
          refine (bodyPut_yes _ [] (tyH 0) bd0 _ (Bytes.nil _) (by decide) (by decide) (by decide) (by decide)).mono ?_
          rintro e w1 ⟨v, rfl, own, hb1⟩
          have hlen := bodyS_len (tyH 0).ty bd0 10 (by decide)
          generalize ([] ++ bodyS (tyH 0).ty bd0 : List UInt8) = L at *
          obtain ⟨g, cap, rfl, -⟩ := own.form (by omega)
          rw [hlen]
          clear own hlen
          replace hb := bnext hb hb1
          clear hb1 cT
          go_wp2_with fail
          refine (len_any _ _).mono ?_
          rintro e w2 ⟨rfl, hb2⟩
          rw [show lenI 0 = 10 by decide]
          go_wp2_with fail
          go_roundw
          case rel => exact ⟨1, by decide, by decide, rfl, bnext hb hb2⟩
          case measure => simp [intOf]
        · have cT := (HBx.out _ hb).cell 1 _ rfl
          clear hneg hT0 hT1 hlt
          go_wp2_with (guard_target =~ wpList _ _ _ (⟨some 18, _, _, _, _, _⟩ :: _) _ _; refine wpList_build_type (op := ⟨some 18, .build _ _, _, _, _, _⟩) (by rfl) _ (by rfl) 1 (by rfl) ?_)
          refine (bodyPut_yes _ [] (tyH 1) bd0 _ (Bytes.nil _) (by decide) (by decide) (by decide) (by decide)).mono ?_
          rintro e w1 ⟨v, rfl, own, hb1⟩
          have hlen := bodyS_len (tyH 1).ty bd0 10 (by decide)
          generalize ([] ++ bodyS (tyH 1).ty bd0 : List UInt8) = L at *
          obtain ⟨g, cap, rfl, -⟩ := own.form (by omega)
          rw [hlen]
          clear own hlen
          replace hb := bnext hb hb1
          clear hb1 cT
          go_wp2_with fail
          refine (len_any _ _).mono ?_
          rintro e w2 ⟨rfl, hb2⟩
          rw [show lenI 1 = 10 by decide]
          go_wp2_with fail
          go_roundw
          case rel => exact ⟨2, by decide, by decide, rfl, bnext hb hb2⟩
          case measure => simp [intOf]
        · have cT := (HBx.out _ hb).cell 2 _ rfl
          clear hneg hT0 hT1 hlt
          go_wp2_with (guard_target =~ wpList _ _ _ (⟨some 18, _, _, _, _, _⟩ :: _) _ _; refine wpList_build_type (op := ⟨some 18, .build _ _, _, _, _, _⟩) (by rfl) _ (by rfl) 2 (by rfl) ?_)
          refine (bodyPut_yes _ [] (tyH 2) bd0 _ (Bytes.nil _) (by decide) (by decide) (by decide) (by decide)).mono ?_
          rintro e w1 ⟨v, rfl, own, hb1⟩
          have hlen := bodyS_len (tyH 2).ty bd0 20 (by decide)
          generalize ([] ++ bodyS (tyH 2).ty bd0 : List UInt8) = L at *
          obtain ⟨g, cap, rfl, -⟩ := own.form (by omega)
          rw [hlen]
          clear own hlen
          replace hb := bnext hb hb1
          clear hb1 cT
          go_wp2_with fail
          refine (len_any _ _).mono ?_
          rintro e w2 ⟨rfl, hb2⟩
          rw [show lenI 2 = 20 by decide]
          go_wp2_with fail
          go_roundw
          case rel => exact ⟨3, by decide, by decide, rfl, bnext hb hb2⟩
          case measure => simp [intOf]
        · have cT := (HBx.out _ hb).cell 3 _ rfl
          clear hneg hT0 hT1 hlt
          go_wp2_with (guard_target =~ wpList _ _ _ (⟨some 18, _, _, _, _, _⟩ :: _) _ _; refine wpList_build_type (op := ⟨some 18, .build _ _, _, _, _, _⟩) (by rfl) _ (by rfl) 3 (by rfl) ?_)
          refine (bodyPut_yes _ [] (tyH 3) bd0 _ (Bytes.nil _) (by decide) (by decide) (by decide) (by decide)).mono ?_
          rintro e w1 ⟨v, rfl, own, hb1⟩
          have hlen := bodyS_len (tyH 3).ty bd0 20 (by decide)
          generalize ([] ++ bodyS (tyH 3).ty bd0 : List UInt8) = L at *
          obtain ⟨g, cap, rfl, -⟩ := own.form (by omega)
          rw [hlen]
          clear own hlen
          replace hb := bnext hb hb1
          clear hb1 cT
          go_wp2_with fail
          refine (len_any _ _).mono ?_
          rintro e w2 ⟨rfl, hb2⟩
          rw [show lenI 3 = 20 by decide]
          go_wp2_with fail
          go_roundw
          case rel => exact ⟨4, by decide, by decide, rfl, bnext hb hb2⟩
          case measure => simp [intOf]
        · have cT := (HBx.out _ hb).cell 4 _ rfl
          clear hneg hT0 hT1 hlt
          go_wp2_with (guard_target =~ wpList _ _ _ (⟨some 18, _, _, _, _, _⟩ :: _) _ _; refine wpList_build_type (op := ⟨some 18, .build _ _, _, _, _, _⟩) (by rfl) _ (by rfl) 4 (by rfl) ?_)
          refine (bodyPut_no _ [] (tyH 4) bd0 _ (Bytes.nil _) (by decide) (by decide)).mono ?_
          rintro e w1 ⟨v, rfl, own, hb1⟩
          have hv := own.bytes
          obtain ⟨p, cap, rfl, -, -, -⟩ := hv
          rw [List.length_nil]
          clear own
          replace hb := bnext hb hb1
          clear hb1 cT
          go_wp2_with fail
          refine (len_any _ _).mono ?_
          rintro e w2 ⟨rfl, hb2⟩
          rw [show lenI 4 = 0 by decide]
          go_wp2_with fail
          go_roundw
          case rel => exact ⟨5, by decide, by decide, rfl, bnext hb hb2⟩
          case measure => simp [intOf]
        · have cT := (HBx.out _ hb).cell 5 _ rfl
          clear hneg hT0 hT1 hlt
          go_wp2_with (guard_target =~ wpList _ _ _ (⟨some 18, _, _, _, _, _⟩ :: _) _ _; refine wpList_build_type (op := ⟨some 18, .build _ _, _, _, _, _⟩) (by rfl) _ (by rfl) 5 (by rfl) ?_)
          refine (bodyPut_no _ [] (tyH 5) bd0 _ (Bytes.nil _) (by decide) (by decide)).mono ?_
          rintro e w1 ⟨v, rfl, own, hb1⟩
          have hv := own.bytes
          obtain ⟨p, cap, rfl, -, -, -⟩ := hv
          rw [List.length_nil]
          clear own
          replace hb := bnext hb hb1
          clear hb1 cT
          go_wp2_with fail
          refine (len_any _ _).mono ?_
          rintro e w2 ⟨rfl, hb2⟩
          rw [show lenI 5 = 0 by decide]
          go_wp2_with fail
          go_roundw
          case rel => exact ⟨6, by decide, by decide, rfl, bnext hb hb2⟩
          case measure => simp [intOf]
        · have cT := (HBx.out _ hb).cell 6 _ rfl
          clear hneg hT0 hT1 hlt
          go_wp2_with (guard_target =~ wpList _ _ _ (⟨some 18, _, _, _, _, _⟩ :: _) _ _; refine wpList_build_type (op := ⟨some 18, .build _ _, _, _, _, _⟩) (by rfl) _ (by rfl) 6 (by rfl) ?_)
          refine (bodyPut_no _ [] (tyH 6) bd0 _ (Bytes.nil _) (by decide) (by decide)).mono ?_
          rintro e w1 ⟨v, rfl, own, hb1⟩
          have hv := own.bytes
          obtain ⟨p, cap, rfl, -, -, -⟩ := hv
          rw [List.length_nil]
          clear own
          replace hb := bnext hb hb1
          clear hb1 cT
          go_wp2_with fail
          refine (len_any _ _).mono ?_
          rintro e w2 ⟨rfl, hb2⟩
          rw [show lenI 6 = 0 by decide]
          go_wp2_with fail
          go_roundw
          case rel => exact ⟨7, by decide, by decide, rfl, bnext hb hb2⟩
          case measure => simp [intOf]
        · have cT := (HBx.out _ hb).cell 7 _ rfl
          clear hneg hT0 hT1 hlt
          go_wp2_with (guard_target =~ wpList _ _ _ (⟨some 18, _, _, _, _, _⟩ :: _) _ _; refine wpList_build_type (op := ⟨some 18, .build _ _, _, _, _, _⟩) (by rfl) _ (by rfl) 7 (by rfl) ?_)
          refine (bodyPut_no _ [] (tyH 7) bd0 _ (Bytes.nil _) (by decide) (by decide)).mono ?_
          rintro e w1 ⟨v, rfl, own, hb1⟩
          have hv := own.bytes
          obtain ⟨p, cap, rfl, -, -, -⟩ := hv
          rw [List.length_nil]
          clear own
          replace hb := bnext hb hb1
          clear hb1 cT
          go_wp2_with fail
          refine (len_any _ _).mono ?_
          rintro e w2 ⟨rfl, hb2⟩
          rw [show lenI 7 = 0 by decide]
          go_wp2_with fail
          go_roundw
          case rel => exact ⟨8, by decide, by decide, rfl, bnext hb hb2⟩
          case measure => simp [intOf]
        · have cT := (HBx.out _ hb).cell 8 _ rfl
          clear hneg hT0 hT1 hlt
          go_wp2_with (guard_target =~ wpList _ _ _ (⟨some 18, _, _, _, _, _⟩ :: _) _ _; refine wpList_build_type (op := ⟨some 18, .build _ _, _, _, _, _⟩) (by rfl) _ (by rfl) 8 (by rfl) ?_)
          refine (bodyPut_yes _ [] (tyH 8) bd0 _ (Bytes.nil _) (by decide) (by decide) (by decide) (by decide)).mono ?_
          rintro e w1 ⟨v, rfl, own, hb1⟩
          have hlen := bodyS_len (tyH 8).ty bd0 10 (by decide)
          generalize ([] ++ bodyS (tyH 8).ty bd0 : List UInt8) = L at *
          obtain ⟨g, cap, rfl, -⟩ := own.form (by omega)
          rw [hlen]
          clear own hlen
          replace hb := bnext hb hb1
          clear hb1 cT
          go_wp2_with fail
          refine (len_any _ _).mono ?_
          rintro e w2 ⟨rfl, hb2⟩
          rw [show lenI 8 = 10 by decide]
          go_wp2_with fail
          go_roundw
          case rel => exact ⟨9, by decide, by decide, rfl, bnext hb hb2⟩
          case measure => simp [intOf]
        · have cT := (HBx.out _ hb).cell 9 _ rfl
          clear hneg hT0 hT1 hlt
          go_wp2_with (guard_target =~ wpList _ _ _ (⟨some 18, _, _, _, _, _⟩ :: _) _ _; refine wpList_build_type (op := ⟨some 18, .build _ _, _, _, _, _⟩) (by rfl) _ (by rfl) 9 (by rfl) ?_)
          refine (bodyPut_yes _ [] (tyH 9) bd0 _ (Bytes.nil _) (by decide) (by decide) (by decide) (by decide)).mono ?_
          rintro e w1 ⟨v, rfl, own, hb1⟩
          have hlen := bodyS_len (tyH 9).ty bd0 20 (by decide)
          generalize ([] ++ bodyS (tyH 9).ty bd0 : List UInt8) = L at *
          obtain ⟨g, cap, rfl, -⟩ := own.form (by omega)
          rw [hlen]
          clear own hlen
          replace hb := bnext hb hb1
          clear hb1 cT
          go_wp2_with fail
          refine (len_any _ _).mono ?_
          rintro e w2 ⟨rfl, hb2⟩
          rw [show lenI 9 = 20 by decide]
          go_wp2_with fail
          go_roundw
          case rel => exact ⟨10, by decide, by decide, rfl, bnext hb hb2⟩
          case measure => simp [intOf]
        · have cT := (HBx.out _ hb).cell 10 _ rfl
          clear hneg hT0 hT1 hlt
          go_wp2_with (guard_target =~ wpList _ _ _ (⟨some 18, _, _, _, _, _⟩ :: _) _ _; refine wpList_build_type (op := ⟨some 18, .build _ _, _, _, _, _⟩) (by rfl) _ (by rfl) 10 (by rfl) ?_)
          refine (bodyPut_yes _ [] (tyH 10) bd0 _ (Bytes.nil _) (by decide) (by decide) (by decide) (by decide)).mono ?_
          rintro e w1 ⟨v, rfl, own, hb1⟩
          have hlen := bodyS_len (tyH 10).ty bd0 20 (by decide)
          generalize ([] ++ bodyS (tyH 10).ty bd0 : List UInt8) = L at *
          obtain ⟨g, cap, rfl, -⟩ := own.form (by omega)
          rw [hlen]
          clear own hlen
          replace hb := bnext hb hb1
          clear hb1 cT
          go_wp2_with fail
          refine (len_any _ _).mono ?_
          rintro e w2 ⟨rfl, hb2⟩
          rw [show lenI 10 = 20 by decide]
          go_wp2_with fail
          go_roundw
          case rel => exact ⟨11, by decide, by decide, rfl, bnext hb hb2⟩
          case measure => simp [intOf]
        · have cT := (HBx.out _ hb).cell 11 _ rfl
          clear hneg hT0 hT1 hlt
          go_wp2_with (guard_target =~ wpList _ _ _ (⟨some 18, _, _, _, _, _⟩ :: _) _ _; refine wpList_build_type (op := ⟨some 18, .build _ _, _, _, _, _⟩) (by rfl) _ (by rfl) 11 (by rfl) ?_)
          refine (bodyPut_yes _ [] (tyH 11) bd0 _ (Bytes.nil _) (by decide) (by decide) (by decide) (by decide)).mono ?_
          rintro e w1 ⟨v, rfl, own, hb1⟩
          have hlen := bodyS_len (tyH 11).ty bd0 30 (by decide)
          generalize ([] ++ bodyS (tyH 11).ty bd0 : List UInt8) = L at *
          obtain ⟨g, cap, rfl, -⟩ := own.form (by omega)
          rw [hlen]
          clear own hlen
          replace hb := bnext hb hb1
          clear hb1 cT
          go_wp2_with fail
          refine (len_any _ _).mono ?_
          rintro e w2 ⟨rfl, hb2⟩
          rw [show lenI 11 = 30 by decide]
          go_wp2_with fail
          go_roundw
          case rel => exact ⟨12, by decide, by decide, rfl, bnext hb hb2⟩
          case measure => simp [intOf]
        · have cT := (HBx.out _ hb).cell 12 _ rfl
          clear hneg hT0 hT1 hlt
          go_wp2_with (guard_target =~ wpList _ _ _ (⟨some 18, _, _, _, _, _⟩ :: _) _ _; refine wpList_build_type (op := ⟨some 18, .build _ _, _, _, _, _⟩) (by rfl) _ (by rfl) 12 (by rfl) ?_)
          refine (bodyPut_yes _ [] (tyH 12) bd0 _ (Bytes.nil _) (by decide) (by decide) (by decide) (by decide)).mono ?_
          rintro e w1 ⟨v, rfl, own, hb1⟩
          have hlen := bodyS_len (tyH 12).ty bd0 10 (by decide)
          generalize ([] ++ bodyS (tyH 12).ty bd0 : List UInt8) = L at *
          obtain ⟨g, cap, rfl, -⟩ := own.form (by omega)
          rw [hlen]
          clear own hlen
          replace hb := bnext hb hb1
          clear hb1 cT
          go_wp2_with fail
          refine (len_any _ _).mono ?_
          rintro e w2 ⟨rfl, hb2⟩
          rw [show lenI 12 = 10 by decide]
          go_wp2_with fail
          go_roundw
          case rel => exact ⟨13, by decide, by decide, rfl, bnext hb hb2⟩
          case measure => simp [intOf]
        · have cT := (HBx.out _ hb).cell 13 _ rfl
          clear hneg hT0 hT1 hlt
          go_wp2_with (guard_target =~ wpList _ _ _ (⟨some 18, _, _, _, _, _⟩ :: _) _ _; refine wpList_build_type (op := ⟨some 18, .build _ _, _, _, _, _⟩) (by rfl) _ (by rfl) 13 (by rfl) ?_)
          refine (bodyPut_yes _ [] (tyH 13) bd0 _ (Bytes.nil _) (by decide) (by decide) (by decide) (by decide)).mono ?_
          rintro e w1 ⟨v, rfl, own, hb1⟩
          have hlen := bodyS_len (tyH 13).ty bd0 14 (by decide)
          generalize ([] ++ bodyS (tyH 13).ty bd0 : List UInt8) = L at *
          obtain ⟨g, cap, rfl, -⟩ := own.form (by omega)
          rw [hlen]
          clear own hlen
          replace hb := bnext hb hb1
          clear hb1 cT
          go_wp2_with fail
          refine (len_any _ _).mono ?_
          rintro e w2 ⟨rfl, hb2⟩
          rw [show lenI 13 = 14 by decide]
          go_wp2_with fail
          go_roundw
          case rel => exact ⟨14, by decide, by decide, rfl, bnext hb hb2⟩
          case measure => simp [intOf]
        · have cT := (HBx.out _ hb).cell 14 _ rfl
          clear hneg hT0 hT1 hlt
          go_wp2_with (guard_target =~ wpList _ _ _ (⟨some 18, _, _, _, _, _⟩ :: _) _ _; refine wpList_build_type (op := ⟨some 18, .build _ _, _, _, _, _⟩) (by rfl) _ (by rfl) 14 (by rfl) ?_)
          refine (bodyPut_no _ [] (tyH 14) bd0 _ (Bytes.nil _) (by decide) (by decide)).mono ?_
          rintro e w1 ⟨v, rfl, own, hb1⟩
          have hv := own.bytes
          obtain ⟨p, cap, rfl, -, -, -⟩ := hv
          rw [List.length_nil]
          clear own
          replace hb := bnext hb hb1
          clear hb1 cT
          go_wp2_with fail
          refine (len_any _ _).mono ?_
          rintro e w2 ⟨rfl, hb2⟩
          rw [show lenI 14 = 0 by decide]
          go_wp2_with fail
          go_roundw
          case rel => exact ⟨15, by decide, by decide, rfl, bnext hb hb2⟩
          case measure => simp [intOf]
        · have cT := (HBx.out _ hb).cell 15 _ rfl
          clear hneg hT0 hT1 hlt
          go_wp2_with (guard_target =~ wpList _ _ _ (⟨some 18, _, _, _, _, _⟩ :: _) _ _; refine wpList_build_type (op := ⟨some 18, .build _ _, _, _, _, _⟩) (by rfl) _ (by rfl) 15 (by rfl) ?_)
          refine (bodyPut_no _ [] (tyH 15) bd0 _ (Bytes.nil _) (by decide) (by decide)).mono ?_
          rintro e w1 ⟨v, rfl, own, hb1⟩
          have hv := own.bytes
          obtain ⟨p, cap, rfl, -, -, -⟩ := hv
          rw [List.length_nil]
          clear own
          replace hb := bnext hb hb1
          clear hb1 cT
          go_wp2_with fail
          refine (len_any _ _).mono ?_
          rintro e w2 ⟨rfl, hb2⟩
          rw [show lenI 15 = 0 by decide]
          go_wp2_with fail
          go_roundw
          case rel => exact ⟨16, by decide, by decide, rfl, bnext hb hb2⟩
          case measure => simp [intOf]
    · go_wp2_with fail
      refine (awake07_any _).mono ?_
      rintro e w1 ⟨rfl, hb1⟩
      go_wp2_with fail
      go_ret
      exact ⟨rfl, bnext hbw (bnext hb hb1)⟩
end Go.Proofs.Ytpelgbcccgdlbaa