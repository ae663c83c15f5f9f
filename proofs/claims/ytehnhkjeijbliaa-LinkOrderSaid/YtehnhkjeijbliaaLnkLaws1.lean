/- carillonlaw25's awake, LinkOrder, from contracts (gen_lnklaws.py). -/
import Derived.Test.YtehnhkjeijbliaaLnk
import Derived.Test.YtehnhkjeijbliaaLib
namespace Go.Proofs.Ytehnhkjeijbliaa
open Go.RowKit Go.Proofs
set_option maxRecDepth 50000
set_option linter.unusedVariables false
set_option linter.unusedSimpArgs false

def abL : Lz := ⟨[(3, ⟨#[97, 98]⟩)], 0⟩
theorem abL_in : InLz abL := ⟨by decide, (by intro x hx; obtain rfl := List.mem_singleton.1 hx; show (2 : Nat) ≤ 400; decide), Int.le_refl 0, by show (0 : Int) ≤ 4611686018427387904; decide⟩
theorem abL_two : twiceE abL 0 = 0 ∧ twiceL abL 0 = ⟨[(3, ⟨#[97, 98]⟩), (3, ⟨#[97, 98]⟩)], 0⟩ := ⟨by decide, rfl⟩
theorem ab2_in : InLz ⟨[(3, ⟨#[97, 98]⟩), (3, ⟨#[97, 98]⟩)], 0⟩ := ⟨by show 2 ≤ 64; decide, (by
  intro x hx
  have hx2 : x = (3, ⟨#[97, 98]⟩) := by
    rcases List.mem_cons.1 hx with h | h
    · exact h
    · exact List.mem_singleton.1 h
  rw [hx2]; show (2 : Nat) ≤ 400; decide), Int.le_refl 0, by show (0 : Int) ≤ 4611686018427387904; decide⟩
/-- Numbered messages of one byte each. -/
def numF (j : Nat) : Int × ByteArray := ((j : Int), ⟨#[UInt8.ofNat j]⟩)
def ordL (n : Nat) : Lz := ⟨(List.range (min n 64)).map numF, ((n - 64 : Nat) : Int)⟩
def ordD (n i : Nat) : Lz := ⟨((List.range (min n 64)).map numF).drop i, ((n - 64 : Nat) : Int)⟩
theorem ordL_length (n : Nat) : (ordL n).q.length = min n 64 := by simp [ordL]
theorem numF_size (j : Nat) : (numF j).2.size = 1 := rfl
theorem ordL_in {n : Nat} (h : n ≤ 100) : InLz (ordL n) := ⟨by rw [ordL_length]; omega, (by
  intro x hx
  obtain ⟨j, -, rfl⟩ := List.mem_map.1 hx
  rw [numF_size]; decide), by show (0 : Int) ≤ ((n - 64 : Nat) : Int); omega, by show ((n - 64 : Nat) : Int) ≤ 4611686018427387904; omega⟩
theorem ordD_in {n : Nat} (h : n ≤ 100) (i : Nat) : InLz (ordD n i) := ⟨by show (((List.range (min n 64)).map numF).drop i).length ≤ 64; simp; omega, (by
  intro x hx
  obtain ⟨j, -, rfl⟩ := List.mem_map.1 (List.mem_of_mem_drop hx)
  rw [numF_size]; decide), by show (0 : Int) ≤ ((n - 64 : Nat) : Int); omega, by show ((n - 64 : Nat) : Int) ≤ 4611686018427387904; omega⟩
theorem ordL_put (n : Nat) : putE (ordL n) (numF n).2 = (if n < 64 then 0 else 7) ∧ putL' (ordL n) (n : Int) (numF n).2 = ordL (n + 1) := by
  unfold putE putL'
  rw [if_neg (show ¬ 400 < (numF n).2.size by rw [numF_size]; decide), if_neg (show ¬ 400 < (numF n).2.size by rw [numF_size]; decide), ordL_length]
  by_cases h : n < 64
  · have hA : ¬ 64 ≤ min n 64 := by omega
    rw [if_neg hA, if_neg hA, if_pos h]
    refine ⟨rfl, ?_⟩
    have e : min (n + 1) 64 = min n 64 + 1 := by omega
    have e2 : min n 64 = n := by omega
    unfold ordL
    rw [e, List.range_succ, List.map_append, e2]
    congr 1
    simp only [show n - 64 = 0 by omega, show n + 1 - 64 = 0 by omega]
  · have hA : 64 ≤ min n 64 := by omega
    rw [if_pos hA, if_pos hA, if_neg h]
    refine ⟨rfl, ?_⟩
    unfold ordL
    rw [show min (n + 1) 64 = min n 64 by omega]
    congr 1
    show ((n - 64 : Nat) : Int) + 1 = ((n + 1 - 64 : Nat) : Int)
    omega
theorem ordD_zero (n : Nat) : ordL n = ordD n 0 := rfl
theorem ordD_take {n i : Nat} (h : i < min n 64) : isL (ordD n i) 0 = true ∧ lookL (ordD n i) 0 = numF i ∧ takeL (ordD n i) 0 = ordD n (i + 1) := by
  have hl : i < ((List.range (min n 64)).map numF).length := by simp; omega
  have hd : ((List.range (min n 64)).map numF).drop i = numF i :: ((List.range (min n 64)).map numF).drop (i + 1) := by
    rw [List.drop_eq_getElem_cons hl]
    simp
  have h0 : 0 < (ordD n i).q.length := by show 0 < (((List.range (min n 64)).map numF).drop i).length; rw [hd]; simp
  have hi : isL (ordD n i) 0 = true := isL_yes (i := 0) h0
  refine ⟨hi, ?_, ?_⟩
  · unfold lookL
    rw [hi, if_pos rfl]
    show (((List.range (min n 64)).map numF).drop i).getD 0 nilF = _
    rw [hd]
    rfl
  · unfold takeL
    rw [hi, if_pos rfl]
    show (⟨(((List.range (min n 64)).map numF).drop i).eraseIdx 0, _⟩ : Lz) = _
    rw [hd]
    rfl
theorem ordD_end {n : Nat} : isL (ordD n (min n 64)) 0 = false ∧ lookL (ordD n (min n 64)) 0 = nilF := by
  have hd : (ordD n (min n 64)).q = [] := by show ((List.range (min n 64)).map numF).drop (min n 64) = []; rw [List.drop_eq_nil_iff]; simp
  have hi : isL (ordD n (min n 64)) 0 = false := by unfold isL; rw [hd]; rfl
  exact ⟨hi, by unfold lookL; rw [hi]; rfl⟩
theorem lit_u8 (c : UInt8) (w : World) : (Instr.buildSlice 27 1 #[(0, .int .u8 (c.toNat : Int))]).run Try.prog w = .ok (.slice (some ⟨w.heap.size, 0, none⟩) 1 1) (w.alloc (Obj.cells #[.int .u8 (c.toNat : Int)] 5)) := by kernel_rfl
theorem one_u8 (c : UInt8) (w : World) : Bytes (w.alloc (Obj.cells #[.int .u8 (c.toNat : Int)] 5)) (.slice (some ⟨w.heap.size, 0, none⟩) 1 1) [c] := by
  have hB := Box.new w [.int .u8 (c.toNat : Int)] 5
  refine ⟨_, 1, rfl, Nat.le_refl _, by unfold maxLen; omega, .inr ⟨w.heap.size, 0, rfl, hB.lt, fun i hi => ?_⟩⟩
  have hi0 : i = 0 := by simpa using hi
  subst hi0
  exact hB.cell 0 _ rfl
theorem wpList_litL {ops : Array Oper} {rest : List Oper} {op : Oper} {a : Act} {w : World} {Q : Exit → Act → World → Prop} (hw : Region.wanted op (yielded ops a.tmps) = true) (ty : TypeId) (n : Nat) (parts : Array (Nat × Operand)) (ho : op.op = .buildSlice ty n parts)
    (pv : Array (Nat × Value)) (hp : (parts.map fun (i, x) => (i, a.eval x)) = pv) (v : Value) (w' : World) (hr : (Instr.buildSlice ty n pv).run Try.prog w = .ok v w')
    (h : wpList Try.prog ops Q rest (a.put op.dst v) w') : wpList Try.prog ops Q (op :: rest) a w :=
  wpList_step fun K hK => by
    rw [if_pos hw]
    unfold Oper.wp execOp
    simp only [ho]
    rw [hp]
    simp only [Sem.run_bind, hr, Result.andThen_ok, Sem.run_pure]
    exact hK _ _ h

set_option maxRecDepth 100000 in
set_option maxHeartbeats 8000000 in
theorem awake25_from {O : Ob Lz} (HN : CNewL O) (HP : CPutL O) (HT : CTwcL O) (HLen : CLenL O) (HLo : CLostL O) (w : World) :
    Calls Try.prog 12 #[] w fun e w' => e = .returned (.bool true) ∧ Below w.heap.size w w' := by
  go_enter Try.func12, Try.ntmps12
  go_wp2_with fail
  refine (HN w).mono ?_
  rintro e w1 ⟨g, rfl, hL, hb⟩
  go_wp2_with fail
  refine (Ob.lift hL hb fun F hF => HP g F nilL 3 ⟨#[97, 98]⟩ _ hF nilL_in (by decide) (by show 2 ≤ 140737488355328; decide)).mono ?_
  rintro e w2 ⟨rfl, hL2, hb2⟩
  replace hL := hL2
  replace hb := hb2
  clear hL2 hb2
  rw [show putE nilL ⟨#[97, 98]⟩ = 0 from by decide]
  replace hL : O.At w.heap.size w2 g abL := hL
  go_wp2_with fail
  refine (Ob.lift hL hb fun F hF => HT g F abL 0 _ hF abL_in (by decide)).mono ?_
  rintro e w3 ⟨rfl, hL2, hb2⟩
  replace hL := hL2
  replace hb := hb2
  clear hL2 hb2
  rw [abL_two.1]
  rw [abL_two.2] at hL
  go_wp2_with fail
  obtain ⟨F, hFb, hFr⟩ := hL
  refine (HLen g F (⟨[(3, ⟨#[97, 98]⟩), (3, ⟨#[97, 98]⟩)], 0⟩) _ hFr ab2_in).mono ?_
  rintro e w4 ⟨rfl, bq⟩
  have hL : O.At w.heap.size w4 g (⟨[(3, ⟨#[97, 98]⟩), (3, ⟨#[97, 98]⟩)], 0⟩) := ⟨F, hFb, Ob.below hFr bq⟩
  replace hb := bnext hb bq
  clear bq hFb hFr
  go_wp2_with fail
  obtain ⟨F, hFb, hFr⟩ := hL
  refine (HLo g F (⟨[(3, ⟨#[97, 98]⟩), (3, ⟨#[97, 98]⟩)], 0⟩) _ hFr ab2_in).mono ?_
  rintro e w5 ⟨rfl, bq⟩
  have hL : O.At w.heap.size w5 g (⟨[(3, ⟨#[97, 98]⟩), (3, ⟨#[97, 98]⟩)], 0⟩) := ⟨F, hFb, Ob.below hFr bq⟩
  replace hb := bnext hb bq
  clear bq hFb hFr
  go_wp2_with fail
  go_ret
  exact ⟨rfl, hb⟩

set_option maxRecDepth 100000 in
set_option maxHeartbeats 8000000 in
theorem linkOrder_from {O : Ob Lz} (HN : CNewL O) (HP : CPutL O) (HT : CTwcL O) (HLen : CLenL O) (HLo : CLostL O) (HTk : CTakeL O) (n : Int) (w : World) :
    Calls Try.prog 3 #[.int .i64 n] w fun e w' => e = .returned (.bool true) ∧ Below w.heap.size w w' := by
  go_enter Try.func3, Try.ntmps3
  go_wp2_with fail
  refine (HN w).mono ?_
  rintro e w1 ⟨g, rfl, hL, hb⟩
  go_wp2_with fail
  refine (place_in n 100 _ (by decide) (by decide)).mono ?_
  rintro e w0 ⟨kI, rfl, hk0, hk1, -, rfl⟩
  obtain ⟨k, rfl⟩ := Int.eq_ofNat_of_zero_le hk0
  have hk : k < 100 := by omega
  clear hk0 hk1
  go_wp2_with fail
  go_loopw [5] (fun iv wr => ∃ i : Nat, i ≤ k ∧ iv = .int .i64 (i : Int) ∧ O.At w.heap.size wr g (ordL i) ∧ Below w.heap.size w wr) (fun iv _ => k - (intOf iv).toNat)
  case atStart => exact ⟨0, Nat.zero_le _, rfl, hL, hb⟩
  case round =>
    clear hL hb
    obtain ⟨i, hik, rfl, hL, hb⟩ := hrel
    by_cases hlt : i < k
    · skip
      have hltI : (i : Int) < (k : Int) := by omega
      have hi100 : i < 100 := by omega
      have hc8 : IntKind.u8.wrap (i : Int) = ((UInt8.ofNat i).toNat : Int) := by rw [UInt8.toNat_ofNat', IntKind.wrap_u8]; omega
      have z1 := bnew wr (Obj.cells #[.int .u8 ((UInt8.ofNat i).toNat : Int)] 5)
      have hlit := lit_u8 (UInt8.ofNat i) wr
      have hby := (one_u8 (UInt8.ofNat i) wr).str
      generalize wr.alloc (Obj.cells #[.int .u8 ((UInt8.ofNat i).toNat : Int)] 5) = W2 at *
      go_upto_region 8 with fail
      go_wp2_with (guard_target =~ wpList _ _ _ (⟨some 28, _, _, _, _, _⟩ :: _) _ _; refine @wpList_litL _ _ ⟨some 28, .buildSlice 27 1 #[(0, .tmp 27)], _, _, _, _⟩ _ _ _ (by rfl) 27 1 _ (by rfl) #[(0, .int .u8 ((UInt8.ofNat i).toNat : Int))] (by kernel_rfl) _ _ hlit ?_)
      replace hL := hL.below z1
      replace hb := bnext hb z1
      clear z1 hlit hby
      refine (Ob.lift hL hb fun F hF => HP g F (ordL i) (i : Int) (numF i).2 _ hF (ordL_in (by omega)) (by omega) (by rw [numF_size]; decide)).mono ?_
      rintro e w21 ⟨rfl, hL2, hb2⟩
      replace hL := hL2
      replace hb := hb2
      clear hL2 hb2
      obtain ⟨e1, e2⟩ := ordL_put i
      rw [e2] at hL
      rw [e1]
      clear e1 e2
      by_cases h64 : i < 64
      · rw [if_pos h64]
        have h64I : (i : Int) < 64 := by omega
        go_wp2_with fail
        go_roundw
        case rel => exact ⟨i + 1, by omega, by go_num, hL, hb⟩
        case measure => (simp [intOf] <;> omega)
      · rw [if_neg h64]
        have h64I : ¬ (i : Int) < 64 := by omega
        go_wp2_with fail
        go_roundw
        case rel => exact ⟨i + 1, by omega, by go_num, hL, hb⟩
        case measure => (simp [intOf] <;> omega)
    · obtain rfl : k = i := by omega
      have hltI : ¬ (k : Int) < (k : Int) := by omega
      by_cases h64 : k ≤ 64
      · have h64I : (k : Int) ≤ 64 := by omega
        have wa : IntKind.i64.wrap ((k : Int) - 64) = (k : Int) - 64 := by rw [IntKind.wrap_i64]; omega
        have h64J : ((k : Int) - 64) ≤ 0 := by omega
        have hM : min k 64 = k := by omega
        have hin := ordL_in (n := k) (by omega)
        go_wp2_with fail
        obtain ⟨F, hFb, hFr⟩ := hL
        refine (HLen g F (ordL k) _ hFr hin).mono ?_
        rintro e w41 ⟨rfl, bq⟩
        have hL : O.At w.heap.size w41 g (ordL k) := ⟨F, hFb, Ob.below hFr bq⟩
        replace hb := bnext hb bq
        clear bq hFb hFr
        rw [ordL_length, hM]
        all_goals go_wp2_with fail
        all_goals try omega
        obtain ⟨F, hFb, hFr⟩ := hL
        refine (HLo g F (ordL k) _ hFr hin).mono ?_
        rintro e w42 ⟨rfl, bq⟩
        have hL : O.At w.heap.size w42 g (ordL k) := ⟨F, hFb, Ob.below hFr bq⟩
        replace hb := bnext hb bq
        clear bq hFb hFr
        replace hL : O.At w.heap.size w42 g (ordD k 0) := hL
        have hlo : (ordL k).lost = ((k - 64 : Nat) : Int) := rfl
        rw [hlo, show ((k - 64 : Nat) : Int) = 0 by omega]
        clear hlo
        go_wp2_with fail
        all_goals try omega
        go_loopw [7] (fun iv wr => ∃ i : Nat, i ≤ k ∧ iv = .int .i64 (i : Int) ∧ O.At w.heap.size wr g (ordD k i) ∧ Below w.heap.size w wr) (fun iv _ => k - (intOf iv).toNat)
        case atStart => exact ⟨0, Nat.zero_le _, rfl, hL, hb⟩
        case round =>
          clear hL hb
          obtain ⟨i, hiM, rfl, hL, hb⟩ := hrel
          by_cases hlt : i < k
          · skip
            have hltI : (i : Int) < (k : Int) := by omega
            have hi64 : i < 64 := by omega
            have hj0 : (0 : Int) ≤ (i : Int) := by omega
            go_wp2_with fail
            all_goals try omega
            refine (Ob.lift hL hb fun F hF => HTk g F (ordD k i) 0 _ hF (ordD_in (by omega) i) (by decide)).mono ?_
            rintro e w61 ⟨rfl, hL2, hb2⟩
            replace hL := hL2
            replace hb := hb2
            clear hL2 hb2
            obtain ⟨e1, e2, e3⟩ := ordD_take (n := k) (i := i) (by omega)
            rw [e3] at hL
            rw [e1, e2]
            clear e1 e2 e3
            rw [show (numF i).1 = (i : Int) from rfl, show (numF i).2 = ⟨#[UInt8.ofNat i]⟩ from rfl]
            have hc8 : IntKind.u8.wrap (i : Int) = ((UInt8.ofNat i).toNat : Int) := by rw [UInt8.toNat_ofNat', IntKind.wrap_u8]; omega
            have z1 := bnew w61 (Obj.cells #[.int .u8 ((UInt8.ofNat i).toNat : Int)] 5)
            have hlit := lit_u8 (UInt8.ofNat i) w61
            have hby := (one_u8 (UInt8.ofNat i) w61).str
            generalize w61.alloc (Obj.cells #[.int .u8 ((UInt8.ofNat i).toNat : Int)] 5) = W9 at *
            go_wp2_with (guard_target =~ wpList _ _ _ (⟨some 80, _, _, _, _, _⟩ :: _) _ _; refine @wpList_litL _ _ ⟨some 80, .buildSlice 27 1 #[(0, .tmp 79)], _, _, _, _⟩ _ _ _ (by rfl) 27 1 _ (by rfl) #[(0, .int .u8 ((UInt8.ofNat i).toNat : Int))] (by kernel_rfl) _ _ hlit ?_)
            replace hL := hL.below z1
            replace hb := bnext hb z1
            go_roundw
            case rel => exact ⟨i + 1, by omega, by go_num, hL, hb⟩
            case measure => (simp [intOf] <;> omega)
          · obtain rfl : k = i := by omega
            have hltI : ¬ ((k : Nat) : Int) < (k : Int) := by omega
            go_wp2_with fail
            all_goals try omega
            refine (Ob.lift hL hb fun F hF => HTk g F (ordD k k) 0 _ hF (ordD_in (by omega) _) (by decide)).mono ?_
            rintro e w81 ⟨rfl, hL2, hb2⟩
            replace hL := hL2
            replace hb := hb2
            clear hL2 hb2
            obtain ⟨e1, e2⟩ := ordD_end (n := k)
            rw [hM] at e1 e2
            rw [e1, e2]
            clear e1 e2 hL
            go_wp2_with fail
            refine (awake25_from HN HP HT HLen HLo _).mono ?_
            rintro e wz ⟨rfl, bz⟩
            go_wp2_with fail
            go_ret
            exact ⟨rfl, bnext hb bz⟩
      · have h64I : ¬ (k : Int) ≤ 64 := by omega
        have h64K : 64 < (k : Int) := by omega
        have wa : IntKind.i64.wrap ((k : Int) - 64) = (k : Int) - 64 := by rw [IntKind.wrap_i64]; omega
        have h64J : ¬ ((k : Int) - 64) ≤ 0 := by omega
        have hM : min k 64 = 64 := by omega
        have hin := ordL_in (n := k) (by omega)
        go_wp2_with fail
        obtain ⟨F, hFb, hFr⟩ := hL
        refine (HLen g F (ordL k) _ hFr hin).mono ?_
        rintro e w41 ⟨rfl, bq⟩
        have hL : O.At w.heap.size w41 g (ordL k) := ⟨F, hFb, Ob.below hFr bq⟩
        replace hb := bnext hb bq
        clear bq hFb hFr
        rw [ordL_length, hM]
        all_goals go_wp2_with fail
        all_goals try omega
        obtain ⟨F, hFb, hFr⟩ := hL
        refine (HLo g F (ordL k) _ hFr hin).mono ?_
        rintro e w42 ⟨rfl, bq⟩
        have hL : O.At w.heap.size w42 g (ordL k) := ⟨F, hFb, Ob.below hFr bq⟩
        replace hb := bnext hb bq
        clear bq hFb hFr
        replace hL : O.At w.heap.size w42 g (ordD k 0) := hL
        have hlo : (ordL k).lost = ((k - 64 : Nat) : Int) := rfl
        rw [hlo, show ((k - 64 : Nat) : Int) = (k : Int) - 64 by omega]
        clear hlo
        go_wp2_with fail
        all_goals try omega
        go_loopw [7] (fun iv wr => ∃ i : Nat, i ≤ 64 ∧ iv = .int .i64 (i : Int) ∧ O.At w.heap.size wr g (ordD k i) ∧ Below w.heap.size w wr) (fun iv _ => 64 - (intOf iv).toNat)
        case atStart => exact ⟨0, Nat.zero_le _, rfl, hL, hb⟩
        case round =>
          clear hL hb
          obtain ⟨i, hiM, rfl, hL, hb⟩ := hrel
          by_cases hlt : i < 64
          · skip
            have hltI : (i : Int) < (64 : Int) := by omega
            have hi64 : i < 64 := by omega
            have hj0 : (0 : Int) ≤ (i : Int) := by omega
            go_wp2_with fail
            all_goals try omega
            refine (Ob.lift hL hb fun F hF => HTk g F (ordD k i) 0 _ hF (ordD_in (by omega) i) (by decide)).mono ?_
            rintro e w61 ⟨rfl, hL2, hb2⟩
            replace hL := hL2
            replace hb := hb2
            clear hL2 hb2
            obtain ⟨e1, e2, e3⟩ := ordD_take (n := k) (i := i) (by omega)
            rw [e3] at hL
            rw [e1, e2]
            clear e1 e2 e3
            rw [show (numF i).1 = (i : Int) from rfl, show (numF i).2 = ⟨#[UInt8.ofNat i]⟩ from rfl]
            have hc8 : IntKind.u8.wrap (i : Int) = ((UInt8.ofNat i).toNat : Int) := by rw [UInt8.toNat_ofNat', IntKind.wrap_u8]; omega
            have z1 := bnew w61 (Obj.cells #[.int .u8 ((UInt8.ofNat i).toNat : Int)] 5)
            have hlit := lit_u8 (UInt8.ofNat i) w61
            have hby := (one_u8 (UInt8.ofNat i) w61).str
            generalize w61.alloc (Obj.cells #[.int .u8 ((UInt8.ofNat i).toNat : Int)] 5) = W9 at *
            go_wp2_with (guard_target =~ wpList _ _ _ (⟨some 80, _, _, _, _, _⟩ :: _) _ _; refine @wpList_litL _ _ ⟨some 80, .buildSlice 27 1 #[(0, .tmp 79)], _, _, _, _⟩ _ _ _ (by rfl) 27 1 _ (by rfl) #[(0, .int .u8 ((UInt8.ofNat i).toNat : Int))] (by kernel_rfl) _ _ hlit ?_)
            replace hL := hL.below z1
            replace hb := bnext hb z1
            go_roundw
            case rel => exact ⟨i + 1, by omega, by go_num, hL, hb⟩
            case measure => (simp [intOf] <;> omega)
          · obtain rfl : i = 64 := by omega
            have hltI : ¬ ((64 : Nat) : Int) < (64 : Int) := by omega
            go_wp2_with fail
            all_goals try omega
            refine (Ob.lift hL hb fun F hF => HTk g F (ordD k 64) 0 _ hF (ordD_in (by omega) _) (by decide)).mono ?_
            rintro e w81 ⟨rfl, hL2, hb2⟩
            replace hL := hL2
            replace hb := hb2
            clear hL2 hb2
            obtain ⟨e1, e2⟩ := ordD_end (n := k)
            rw [hM] at e1 e2
            rw [e1, e2]
            clear e1 e2 hL
            go_wp2_with fail
            refine (awake25_from HN HP HT HLen HLo _).mono ?_
            rintro e wz ⟨rfl, bz⟩
            go_wp2_with fail
            go_ret
            exact ⟨rfl, bnext hb bz⟩

end Go.Proofs.Ytehnhkjeijbliaa
