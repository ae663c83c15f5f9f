/- The program's own answers to questions: Known, PerPort, refused, each (gen_mgmown.py). -/
import Derived.Test.YtgjffmhlehcoiaaMgmOwn
import Derived.Test.YtgjffmhlehcoiaaOctb
namespace Go.Proofs.Ytgjffmhlehcoiaa
open Go.RowKit Go.Proofs
set_option maxRecDepth 50000
set_option linter.unusedVariables false
set_option linter.unusedSimpArgs false

def szI (id : Int) : Int := if id = 0 ∨ id = 8205 ∨ id = 8206 then 0 else 2
def refI (a id n : Int) : Int :=
  if sizeI id < 0 then 2 else if a ≠ 0 ∧ a ≠ 1 ∧ a ≠ 3 then 6 else if a = 3 ∧ id ≠ 0 ∧ cmdB id = false then 6 else if a ≠ 3 ∧ cmdB id = true then 6 else if a = 0 then 0
  else if a = 1 ∧ fixB id = true then 5 else if n ≠ sizeI id then 3 else 0
theorem rg_cases (id : Int) : (rgI id = ⟨false, false, false⟩ ∧ sizeI id < 0) ∨ (rgI id = ⟨true, true, true⟩ ∧ sizeI id = szI id ∧ cmdB id = false ∧ fixB id = false ∧ id = 0) ∨ (rgI id = ⟨true, true, false⟩ ∧ sizeI id = szI id ∧ cmdB id = false ∧ fixB id = false ∧ id ≠ 0) ∨ (rgI id = ⟨true, false, false⟩ ∧ 0 ≤ sizeI id ∧ cmdB id = false ∧ fixB id = true ∧ id ≠ 0) ∨ (rgI id = ⟨false, false, true⟩ ∧ sizeI id = szI id ∧ cmdB id = true ∧ fixB id = false ∧ id ≠ 0) := by
  by_cases h0 : id = 0
  · subst h0
    exact .inr (.inl (by decide))
  by_cases h5 : id = 5
  · subst h5
    exact .inr (.inr (.inr (.inr ((by decide)))))
  by_cases h8192 : id = 8192
  · subst h8192
    exact .inr (.inr (.inr (.inl (by decide))))
  by_cases h8193 : id = 8193
  · subst h8193
    exact .inr (.inr (.inr (.inl (by decide))))
  by_cases h8194 : id = 8194
  · subst h8194
    exact .inr (.inr (.inr (.inl (by decide))))
  by_cases h8195 : id = 8195
  · subst h8195
    exact .inr (.inr (.inr (.inl (by decide))))
  by_cases h8196 : id = 8196
  · subst h8196
    exact .inr (.inr (.inr (.inl (by decide))))
  by_cases h8197 : id = 8197
  · subst h8197
    exact .inr (.inr (.inl (by decide)))
  by_cases h8198 : id = 8198
  · subst h8198
    exact .inr (.inr (.inl (by decide)))
  by_cases h8199 : id = 8199
  · subst h8199
    exact .inr (.inr (.inl (by decide)))
  by_cases h8200 : id = 8200
  · subst h8200
    exact .inr (.inr (.inl (by decide)))
  by_cases h8201 : id = 8201
  · subst h8201
    exact .inr (.inr (.inl (by decide)))
  by_cases h8202 : id = 8202
  · subst h8202
    exact .inr (.inr (.inl (by decide)))
  by_cases h8203 : id = 8203
  · subst h8203
    exact .inr (.inr (.inl (by decide)))
  by_cases h8204 : id = 8204
  · subst h8204
    exact .inr (.inr (.inr (.inl (by decide))))
  by_cases h8205 : id = 8205
  · subst h8205
    exact .inr (.inr (.inr (.inr ((by decide)))))
  by_cases h8206 : id = 8206
  · subst h8206
    exact .inr (.inr (.inr (.inr ((by decide)))))
  by_cases h8207 : id = 8207
  · subst h8207
    exact .inr (.inr (.inr (.inl (by decide))))
  by_cases h8208 : id = 8208
  · subst h8208
    exact .inr (.inr (.inl (by decide)))
  refine .inl ?_
  have hs : sizeI id = -1 := by unfold sizeI; simp only [h0, h5, h8192, h8193, h8194, h8195, h8196, h8197, h8198, h8199, h8200, h8201, h8202, h8203, h8204, h8205, h8206, h8207, h8208, if_false, false_or, or_false]; rw [if_neg (by omega)]
  refine ⟨?_, by omega⟩
  unfold rgI getB2 setB cmdB
  rw [hs]
  simp [h0, h5, h8192, h8193, h8194, h8195, h8196, h8197, h8198, h8199, h8200, h8201, h8202, h8203, h8204, h8205, h8206, h8207, h8208]

set_option maxRecDepth 100000 in
set_option maxHeartbeats 8000000 in
theorem known_own (id : Int) (w : World) : Calls Try.prog 13 #[.int .i64 id] w fun e w' => e = .returned (.bool (knownI id)) ∧ Below w.heap.size w w' := by
  rcases rg_cases id with ⟨h, hs⟩ | ⟨h, hs, -⟩ | ⟨h, hs, -⟩ | ⟨h, hs, -⟩ | ⟨h, hs, -⟩
  · have hk : knownI id = false := by unfold knownI; exact decide_eq_false (by omega)
    rw [hk]
    clear hk hs
    have HR := hid (rights_any id)
    rw [h] at HR
    clear h
    go_enter Try.func13, Try.ntmps13
    go_wp2_with fail
    refine (HR.out _).mono ?_
    rintro e w1 ⟨he, bq⟩
    replace he : e = .returned (.agg #[.bool false, .bool false, .bool false]) := he
    subst he
    clear HR
    go_wp2_with fail
    go_ret
    exact ⟨rfl, bq⟩
  · have hk : knownI id = true := by unfold knownI; exact decide_eq_true (by unfold szI at hs; split at hs <;> omega)
    rw [hk]
    clear hk hs
    have HR := hid (rights_any id)
    rw [h] at HR
    clear h
    go_enter Try.func13, Try.ntmps13
    go_wp2_with fail
    refine (HR.out _).mono ?_
    rintro e w1 ⟨he, bq⟩
    replace he : e = .returned (.agg #[.bool true, .bool true, .bool true]) := he
    subst he
    clear HR
    go_wp2_with fail
    go_ret
    exact ⟨rfl, bq⟩
  · have hk : knownI id = true := by unfold knownI; exact decide_eq_true (by unfold szI at hs; split at hs <;> omega)
    rw [hk]
    clear hk hs
    have HR := hid (rights_any id)
    rw [h] at HR
    clear h
    go_enter Try.func13, Try.ntmps13
    go_wp2_with fail
    refine (HR.out _).mono ?_
    rintro e w1 ⟨he, bq⟩
    replace he : e = .returned (.agg #[.bool true, .bool true, .bool false]) := he
    subst he
    clear HR
    go_wp2_with fail
    go_ret
    exact ⟨rfl, bq⟩
  · have hk : knownI id = true := by unfold knownI; exact decide_eq_true (by omega)
    rw [hk]
    clear hk hs
    have HR := hid (rights_any id)
    rw [h] at HR
    clear h
    go_enter Try.func13, Try.ntmps13
    go_wp2_with fail
    refine (HR.out _).mono ?_
    rintro e w1 ⟨he, bq⟩
    replace he : e = .returned (.agg #[.bool true, .bool false, .bool false]) := he
    subst he
    clear HR
    go_wp2_with fail
    go_ret
    exact ⟨rfl, bq⟩
  · have hk : knownI id = true := by unfold knownI; exact decide_eq_true (by unfold szI at hs; split at hs <;> omega)
    rw [hk]
    clear hk hs
    have HR := hid (rights_any id)
    rw [h] at HR
    clear h
    go_enter Try.func13, Try.ntmps13
    go_wp2_with fail
    refine (HR.out _).mono ?_
    rintro e w1 ⟨he, bq⟩
    replace he : e = .returned (.agg #[.bool false, .bool false, .bool true]) := he
    subst he
    clear HR
    go_wp2_with fail
    go_ret
    exact ⟨rfl, bq⟩

set_option maxRecDepth 100000 in
set_option maxHeartbeats 8000000 in
theorem per_own (id : Int) (w : World) : Calls Try.prog 18 #[.int .i64 id] w fun e w' => e = .returned (.bool (perB id)) ∧ w' = w := by
  by_cases h8196 : id = 8196
  · subst h8196
    go_enter Try.func18, Try.ntmps18
    go_wp2_with fail
    go_ret
    exact ⟨rfl, rfl⟩
  have b8196 : (id == 8196) = false := beq_false_of_ne h8196
  by_cases h8205 : id = 8205
  · subst h8205
    go_enter Try.func18, Try.ntmps18
    go_wp2_with fail
    go_ret
    exact ⟨rfl, rfl⟩
  have b8205 : (id == 8205) = false := beq_false_of_ne h8205
  by_cases h8206 : id = 8206
  · subst h8206
    go_enter Try.func18, Try.ntmps18
    go_wp2_with fail
    go_ret
    exact ⟨rfl, rfl⟩
  have b8206 : (id == 8206) = false := beq_false_of_ne h8206
  rw [show perB id = false from by unfold perB; simp [h8196, h8205, h8206]]
  clear h8196 h8205 h8206
  go_enter Try.func18, Try.ntmps18
  go_wp2_with fail
  go_ret
  exact ⟨rfl, rfl⟩

set_option maxRecDepth 100000 in
set_option maxHeartbeats 8000000 in
theorem size_any (id : Int) (w : World) : Calls Try.prog 24 #[.int .i64 id] w fun e w' => e = .returned (.int .i64 (szI id)) ∧ w' = w := by
  by_cases h0 : id = 0
  · subst h0
    go_enter Try.func24, Try.ntmps24
    go_wp2_with fail
    go_ret
    exact ⟨rfl, rfl⟩
  have b0 : (id == 0) = false := beq_false_of_ne h0
  by_cases h8205 : id = 8205
  · subst h8205
    go_enter Try.func24, Try.ntmps24
    go_wp2_with fail
    go_ret
    exact ⟨rfl, rfl⟩
  have b8205 : (id == 8205) = false := beq_false_of_ne h8205
  by_cases h8206 : id = 8206
  · subst h8206
    go_enter Try.func24, Try.ntmps24
    go_wp2_with fail
    go_ret
    exact ⟨rfl, rfl⟩
  have b8206 : (id == 8206) = false := beq_false_of_ne h8206
  rw [show szI id = 2 from by unfold szI; simp [h0, h8205, h8206]]
  clear h0 h8205 h8206
  go_enter Try.func24, Try.ntmps24
  go_wp2_with fail
  go_ret
  exact ⟨rfl, rfl⟩

set_option maxRecDepth 100000 in
set_option maxHeartbeats 8000000 in
theorem bit_any (b : Bool) (w : World) : Calls Try.prog 39 #[.bool b] w fun e w' => e = .returned (.int .i64 (bitI b)) ∧ w' = w := by
  cases b
  · go_enter Try.func39, Try.ntmps39
    go_wp2_with fail
    go_ret
    exact ⟨rfl, rfl⟩
  · go_enter Try.func39, Try.ntmps39
    go_wp2_with fail
    go_ret
    exact ⟨rfl, rfl⟩

set_option maxRecDepth 100000 in
set_option maxHeartbeats 8000000 in
theorem scaled_any (x : Int) (w : World) : Calls Try.prog 47 #[.int .i64 x] w fun e w' => e = .returned (.int .i64 (satI x)) ∧ w' = w := by
  by_cases h1 : 140737488355327 < x
  · rw [show satI x = 9223372036854775807 from if_pos h1]
    go_enter Try.func47, Try.ntmps47
    go_wp2_with fail
    go_ret
    exact ⟨rfl, rfl⟩
  by_cases h2 : x < -140737488355328
  · rw [show satI x = -9223372036854775808 from by unfold satI; rw [if_neg h1, if_pos h2]]
    go_enter Try.func47, Try.ntmps47
    go_wp2_with fail
    go_ret
    exact ⟨rfl, rfl⟩
  rw [show satI x = x * 65536 from by unfold satI; rw [if_neg h1, if_neg h2]]
  have hw : IntKind.i64.wrap (x * 65536) = x * 65536 := by rw [IntKind.wrap_i64]; omega
  go_enter Try.func47, Try.ntmps47
  go_wp2_with fail
  go_ret
  exact ⟨rfl, rfl⟩

def eachS : List Int → List UInt8
  | [] => []
  | z :: t => putS z 1 ++ eachS t
theorem cell_new (w : World) (cs : Array Value) (t : TypeId) (i : Nat) (v : Value) (h : cs[i]? = some v) : (w.alloc (Obj.cells cs t)).cell? ⟨w.heap.size, i, none⟩ = some v := by
  simp only [World.cell?]
  rw [heap_alloc_new]
  exact h
theorem eachS_one (z : Int) : eachS [z] = putS z 1 := List.append_nil _
theorem eachS_app (l m : List Int) : eachS (l ++ m) = eachS l ++ eachS m := by
  induction l with
  | nil => rfl
  | cons a t ih => simp only [List.cons_append, eachS, ih, List.append_assoc]
theorem eachS_len (l : List Int) : (eachS l).length = l.length := by
  induction l with
  | nil => rfl
  | cons a t ih => simp only [eachS, List.length_append, ih, putS_length a 1 (by decide) (by decide), List.length_cons]; omega
theorem eachS_take (l : List Int) (k : Nat) (hk : k < l.length) : eachS (l.take (k + 1)) = eachS (l.take k) ++ putS l[k] 1 := by
  rw [List.take_succ_eq_append_getElem hk, eachS_app, eachS_one]
set_option maxRecDepth 100000 in
set_option maxHeartbeats 8000000 in
theorem each_any (v vs : Value) (l : List UInt8) (zs : List Int) (w : World) (hB : Bytes w v l) (hI : Ints w vs zs) (hl : l.length + zs.length ≤ 140737488355232) (hz : zs ≠ []) :
    Calls Try.prog 38 #[v, vs] w (NewBytes w (l ++ eachS zs)) := by
  have HB := hid fun (w' : World) (h : Below w.heap.size w w') => hB.below h
  obtain ⟨p, cap, rfl, hcap, hmax, hat⟩ := hI
  have HAT := hid fun (w' : World) (h : Below w.heap.size w w') (hp : 0 < zs.length) => (hat.below h).pos hp
  have HT := hid (eachS_take zs)
  have HL := hid (eachS_len)
  have HZ := hid hz
  unfold maxLen at hmax
  have H0 := hid hB
  clear hat hB hz
  go_enter Try.func38, Try.ntmps38
  go_wp2_with fail
  go_loopw [0, 9] (fun bv iv wr => ∃ k : Nat, k ≤ zs.length ∧ iv = .int .i64 (k : Int) ∧ Bytes wr bv (l ++ eachS (zs.take k)) ∧ (0 < k → Own wr w.heap.size bv (l ++ eachS (zs.take k))) ∧ Below w.heap.size w wr) (fun _ iv _ => zs.length - (intOf iv).toNat)
  case atStart => exact ⟨0, Nat.zero_le _, rfl, by rw [List.take_zero]; exact (List.append_nil l).symm ▸ H0.out, fun h => absurd h (by omega), Below.refl _ _⟩
  case round =>
    obtain ⟨k, hk, rfl, hY, hO, hb⟩ := hrel
    by_cases hlt : k < zs.length
    · obtain ⟨b, off, rfl, hbl, hc⟩ := HAT.out _ hb (by omega)
      have hcell := hc k hlt
      have hT := hid (HT.out k hlt)
      clear hc hO
      have hlen : (l ++ eachS (zs.take k)).length ≤ 140737488355232 := by rw [List.length_append, HL.out, List.length_take]; omega
      have hY2 := hid hY
      have hlen2 := hid hlen
      generalize zs[k] = z at *
      clear hY hlen
      go_wp2_with fail
      refine (put_any _ _ z 1 _ hY2.out (by have := hlen2.out; omega)).mono ?_
      rintro e w1 ⟨v1, rfl, own, bq⟩
      have e1 : l ++ eachS (zs.take k) ++ putS z 1 = l ++ eachS (zs.take (k + 1)) := by rw [hT.out, List.append_assoc]
      rw [e1] at own
      have own2 := own.mono (Nat.le_trans hb.size (Nat.le_refl _))
      have hby := own.bytes
      have hb2 := bnext hb bq
      clear own bq hb e1 hcell
      go_wp2_with fail
      go_roundw
      case rel => exact ⟨k + 1, by omega, by go_num, hby, fun _ => own2, hb2⟩
      case measure => simp [intOf]; omega
    · obtain rfl : k = zs.length := by omega
      have hO2 := hO (List.length_pos_iff.2 HZ.out)
      rw [List.take_length] at hO2
      clear hO hY
      go_wp2_with fail
      go_ret
      exact ⟨_, rfl, hO2, hb⟩

set_option maxRecDepth 100000 in
set_option maxHeartbeats 8000000 in
theorem each_1 (v : Value) (l : List UInt8) (x0 : Int) (w : World) (hB : Bytes w v l) (hl : l.length ≤ 1000) :
    Calls Try.prog 38 #[v, .slice (some ⟨w.heap.size, 0, none⟩) 1 1] (w.alloc (Obj.cells #[.int .i64 x0] 3)) (NewBytes w (l ++ eachS [x0])) := by
  have z := bnew w (Obj.cells #[.int .i64 x0] 3)
  refine (each_any v _ l [x0] _ (hB.below z) ⟨_, 1, rfl, Nat.le_refl _, by simp [maxLen], .inr ⟨w.heap.size, 0, rfl, by simp, fun i hi => ?_⟩⟩ (by simp only [List.length_cons, List.length_nil]; omega) (by simp)).mono ?_
  · rw [Nat.zero_add]
    match i, hi with
    | 0, _ => exact cell_new w _ _ 0 _ rfl
  · rintro e w' ⟨x, rfl, own, b⟩
    exact ⟨x, rfl, own.mono (by simp), bnext z b⟩
set_option maxRecDepth 100000 in
set_option maxHeartbeats 8000000 in
theorem each_2 (v : Value) (l : List UInt8) (x0 x1 : Int) (w : World) (hB : Bytes w v l) (hl : l.length ≤ 1000) :
    Calls Try.prog 38 #[v, .slice (some ⟨w.heap.size, 0, none⟩) 2 2] (w.alloc (Obj.cells #[.int .i64 x0, .int .i64 x1] 3)) (NewBytes w (l ++ eachS [x0, x1])) := by
  have z := bnew w (Obj.cells #[.int .i64 x0, .int .i64 x1] 3)
  refine (each_any v _ l [x0, x1] _ (hB.below z) ⟨_, 2, rfl, Nat.le_refl _, by simp [maxLen], .inr ⟨w.heap.size, 0, rfl, by simp, fun i hi => ?_⟩⟩ (by simp only [List.length_cons, List.length_nil]; omega) (by simp)).mono ?_
  · rw [Nat.zero_add]
    match i, hi with
    | 0, _ => exact cell_new w _ _ 0 _ rfl
    | 1, _ => exact cell_new w _ _ 1 _ rfl
  · rintro e w' ⟨x, rfl, own, b⟩
    exact ⟨x, rfl, own.mono (by simp), bnext z b⟩
set_option maxRecDepth 100000 in
set_option maxHeartbeats 8000000 in
theorem each_6 (v : Value) (l : List UInt8) (x0 x1 x2 x3 x4 x5 : Int) (w : World) (hB : Bytes w v l) (hl : l.length ≤ 1000) :
    Calls Try.prog 38 #[v, .slice (some ⟨w.heap.size, 0, none⟩) 6 6] (w.alloc (Obj.cells #[.int .i64 x0, .int .i64 x1, .int .i64 x2, .int .i64 x3, .int .i64 x4, .int .i64 x5] 3)) (NewBytes w (l ++ eachS [x0, x1, x2, x3, x4, x5])) := by
  have z := bnew w (Obj.cells #[.int .i64 x0, .int .i64 x1, .int .i64 x2, .int .i64 x3, .int .i64 x4, .int .i64 x5] 3)
  refine (each_any v _ l [x0, x1, x2, x3, x4, x5] _ (hB.below z) ⟨_, 6, rfl, Nat.le_refl _, by simp [maxLen], .inr ⟨w.heap.size, 0, rfl, by simp, fun i hi => ?_⟩⟩ (by simp only [List.length_cons, List.length_nil]; omega) (by simp)).mono ?_
  · rw [Nat.zero_add]
    match i, hi with
    | 0, _ => exact cell_new w _ _ 0 _ rfl
    | 1, _ => exact cell_new w _ _ 1 _ rfl
    | 2, _ => exact cell_new w _ _ 2 _ rfl
    | 3, _ => exact cell_new w _ _ 3 _ rfl
    | 4, _ => exact cell_new w _ _ 4 _ rfl
    | 5, _ => exact cell_new w _ _ 5 _ rfl
  · rintro e w' ⟨x, rfl, own, b⟩
    exact ⟨x, rfl, own.mono (by simp), bnext z b⟩
set_option maxRecDepth 100000 in
set_option maxHeartbeats 8000000 in
theorem each_8 (v : Value) (l : List UInt8) (x0 x1 x2 x3 x4 x5 x6 x7 : Int) (w : World) (hB : Bytes w v l) (hl : l.length ≤ 1000) :
    Calls Try.prog 38 #[v, .slice (some ⟨w.heap.size, 0, none⟩) 8 8] (w.alloc (Obj.cells #[.int .i64 x0, .int .i64 x1, .int .i64 x2, .int .i64 x3, .int .i64 x4, .int .i64 x5, .int .i64 x6, .int .i64 x7] 3)) (NewBytes w (l ++ eachS [x0, x1, x2, x3, x4, x5, x6, x7])) := by
  have z := bnew w (Obj.cells #[.int .i64 x0, .int .i64 x1, .int .i64 x2, .int .i64 x3, .int .i64 x4, .int .i64 x5, .int .i64 x6, .int .i64 x7] 3)
  refine (each_any v _ l [x0, x1, x2, x3, x4, x5, x6, x7] _ (hB.below z) ⟨_, 8, rfl, Nat.le_refl _, by simp [maxLen], .inr ⟨w.heap.size, 0, rfl, by simp, fun i hi => ?_⟩⟩ (by simp only [List.length_cons, List.length_nil]; omega) (by simp)).mono ?_
  · rw [Nat.zero_add]
    match i, hi with
    | 0, _ => exact cell_new w _ _ 0 _ rfl
    | 1, _ => exact cell_new w _ _ 1 _ rfl
    | 2, _ => exact cell_new w _ _ 2 _ rfl
    | 3, _ => exact cell_new w _ _ 3 _ rfl
    | 4, _ => exact cell_new w _ _ 4 _ rfl
    | 5, _ => exact cell_new w _ _ 5 _ rfl
    | 6, _ => exact cell_new w _ _ 6 _ rfl
    | 7, _ => exact cell_new w _ _ 7 _ rfl
  · rintro e w' ⟨x, rfl, own, b⟩
    exact ⟨x, rfl, own.mono (by simp), bnext z b⟩
set_option maxRecDepth 100000 in
set_option maxHeartbeats 8000000 in
theorem refused_any (a id : Int) (data : List UInt8) (w : World) : Calls Try.prog 19 #[.int .i64 a, .int .i64 id, .string ⟨data.toArray⟩] w fun e w' => e = .returned (.int .i64 (refI a id data.length)) ∧ Below w.heap.size w w' := by
  have HR := hid (rights_any id)
  obtain ⟨n, hn0⟩ : ∃ n : Int, (data.length : Int) = n := ⟨_, rfl⟩
  rw [hn0]
  rcases rg_cases id with ⟨h, hk⟩ | ⟨h, hsz, hcm, hfx, hid0⟩ | ⟨h, hsz, hcm, hfx, hid0⟩ | ⟨h, hsz, hcm, hfx, hid0⟩ | ⟨h, hsz, hcm, hfx, hid0⟩
  · rw [h] at HR
    by_cases ha0 : a = 0
    · subst ha0
      have e1 : refI 0 id n = 2 := by
        unfold refI
        simp [hk]
        try omega
      rw [e1]
      clear e1
      clear h hk
      go_enter Try.func19, Try.ntmps19
      go_wp2_with fail
      refine (HR.out _).mono ?_
      rintro e w1 ⟨rfl, hb⟩
      clear HR
      have hn1 := bnew w1 (Obj.cells (rgK.enc (rg0)).toArray 60)
      have hM0 := Box.new w1 (rgK.enc (rg0)) 60
      go_upto_region 2 with (guard_target =~ wpList _ _ _ (⟨none, _, _, _, _, _⟩ :: _) _ _; refine rgT.store (op := ⟨none, .store _ _ _, _, _, _, _⟩) (by rfl) _ _ (by rfl) (w1.heap.size) ((⟨false, false, false⟩ : Rg)) (rg0) _ (by rfl) (by rfl) hM0 ?_)
      have l_B : w.heap.size ≤ w1.heap.size := Nat.le_trans hb.size (Nat.le_refl w1.heap.size)
      have B := hM0.rowK (rgK.enc ((⟨false, false, false⟩ : Rg)))
      have hW := below_setRow hn1 (Nat.le_refl _) (rgK.enc ((⟨false, false, false⟩ : Rg))).toArray
      replace hb := bnext hb hW
      change Code.wp Try.prog _ _ _ ((w1.alloc (Obj.cells (rgK.enc (rg0)).toArray 60)).setRow w1.heap.size (rgK.enc ((⟨false, false, false⟩ : Rg))).toArray)
      generalize (w1.alloc (Obj.cells (rgK.enc (rg0)).toArray 60)).setRow w1.heap.size (rgK.enc ((⟨false, false, false⟩ : Rg))).toArray = w1 at *
      clear hn1 hM0 hW
      generalize w1.heap.size = GB at *
      have c0 := B.cell 0 _ rfl
      have c1 := B.cell 1 _ rfl
      have c2 := B.cell 2 _ rfl
      clear l_B
      go_wp2_with (guard_target =~ wpList _ _ _ (⟨some 11, _, _, _, _, _⟩ :: _) _ _; refine rgT.load (op := ⟨some 11, .load _ _, _, _, _, _⟩) (by rfl) _ (by rfl) GB 0 (by rfl) ((⟨false, false, false⟩ : Rg)) B.rangeK ?_)
      go_ret
      exact ⟨rfl, hb⟩
    have ba0 : (a == 0) = false := beq_false_of_ne ha0
    by_cases ha1 : a = 1
    · subst ha1
      have e1 : refI 1 id n = 2 := by
        unfold refI
        simp [hk]
        try omega
      rw [e1]
      clear e1
      clear h hk
      go_enter Try.func19, Try.ntmps19
      go_wp2_with fail
      refine (HR.out _).mono ?_
      rintro e w1 ⟨rfl, hb⟩
      clear HR
      have hn1 := bnew w1 (Obj.cells (rgK.enc (rg0)).toArray 60)
      have hM0 := Box.new w1 (rgK.enc (rg0)) 60
      go_upto_region 2 with (guard_target =~ wpList _ _ _ (⟨none, _, _, _, _, _⟩ :: _) _ _; refine rgT.store (op := ⟨none, .store _ _ _, _, _, _, _⟩) (by rfl) _ _ (by rfl) (w1.heap.size) ((⟨false, false, false⟩ : Rg)) (rg0) _ (by rfl) (by rfl) hM0 ?_)
      have l_B : w.heap.size ≤ w1.heap.size := Nat.le_trans hb.size (Nat.le_refl w1.heap.size)
      have B := hM0.rowK (rgK.enc ((⟨false, false, false⟩ : Rg)))
      have hW := below_setRow hn1 (Nat.le_refl _) (rgK.enc ((⟨false, false, false⟩ : Rg))).toArray
      replace hb := bnext hb hW
      change Code.wp Try.prog _ _ _ ((w1.alloc (Obj.cells (rgK.enc (rg0)).toArray 60)).setRow w1.heap.size (rgK.enc ((⟨false, false, false⟩ : Rg))).toArray)
      generalize (w1.alloc (Obj.cells (rgK.enc (rg0)).toArray 60)).setRow w1.heap.size (rgK.enc ((⟨false, false, false⟩ : Rg))).toArray = w1 at *
      clear hn1 hM0 hW
      generalize w1.heap.size = GB at *
      have c0 := B.cell 0 _ rfl
      have c1 := B.cell 1 _ rfl
      have c2 := B.cell 2 _ rfl
      clear l_B
      go_wp2_with (guard_target =~ wpList _ _ _ (⟨some 11, _, _, _, _, _⟩ :: _) _ _; refine rgT.load (op := ⟨some 11, .load _ _, _, _, _, _⟩) (by rfl) _ (by rfl) GB 0 (by rfl) ((⟨false, false, false⟩ : Rg)) B.rangeK ?_)
      go_ret
      exact ⟨rfl, hb⟩
    have ba1 : (a == 1) = false := beq_false_of_ne ha1
    by_cases ha3 : a = 3
    · subst ha3
      have e1 : refI 3 id n = 2 := by
        unfold refI
        simp [hk]
        try omega
      rw [e1]
      clear e1
      clear h hk
      go_enter Try.func19, Try.ntmps19
      go_wp2_with fail
      refine (HR.out _).mono ?_
      rintro e w1 ⟨rfl, hb⟩
      clear HR
      have hn1 := bnew w1 (Obj.cells (rgK.enc (rg0)).toArray 60)
      have hM0 := Box.new w1 (rgK.enc (rg0)) 60
      go_upto_region 2 with (guard_target =~ wpList _ _ _ (⟨none, _, _, _, _, _⟩ :: _) _ _; refine rgT.store (op := ⟨none, .store _ _ _, _, _, _, _⟩) (by rfl) _ _ (by rfl) (w1.heap.size) ((⟨false, false, false⟩ : Rg)) (rg0) _ (by rfl) (by rfl) hM0 ?_)
      have l_B : w.heap.size ≤ w1.heap.size := Nat.le_trans hb.size (Nat.le_refl w1.heap.size)
      have B := hM0.rowK (rgK.enc ((⟨false, false, false⟩ : Rg)))
      have hW := below_setRow hn1 (Nat.le_refl _) (rgK.enc ((⟨false, false, false⟩ : Rg))).toArray
      replace hb := bnext hb hW
      change Code.wp Try.prog _ _ _ ((w1.alloc (Obj.cells (rgK.enc (rg0)).toArray 60)).setRow w1.heap.size (rgK.enc ((⟨false, false, false⟩ : Rg))).toArray)
      generalize (w1.alloc (Obj.cells (rgK.enc (rg0)).toArray 60)).setRow w1.heap.size (rgK.enc ((⟨false, false, false⟩ : Rg))).toArray = w1 at *
      clear hn1 hM0 hW
      generalize w1.heap.size = GB at *
      have c0 := B.cell 0 _ rfl
      have c1 := B.cell 1 _ rfl
      have c2 := B.cell 2 _ rfl
      clear l_B
      go_wp2_with (guard_target =~ wpList _ _ _ (⟨some 11, _, _, _, _, _⟩ :: _) _ _; refine rgT.load (op := ⟨some 11, .load _ _, _, _, _, _⟩) (by rfl) _ (by rfl) GB 0 (by rfl) ((⟨false, false, false⟩ : Rg)) B.rangeK ?_)
      go_ret
      exact ⟨rfl, hb⟩
    have ba3 : (a == 3) = false := beq_false_of_ne ha3
    have e1 : refI a id n = 2 := by
      unfold refI
      simp [hk, ha0, ha1, ha3]
      try omega
    rw [e1]
    clear e1
    clear h hk
    go_enter Try.func19, Try.ntmps19
    go_wp2_with fail
    refine (HR.out _).mono ?_
    rintro e w1 ⟨rfl, hb⟩
    clear HR
    have hn1 := bnew w1 (Obj.cells (rgK.enc (rg0)).toArray 60)
    have hM0 := Box.new w1 (rgK.enc (rg0)) 60
    go_upto_region 2 with (guard_target =~ wpList _ _ _ (⟨none, _, _, _, _, _⟩ :: _) _ _; refine rgT.store (op := ⟨none, .store _ _ _, _, _, _, _⟩) (by rfl) _ _ (by rfl) (w1.heap.size) ((⟨false, false, false⟩ : Rg)) (rg0) _ (by rfl) (by rfl) hM0 ?_)
    have l_B : w.heap.size ≤ w1.heap.size := Nat.le_trans hb.size (Nat.le_refl w1.heap.size)
    have B := hM0.rowK (rgK.enc ((⟨false, false, false⟩ : Rg)))
    have hW := below_setRow hn1 (Nat.le_refl _) (rgK.enc ((⟨false, false, false⟩ : Rg))).toArray
    replace hb := bnext hb hW
    change Code.wp Try.prog _ _ _ ((w1.alloc (Obj.cells (rgK.enc (rg0)).toArray 60)).setRow w1.heap.size (rgK.enc ((⟨false, false, false⟩ : Rg))).toArray)
    generalize (w1.alloc (Obj.cells (rgK.enc (rg0)).toArray 60)).setRow w1.heap.size (rgK.enc ((⟨false, false, false⟩ : Rg))).toArray = w1 at *
    clear hn1 hM0 hW
    generalize w1.heap.size = GB at *
    have c0 := B.cell 0 _ rfl
    have c1 := B.cell 1 _ rfl
    have c2 := B.cell 2 _ rfl
    clear l_B
    go_wp2_with (guard_target =~ wpList _ _ _ (⟨some 11, _, _, _, _, _⟩ :: _) _ _; refine rgT.load (op := ⟨some 11, .load _ _, _, _, _, _⟩) (by rfl) _ (by rfl) GB 0 (by rfl) ((⟨false, false, false⟩ : Rg)) B.rangeK ?_)
    go_ret
    exact ⟨rfl, hb⟩
  · rw [h] at HR
    have hk : ¬ sizeI id < 0 := by unfold szI at hsz; split at hsz <;> omega
    by_cases ha0 : a = 0
    · subst ha0
      have e1 : refI 0 id n = 0 := by
        unfold refI
        repeat' split
        all_goals first | rfl | (exfalso; omega) | (exfalso; simp_all; done) | (exfalso; simp_all; omega)
      rw [e1]
      clear e1
      clear h hk hsz hcm hfx hid0
      go_enter Try.func19, Try.ntmps19
      go_wp2_with fail
      refine (HR.out _).mono ?_
      rintro e w1 ⟨rfl, hb⟩
      clear HR
      have hn1 := bnew w1 (Obj.cells (rgK.enc (rg0)).toArray 60)
      have hM0 := Box.new w1 (rgK.enc (rg0)) 60
      go_upto_region 2 with (guard_target =~ wpList _ _ _ (⟨none, _, _, _, _, _⟩ :: _) _ _; refine rgT.store (op := ⟨none, .store _ _ _, _, _, _, _⟩) (by rfl) _ _ (by rfl) (w1.heap.size) ((⟨true, true, true⟩ : Rg)) (rg0) _ (by rfl) (by rfl) hM0 ?_)
      have l_B : w.heap.size ≤ w1.heap.size := Nat.le_trans hb.size (Nat.le_refl w1.heap.size)
      have B := hM0.rowK (rgK.enc ((⟨true, true, true⟩ : Rg)))
      have hW := below_setRow hn1 (Nat.le_refl _) (rgK.enc ((⟨true, true, true⟩ : Rg))).toArray
      replace hb := bnext hb hW
      change Code.wp Try.prog _ _ _ ((w1.alloc (Obj.cells (rgK.enc (rg0)).toArray 60)).setRow w1.heap.size (rgK.enc ((⟨true, true, true⟩ : Rg))).toArray)
      generalize (w1.alloc (Obj.cells (rgK.enc (rg0)).toArray 60)).setRow w1.heap.size (rgK.enc ((⟨true, true, true⟩ : Rg))).toArray = w1 at *
      clear hn1 hM0 hW
      generalize w1.heap.size = GB at *
      have c0 := B.cell 0 _ rfl
      have c1 := B.cell 1 _ rfl
      have c2 := B.cell 2 _ rfl
      clear l_B
      go_wp2_with (guard_target =~ wpList _ _ _ (⟨some 11, _, _, _, _, _⟩ :: _) _ _; refine rgT.load (op := ⟨some 11, .load _ _, _, _, _, _⟩) (by rfl) _ (by rfl) GB 0 (by rfl) ((⟨true, true, true⟩ : Rg)) B.rangeK ?_)
      go_ret
      exact ⟨rfl, hb⟩
    have ba0 : (a == 0) = false := beq_false_of_ne ha0
    by_cases ha1 : a = 1
    · subst ha1
      by_cases hn : n = szI id
      · have e1 : refI 1 id n = 0 := by
          unfold refI
          repeat' split
          all_goals first | rfl | (exfalso; omega) | (exfalso; simp_all; done) | (exfalso; simp_all; omega)
        rw [e1]
        clear e1
        have hq : ((n : Int) != szI id) = false := bne_eq_false_iff_eq.2 hn
        clear h hk hsz hcm hfx hid0
        go_enter Try.func19, Try.ntmps19
        go_wp2_with fail
        refine (HR.out _).mono ?_
        rintro e w1 ⟨rfl, hb⟩
        clear HR
        have hn1 := bnew w1 (Obj.cells (rgK.enc (rg0)).toArray 60)
        have hM0 := Box.new w1 (rgK.enc (rg0)) 60
        go_upto_region 2 with (guard_target =~ wpList _ _ _ (⟨none, _, _, _, _, _⟩ :: _) _ _; refine rgT.store (op := ⟨none, .store _ _ _, _, _, _, _⟩) (by rfl) _ _ (by rfl) (w1.heap.size) ((⟨true, true, true⟩ : Rg)) (rg0) _ (by rfl) (by rfl) hM0 ?_)
        have l_B : w.heap.size ≤ w1.heap.size := Nat.le_trans hb.size (Nat.le_refl w1.heap.size)
        have B := hM0.rowK (rgK.enc ((⟨true, true, true⟩ : Rg)))
        have hW := below_setRow hn1 (Nat.le_refl _) (rgK.enc ((⟨true, true, true⟩ : Rg))).toArray
        replace hb := bnext hb hW
        change Code.wp Try.prog _ _ _ ((w1.alloc (Obj.cells (rgK.enc (rg0)).toArray 60)).setRow w1.heap.size (rgK.enc ((⟨true, true, true⟩ : Rg))).toArray)
        generalize (w1.alloc (Obj.cells (rgK.enc (rg0)).toArray 60)).setRow w1.heap.size (rgK.enc ((⟨true, true, true⟩ : Rg))).toArray = w1 at *
        clear hn1 hM0 hW
        generalize w1.heap.size = GB at *
        have c0 := B.cell 0 _ rfl
        have c1 := B.cell 1 _ rfl
        have c2 := B.cell 2 _ rfl
        clear l_B
        go_wp2_with (guard_target =~ wpList _ _ _ (⟨some 11, _, _, _, _, _⟩ :: _) _ _; refine rgT.load (op := ⟨some 11, .load _ _, _, _, _, _⟩) (by rfl) _ (by rfl) GB 0 (by rfl) ((⟨true, true, true⟩ : Rg)) B.rangeK ?_)
        refine (size_any id _).mono ?_
        rintro e wq ⟨rfl, rfl⟩
        go_wp2_with fail
        go_ret
        exact ⟨rfl, hb⟩
      · have e1 : refI 1 id n = 3 := by
          unfold refI
          repeat' split
          all_goals first | rfl | (exfalso; omega) | (exfalso; simp_all; done) | (exfalso; simp_all; omega)
        rw [e1]
        clear e1
        have hq : ((n : Int) != szI id) = true := bne_iff_ne.2 hn
        clear h hk hsz hcm hfx hid0
        go_enter Try.func19, Try.ntmps19
        go_wp2_with fail
        refine (HR.out _).mono ?_
        rintro e w1 ⟨rfl, hb⟩
        clear HR
        have hn1 := bnew w1 (Obj.cells (rgK.enc (rg0)).toArray 60)
        have hM0 := Box.new w1 (rgK.enc (rg0)) 60
        go_upto_region 2 with (guard_target =~ wpList _ _ _ (⟨none, _, _, _, _, _⟩ :: _) _ _; refine rgT.store (op := ⟨none, .store _ _ _, _, _, _, _⟩) (by rfl) _ _ (by rfl) (w1.heap.size) ((⟨true, true, true⟩ : Rg)) (rg0) _ (by rfl) (by rfl) hM0 ?_)
        have l_B : w.heap.size ≤ w1.heap.size := Nat.le_trans hb.size (Nat.le_refl w1.heap.size)
        have B := hM0.rowK (rgK.enc ((⟨true, true, true⟩ : Rg)))
        have hW := below_setRow hn1 (Nat.le_refl _) (rgK.enc ((⟨true, true, true⟩ : Rg))).toArray
        replace hb := bnext hb hW
        change Code.wp Try.prog _ _ _ ((w1.alloc (Obj.cells (rgK.enc (rg0)).toArray 60)).setRow w1.heap.size (rgK.enc ((⟨true, true, true⟩ : Rg))).toArray)
        generalize (w1.alloc (Obj.cells (rgK.enc (rg0)).toArray 60)).setRow w1.heap.size (rgK.enc ((⟨true, true, true⟩ : Rg))).toArray = w1 at *
        clear hn1 hM0 hW
        generalize w1.heap.size = GB at *
        have c0 := B.cell 0 _ rfl
        have c1 := B.cell 1 _ rfl
        have c2 := B.cell 2 _ rfl
        clear l_B
        go_wp2_with (guard_target =~ wpList _ _ _ (⟨some 11, _, _, _, _, _⟩ :: _) _ _; refine rgT.load (op := ⟨some 11, .load _ _, _, _, _, _⟩) (by rfl) _ (by rfl) GB 0 (by rfl) ((⟨true, true, true⟩ : Rg)) B.rangeK ?_)
        refine (size_any id _).mono ?_
        rintro e wq ⟨rfl, rfl⟩
        go_wp2_with fail
        go_ret
        exact ⟨rfl, hb⟩
    have ba1 : (a == 1) = false := beq_false_of_ne ha1
    by_cases ha3 : a = 3
    · subst ha3
      by_cases hn : n = szI id
      · have e1 : refI 3 id n = 0 := by
          unfold refI
          repeat' split
          all_goals first | rfl | (exfalso; omega) | (exfalso; simp_all; done) | (exfalso; simp_all; omega)
        rw [e1]
        clear e1
        have hq : ((n : Int) != szI id) = false := bne_eq_false_iff_eq.2 hn
        clear h hk hsz hcm hfx hid0
        go_enter Try.func19, Try.ntmps19
        go_wp2_with fail
        refine (HR.out _).mono ?_
        rintro e w1 ⟨rfl, hb⟩
        clear HR
        have hn1 := bnew w1 (Obj.cells (rgK.enc (rg0)).toArray 60)
        have hM0 := Box.new w1 (rgK.enc (rg0)) 60
        go_upto_region 2 with (guard_target =~ wpList _ _ _ (⟨none, _, _, _, _, _⟩ :: _) _ _; refine rgT.store (op := ⟨none, .store _ _ _, _, _, _, _⟩) (by rfl) _ _ (by rfl) (w1.heap.size) ((⟨true, true, true⟩ : Rg)) (rg0) _ (by rfl) (by rfl) hM0 ?_)
        have l_B : w.heap.size ≤ w1.heap.size := Nat.le_trans hb.size (Nat.le_refl w1.heap.size)
        have B := hM0.rowK (rgK.enc ((⟨true, true, true⟩ : Rg)))
        have hW := below_setRow hn1 (Nat.le_refl _) (rgK.enc ((⟨true, true, true⟩ : Rg))).toArray
        replace hb := bnext hb hW
        change Code.wp Try.prog _ _ _ ((w1.alloc (Obj.cells (rgK.enc (rg0)).toArray 60)).setRow w1.heap.size (rgK.enc ((⟨true, true, true⟩ : Rg))).toArray)
        generalize (w1.alloc (Obj.cells (rgK.enc (rg0)).toArray 60)).setRow w1.heap.size (rgK.enc ((⟨true, true, true⟩ : Rg))).toArray = w1 at *
        clear hn1 hM0 hW
        generalize w1.heap.size = GB at *
        have c0 := B.cell 0 _ rfl
        have c1 := B.cell 1 _ rfl
        have c2 := B.cell 2 _ rfl
        clear l_B
        go_wp2_with (guard_target =~ wpList _ _ _ (⟨some 11, _, _, _, _, _⟩ :: _) _ _; refine rgT.load (op := ⟨some 11, .load _ _, _, _, _, _⟩) (by rfl) _ (by rfl) GB 0 (by rfl) ((⟨true, true, true⟩ : Rg)) B.rangeK ?_)
        refine (size_any id _).mono ?_
        rintro e wq ⟨rfl, rfl⟩
        go_wp2_with fail
        go_ret
        exact ⟨rfl, hb⟩
      · have e1 : refI 3 id n = 3 := by
          unfold refI
          repeat' split
          all_goals first | rfl | (exfalso; omega) | (exfalso; simp_all; done) | (exfalso; simp_all; omega)
        rw [e1]
        clear e1
        have hq : ((n : Int) != szI id) = true := bne_iff_ne.2 hn
        clear h hk hsz hcm hfx hid0
        go_enter Try.func19, Try.ntmps19
        go_wp2_with fail
        refine (HR.out _).mono ?_
        rintro e w1 ⟨rfl, hb⟩
        clear HR
        have hn1 := bnew w1 (Obj.cells (rgK.enc (rg0)).toArray 60)
        have hM0 := Box.new w1 (rgK.enc (rg0)) 60
        go_upto_region 2 with (guard_target =~ wpList _ _ _ (⟨none, _, _, _, _, _⟩ :: _) _ _; refine rgT.store (op := ⟨none, .store _ _ _, _, _, _, _⟩) (by rfl) _ _ (by rfl) (w1.heap.size) ((⟨true, true, true⟩ : Rg)) (rg0) _ (by rfl) (by rfl) hM0 ?_)
        have l_B : w.heap.size ≤ w1.heap.size := Nat.le_trans hb.size (Nat.le_refl w1.heap.size)
        have B := hM0.rowK (rgK.enc ((⟨true, true, true⟩ : Rg)))
        have hW := below_setRow hn1 (Nat.le_refl _) (rgK.enc ((⟨true, true, true⟩ : Rg))).toArray
        replace hb := bnext hb hW
        change Code.wp Try.prog _ _ _ ((w1.alloc (Obj.cells (rgK.enc (rg0)).toArray 60)).setRow w1.heap.size (rgK.enc ((⟨true, true, true⟩ : Rg))).toArray)
        generalize (w1.alloc (Obj.cells (rgK.enc (rg0)).toArray 60)).setRow w1.heap.size (rgK.enc ((⟨true, true, true⟩ : Rg))).toArray = w1 at *
        clear hn1 hM0 hW
        generalize w1.heap.size = GB at *
        have c0 := B.cell 0 _ rfl
        have c1 := B.cell 1 _ rfl
        have c2 := B.cell 2 _ rfl
        clear l_B
        go_wp2_with (guard_target =~ wpList _ _ _ (⟨some 11, _, _, _, _, _⟩ :: _) _ _; refine rgT.load (op := ⟨some 11, .load _ _, _, _, _, _⟩) (by rfl) _ (by rfl) GB 0 (by rfl) ((⟨true, true, true⟩ : Rg)) B.rangeK ?_)
        refine (size_any id _).mono ?_
        rintro e wq ⟨rfl, rfl⟩
        go_wp2_with fail
        go_ret
        exact ⟨rfl, hb⟩
    have ba3 : (a == 3) = false := beq_false_of_ne ha3
    have e1 : refI a id n = 6 := by
      unfold refI
      repeat' split
      all_goals first | rfl | (exfalso; omega) | (exfalso; simp_all; done) | (exfalso; simp_all; omega)
    rw [e1]
    clear e1
    clear h hk hsz hcm hfx hid0
    go_enter Try.func19, Try.ntmps19
    go_wp2_with fail
    refine (HR.out _).mono ?_
    rintro e w1 ⟨rfl, hb⟩
    clear HR
    have hn1 := bnew w1 (Obj.cells (rgK.enc (rg0)).toArray 60)
    have hM0 := Box.new w1 (rgK.enc (rg0)) 60
    go_upto_region 2 with (guard_target =~ wpList _ _ _ (⟨none, _, _, _, _, _⟩ :: _) _ _; refine rgT.store (op := ⟨none, .store _ _ _, _, _, _, _⟩) (by rfl) _ _ (by rfl) (w1.heap.size) ((⟨true, true, true⟩ : Rg)) (rg0) _ (by rfl) (by rfl) hM0 ?_)
    have l_B : w.heap.size ≤ w1.heap.size := Nat.le_trans hb.size (Nat.le_refl w1.heap.size)
    have B := hM0.rowK (rgK.enc ((⟨true, true, true⟩ : Rg)))
    have hW := below_setRow hn1 (Nat.le_refl _) (rgK.enc ((⟨true, true, true⟩ : Rg))).toArray
    replace hb := bnext hb hW
    change Code.wp Try.prog _ _ _ ((w1.alloc (Obj.cells (rgK.enc (rg0)).toArray 60)).setRow w1.heap.size (rgK.enc ((⟨true, true, true⟩ : Rg))).toArray)
    generalize (w1.alloc (Obj.cells (rgK.enc (rg0)).toArray 60)).setRow w1.heap.size (rgK.enc ((⟨true, true, true⟩ : Rg))).toArray = w1 at *
    clear hn1 hM0 hW
    generalize w1.heap.size = GB at *
    have c0 := B.cell 0 _ rfl
    have c1 := B.cell 1 _ rfl
    have c2 := B.cell 2 _ rfl
    clear l_B
    go_wp2_with (guard_target =~ wpList _ _ _ (⟨some 11, _, _, _, _, _⟩ :: _) _ _; refine rgT.load (op := ⟨some 11, .load _ _, _, _, _, _⟩) (by rfl) _ (by rfl) GB 0 (by rfl) ((⟨true, true, true⟩ : Rg)) B.rangeK ?_)
    go_ret
    exact ⟨rfl, hb⟩
  · rw [h] at HR
    have hk : ¬ sizeI id < 0 := by unfold szI at hsz; split at hsz <;> omega
    by_cases ha0 : a = 0
    · subst ha0
      have e1 : refI 0 id n = 0 := by
        unfold refI
        simp [hk, hcm, hfx, hid0]
        try omega
      rw [e1]
      clear e1
      clear h hk hsz hcm hfx hid0
      go_enter Try.func19, Try.ntmps19
      go_wp2_with fail
      refine (HR.out _).mono ?_
      rintro e w1 ⟨rfl, hb⟩
      clear HR
      have hn1 := bnew w1 (Obj.cells (rgK.enc (rg0)).toArray 60)
      have hM0 := Box.new w1 (rgK.enc (rg0)) 60
      go_upto_region 2 with (guard_target =~ wpList _ _ _ (⟨none, _, _, _, _, _⟩ :: _) _ _; refine rgT.store (op := ⟨none, .store _ _ _, _, _, _, _⟩) (by rfl) _ _ (by rfl) (w1.heap.size) ((⟨true, true, false⟩ : Rg)) (rg0) _ (by rfl) (by rfl) hM0 ?_)
      have l_B : w.heap.size ≤ w1.heap.size := Nat.le_trans hb.size (Nat.le_refl w1.heap.size)
      have B := hM0.rowK (rgK.enc ((⟨true, true, false⟩ : Rg)))
      have hW := below_setRow hn1 (Nat.le_refl _) (rgK.enc ((⟨true, true, false⟩ : Rg))).toArray
      replace hb := bnext hb hW
      change Code.wp Try.prog _ _ _ ((w1.alloc (Obj.cells (rgK.enc (rg0)).toArray 60)).setRow w1.heap.size (rgK.enc ((⟨true, true, false⟩ : Rg))).toArray)
      generalize (w1.alloc (Obj.cells (rgK.enc (rg0)).toArray 60)).setRow w1.heap.size (rgK.enc ((⟨true, true, false⟩ : Rg))).toArray = w1 at *
      clear hn1 hM0 hW
      generalize w1.heap.size = GB at *
      have c0 := B.cell 0 _ rfl
      have c1 := B.cell 1 _ rfl
      have c2 := B.cell 2 _ rfl
      clear l_B
      go_wp2_with (guard_target =~ wpList _ _ _ (⟨some 11, _, _, _, _, _⟩ :: _) _ _; refine rgT.load (op := ⟨some 11, .load _ _, _, _, _, _⟩) (by rfl) _ (by rfl) GB 0 (by rfl) ((⟨true, true, false⟩ : Rg)) B.rangeK ?_)
      go_ret
      exact ⟨rfl, hb⟩
    have ba0 : (a == 0) = false := beq_false_of_ne ha0
    by_cases ha1 : a = 1
    · subst ha1
      by_cases hn : n = szI id
      · have e1 : refI 1 id n = 0 := by
          unfold refI
          simp [hk, hcm, hfx, hid0, hsz, hn]
          try omega
        rw [e1]
        clear e1
        have hq : ((n : Int) != szI id) = false := bne_eq_false_iff_eq.2 hn
        clear h hk hsz hcm hfx hid0
        go_enter Try.func19, Try.ntmps19
        go_wp2_with fail
        refine (HR.out _).mono ?_
        rintro e w1 ⟨rfl, hb⟩
        clear HR
        have hn1 := bnew w1 (Obj.cells (rgK.enc (rg0)).toArray 60)
        have hM0 := Box.new w1 (rgK.enc (rg0)) 60
        go_upto_region 2 with (guard_target =~ wpList _ _ _ (⟨none, _, _, _, _, _⟩ :: _) _ _; refine rgT.store (op := ⟨none, .store _ _ _, _, _, _, _⟩) (by rfl) _ _ (by rfl) (w1.heap.size) ((⟨true, true, false⟩ : Rg)) (rg0) _ (by rfl) (by rfl) hM0 ?_)
        have l_B : w.heap.size ≤ w1.heap.size := Nat.le_trans hb.size (Nat.le_refl w1.heap.size)
        have B := hM0.rowK (rgK.enc ((⟨true, true, false⟩ : Rg)))
        have hW := below_setRow hn1 (Nat.le_refl _) (rgK.enc ((⟨true, true, false⟩ : Rg))).toArray
        replace hb := bnext hb hW
        change Code.wp Try.prog _ _ _ ((w1.alloc (Obj.cells (rgK.enc (rg0)).toArray 60)).setRow w1.heap.size (rgK.enc ((⟨true, true, false⟩ : Rg))).toArray)
        generalize (w1.alloc (Obj.cells (rgK.enc (rg0)).toArray 60)).setRow w1.heap.size (rgK.enc ((⟨true, true, false⟩ : Rg))).toArray = w1 at *
        clear hn1 hM0 hW
        generalize w1.heap.size = GB at *
        have c0 := B.cell 0 _ rfl
        have c1 := B.cell 1 _ rfl
        have c2 := B.cell 2 _ rfl
        clear l_B
        go_wp2_with (guard_target =~ wpList _ _ _ (⟨some 11, _, _, _, _, _⟩ :: _) _ _; refine rgT.load (op := ⟨some 11, .load _ _, _, _, _, _⟩) (by rfl) _ (by rfl) GB 0 (by rfl) ((⟨true, true, false⟩ : Rg)) B.rangeK ?_)
        refine (size_any id _).mono ?_
        rintro e wq ⟨rfl, rfl⟩
        go_wp2_with fail
        go_ret
        exact ⟨rfl, hb⟩
      · have e1 : refI 1 id n = 3 := by
          unfold refI
          simp [hk, hcm, hfx, hid0, hsz, hn]
          try omega
        rw [e1]
        clear e1
        have hq : ((n : Int) != szI id) = true := bne_iff_ne.2 hn
        clear h hk hsz hcm hfx hid0
        go_enter Try.func19, Try.ntmps19
        go_wp2_with fail
        refine (HR.out _).mono ?_
        rintro e w1 ⟨rfl, hb⟩
        clear HR
        have hn1 := bnew w1 (Obj.cells (rgK.enc (rg0)).toArray 60)
        have hM0 := Box.new w1 (rgK.enc (rg0)) 60
        go_upto_region 2 with (guard_target =~ wpList _ _ _ (⟨none, _, _, _, _, _⟩ :: _) _ _; refine rgT.store (op := ⟨none, .store _ _ _, _, _, _, _⟩) (by rfl) _ _ (by rfl) (w1.heap.size) ((⟨true, true, false⟩ : Rg)) (rg0) _ (by rfl) (by rfl) hM0 ?_)
        have l_B : w.heap.size ≤ w1.heap.size := Nat.le_trans hb.size (Nat.le_refl w1.heap.size)
        have B := hM0.rowK (rgK.enc ((⟨true, true, false⟩ : Rg)))
        have hW := below_setRow hn1 (Nat.le_refl _) (rgK.enc ((⟨true, true, false⟩ : Rg))).toArray
        replace hb := bnext hb hW
        change Code.wp Try.prog _ _ _ ((w1.alloc (Obj.cells (rgK.enc (rg0)).toArray 60)).setRow w1.heap.size (rgK.enc ((⟨true, true, false⟩ : Rg))).toArray)
        generalize (w1.alloc (Obj.cells (rgK.enc (rg0)).toArray 60)).setRow w1.heap.size (rgK.enc ((⟨true, true, false⟩ : Rg))).toArray = w1 at *
        clear hn1 hM0 hW
        generalize w1.heap.size = GB at *
        have c0 := B.cell 0 _ rfl
        have c1 := B.cell 1 _ rfl
        have c2 := B.cell 2 _ rfl
        clear l_B
        go_wp2_with (guard_target =~ wpList _ _ _ (⟨some 11, _, _, _, _, _⟩ :: _) _ _; refine rgT.load (op := ⟨some 11, .load _ _, _, _, _, _⟩) (by rfl) _ (by rfl) GB 0 (by rfl) ((⟨true, true, false⟩ : Rg)) B.rangeK ?_)
        refine (size_any id _).mono ?_
        rintro e wq ⟨rfl, rfl⟩
        go_wp2_with fail
        go_ret
        exact ⟨rfl, hb⟩
    have ba1 : (a == 1) = false := beq_false_of_ne ha1
    by_cases ha3 : a = 3
    · subst ha3
      have e1 : refI 3 id n = 6 := by
        unfold refI
        simp [hk, hcm, hfx, hid0]
        try omega
      rw [e1]
      clear e1
      clear h hk hsz hcm hfx hid0
      go_enter Try.func19, Try.ntmps19
      go_wp2_with fail
      refine (HR.out _).mono ?_
      rintro e w1 ⟨rfl, hb⟩
      clear HR
      have hn1 := bnew w1 (Obj.cells (rgK.enc (rg0)).toArray 60)
      have hM0 := Box.new w1 (rgK.enc (rg0)) 60
      go_upto_region 2 with (guard_target =~ wpList _ _ _ (⟨none, _, _, _, _, _⟩ :: _) _ _; refine rgT.store (op := ⟨none, .store _ _ _, _, _, _, _⟩) (by rfl) _ _ (by rfl) (w1.heap.size) ((⟨true, true, false⟩ : Rg)) (rg0) _ (by rfl) (by rfl) hM0 ?_)
      have l_B : w.heap.size ≤ w1.heap.size := Nat.le_trans hb.size (Nat.le_refl w1.heap.size)
      have B := hM0.rowK (rgK.enc ((⟨true, true, false⟩ : Rg)))
      have hW := below_setRow hn1 (Nat.le_refl _) (rgK.enc ((⟨true, true, false⟩ : Rg))).toArray
      replace hb := bnext hb hW
      change Code.wp Try.prog _ _ _ ((w1.alloc (Obj.cells (rgK.enc (rg0)).toArray 60)).setRow w1.heap.size (rgK.enc ((⟨true, true, false⟩ : Rg))).toArray)
      generalize (w1.alloc (Obj.cells (rgK.enc (rg0)).toArray 60)).setRow w1.heap.size (rgK.enc ((⟨true, true, false⟩ : Rg))).toArray = w1 at *
      clear hn1 hM0 hW
      generalize w1.heap.size = GB at *
      have c0 := B.cell 0 _ rfl
      have c1 := B.cell 1 _ rfl
      have c2 := B.cell 2 _ rfl
      clear l_B
      go_wp2_with (guard_target =~ wpList _ _ _ (⟨some 11, _, _, _, _, _⟩ :: _) _ _; refine rgT.load (op := ⟨some 11, .load _ _, _, _, _, _⟩) (by rfl) _ (by rfl) GB 0 (by rfl) ((⟨true, true, false⟩ : Rg)) B.rangeK ?_)
      go_ret
      exact ⟨rfl, hb⟩
    have ba3 : (a == 3) = false := beq_false_of_ne ha3
    have e1 : refI a id n = 6 := by
      unfold refI
      simp [hk, hcm, hfx, hid0, ha0, ha1, ha3]
      try omega
    rw [e1]
    clear e1
    clear h hk hsz hcm hfx hid0
    go_enter Try.func19, Try.ntmps19
    go_wp2_with fail
    refine (HR.out _).mono ?_
    rintro e w1 ⟨rfl, hb⟩
    clear HR
    have hn1 := bnew w1 (Obj.cells (rgK.enc (rg0)).toArray 60)
    have hM0 := Box.new w1 (rgK.enc (rg0)) 60
    go_upto_region 2 with (guard_target =~ wpList _ _ _ (⟨none, _, _, _, _, _⟩ :: _) _ _; refine rgT.store (op := ⟨none, .store _ _ _, _, _, _, _⟩) (by rfl) _ _ (by rfl) (w1.heap.size) ((⟨true, true, false⟩ : Rg)) (rg0) _ (by rfl) (by rfl) hM0 ?_)
    have l_B : w.heap.size ≤ w1.heap.size := Nat.le_trans hb.size (Nat.le_refl w1.heap.size)
    have B := hM0.rowK (rgK.enc ((⟨true, true, false⟩ : Rg)))
    have hW := below_setRow hn1 (Nat.le_refl _) (rgK.enc ((⟨true, true, false⟩ : Rg))).toArray
    replace hb := bnext hb hW
    change Code.wp Try.prog _ _ _ ((w1.alloc (Obj.cells (rgK.enc (rg0)).toArray 60)).setRow w1.heap.size (rgK.enc ((⟨true, true, false⟩ : Rg))).toArray)
    generalize (w1.alloc (Obj.cells (rgK.enc (rg0)).toArray 60)).setRow w1.heap.size (rgK.enc ((⟨true, true, false⟩ : Rg))).toArray = w1 at *
    clear hn1 hM0 hW
    generalize w1.heap.size = GB at *
    have c0 := B.cell 0 _ rfl
    have c1 := B.cell 1 _ rfl
    have c2 := B.cell 2 _ rfl
    clear l_B
    go_wp2_with (guard_target =~ wpList _ _ _ (⟨some 11, _, _, _, _, _⟩ :: _) _ _; refine rgT.load (op := ⟨some 11, .load _ _, _, _, _, _⟩) (by rfl) _ (by rfl) GB 0 (by rfl) ((⟨true, true, false⟩ : Rg)) B.rangeK ?_)
    go_ret
    exact ⟨rfl, hb⟩
  · rw [h] at HR
    have hk : ¬ sizeI id < 0 := by omega
    by_cases ha0 : a = 0
    · subst ha0
      have e1 : refI 0 id n = 0 := by
        unfold refI
        simp [hk, hcm, hfx, hid0]
        try omega
      rw [e1]
      clear e1
      clear h hk hsz hcm hfx hid0
      go_enter Try.func19, Try.ntmps19
      go_wp2_with fail
      refine (HR.out _).mono ?_
      rintro e w1 ⟨rfl, hb⟩
      clear HR
      have hn1 := bnew w1 (Obj.cells (rgK.enc (rg0)).toArray 60)
      have hM0 := Box.new w1 (rgK.enc (rg0)) 60
      go_upto_region 2 with (guard_target =~ wpList _ _ _ (⟨none, _, _, _, _, _⟩ :: _) _ _; refine rgT.store (op := ⟨none, .store _ _ _, _, _, _, _⟩) (by rfl) _ _ (by rfl) (w1.heap.size) ((⟨true, false, false⟩ : Rg)) (rg0) _ (by rfl) (by rfl) hM0 ?_)
      have l_B : w.heap.size ≤ w1.heap.size := Nat.le_trans hb.size (Nat.le_refl w1.heap.size)
      have B := hM0.rowK (rgK.enc ((⟨true, false, false⟩ : Rg)))
      have hW := below_setRow hn1 (Nat.le_refl _) (rgK.enc ((⟨true, false, false⟩ : Rg))).toArray
      replace hb := bnext hb hW
      change Code.wp Try.prog _ _ _ ((w1.alloc (Obj.cells (rgK.enc (rg0)).toArray 60)).setRow w1.heap.size (rgK.enc ((⟨true, false, false⟩ : Rg))).toArray)
      generalize (w1.alloc (Obj.cells (rgK.enc (rg0)).toArray 60)).setRow w1.heap.size (rgK.enc ((⟨true, false, false⟩ : Rg))).toArray = w1 at *
      clear hn1 hM0 hW
      generalize w1.heap.size = GB at *
      have c0 := B.cell 0 _ rfl
      have c1 := B.cell 1 _ rfl
      have c2 := B.cell 2 _ rfl
      clear l_B
      go_wp2_with (guard_target =~ wpList _ _ _ (⟨some 11, _, _, _, _, _⟩ :: _) _ _; refine rgT.load (op := ⟨some 11, .load _ _, _, _, _, _⟩) (by rfl) _ (by rfl) GB 0 (by rfl) ((⟨true, false, false⟩ : Rg)) B.rangeK ?_)
      go_ret
      exact ⟨rfl, hb⟩
    have ba0 : (a == 0) = false := beq_false_of_ne ha0
    by_cases ha1 : a = 1
    · subst ha1
      have e1 : refI 1 id n = 5 := by
        unfold refI
        simp [hk, hcm, hfx, hid0]
        try omega
      rw [e1]
      clear e1
      clear h hk hsz hcm hfx hid0
      go_enter Try.func19, Try.ntmps19
      go_wp2_with fail
      refine (HR.out _).mono ?_
      rintro e w1 ⟨rfl, hb⟩
      clear HR
      have hn1 := bnew w1 (Obj.cells (rgK.enc (rg0)).toArray 60)
      have hM0 := Box.new w1 (rgK.enc (rg0)) 60
      go_upto_region 2 with (guard_target =~ wpList _ _ _ (⟨none, _, _, _, _, _⟩ :: _) _ _; refine rgT.store (op := ⟨none, .store _ _ _, _, _, _, _⟩) (by rfl) _ _ (by rfl) (w1.heap.size) ((⟨true, false, false⟩ : Rg)) (rg0) _ (by rfl) (by rfl) hM0 ?_)
      have l_B : w.heap.size ≤ w1.heap.size := Nat.le_trans hb.size (Nat.le_refl w1.heap.size)
      have B := hM0.rowK (rgK.enc ((⟨true, false, false⟩ : Rg)))
      have hW := below_setRow hn1 (Nat.le_refl _) (rgK.enc ((⟨true, false, false⟩ : Rg))).toArray
      replace hb := bnext hb hW
      change Code.wp Try.prog _ _ _ ((w1.alloc (Obj.cells (rgK.enc (rg0)).toArray 60)).setRow w1.heap.size (rgK.enc ((⟨true, false, false⟩ : Rg))).toArray)
      generalize (w1.alloc (Obj.cells (rgK.enc (rg0)).toArray 60)).setRow w1.heap.size (rgK.enc ((⟨true, false, false⟩ : Rg))).toArray = w1 at *
      clear hn1 hM0 hW
      generalize w1.heap.size = GB at *
      have c0 := B.cell 0 _ rfl
      have c1 := B.cell 1 _ rfl
      have c2 := B.cell 2 _ rfl
      clear l_B
      go_wp2_with (guard_target =~ wpList _ _ _ (⟨some 11, _, _, _, _, _⟩ :: _) _ _; refine rgT.load (op := ⟨some 11, .load _ _, _, _, _, _⟩) (by rfl) _ (by rfl) GB 0 (by rfl) ((⟨true, false, false⟩ : Rg)) B.rangeK ?_)
      go_ret
      exact ⟨rfl, hb⟩
    have ba1 : (a == 1) = false := beq_false_of_ne ha1
    by_cases ha3 : a = 3
    · subst ha3
      have e1 : refI 3 id n = 6 := by
        unfold refI
        simp [hk, hcm, hfx, hid0]
        try omega
      rw [e1]
      clear e1
      clear h hk hsz hcm hfx hid0
      go_enter Try.func19, Try.ntmps19
      go_wp2_with fail
      refine (HR.out _).mono ?_
      rintro e w1 ⟨rfl, hb⟩
      clear HR
      have hn1 := bnew w1 (Obj.cells (rgK.enc (rg0)).toArray 60)
      have hM0 := Box.new w1 (rgK.enc (rg0)) 60
      go_upto_region 2 with (guard_target =~ wpList _ _ _ (⟨none, _, _, _, _, _⟩ :: _) _ _; refine rgT.store (op := ⟨none, .store _ _ _, _, _, _, _⟩) (by rfl) _ _ (by rfl) (w1.heap.size) ((⟨true, false, false⟩ : Rg)) (rg0) _ (by rfl) (by rfl) hM0 ?_)
      have l_B : w.heap.size ≤ w1.heap.size := Nat.le_trans hb.size (Nat.le_refl w1.heap.size)
      have B := hM0.rowK (rgK.enc ((⟨true, false, false⟩ : Rg)))
      have hW := below_setRow hn1 (Nat.le_refl _) (rgK.enc ((⟨true, false, false⟩ : Rg))).toArray
      replace hb := bnext hb hW
      change Code.wp Try.prog _ _ _ ((w1.alloc (Obj.cells (rgK.enc (rg0)).toArray 60)).setRow w1.heap.size (rgK.enc ((⟨true, false, false⟩ : Rg))).toArray)
      generalize (w1.alloc (Obj.cells (rgK.enc (rg0)).toArray 60)).setRow w1.heap.size (rgK.enc ((⟨true, false, false⟩ : Rg))).toArray = w1 at *
      clear hn1 hM0 hW
      generalize w1.heap.size = GB at *
      have c0 := B.cell 0 _ rfl
      have c1 := B.cell 1 _ rfl
      have c2 := B.cell 2 _ rfl
      clear l_B
      go_wp2_with (guard_target =~ wpList _ _ _ (⟨some 11, _, _, _, _, _⟩ :: _) _ _; refine rgT.load (op := ⟨some 11, .load _ _, _, _, _, _⟩) (by rfl) _ (by rfl) GB 0 (by rfl) ((⟨true, false, false⟩ : Rg)) B.rangeK ?_)
      go_ret
      exact ⟨rfl, hb⟩
    have ba3 : (a == 3) = false := beq_false_of_ne ha3
    have e1 : refI a id n = 6 := by
      unfold refI
      simp [hk, hcm, hfx, hid0, ha0, ha1, ha3]
      try omega
    rw [e1]
    clear e1
    clear h hk hsz hcm hfx hid0
    go_enter Try.func19, Try.ntmps19
    go_wp2_with fail
    refine (HR.out _).mono ?_
    rintro e w1 ⟨rfl, hb⟩
    clear HR
    have hn1 := bnew w1 (Obj.cells (rgK.enc (rg0)).toArray 60)
    have hM0 := Box.new w1 (rgK.enc (rg0)) 60
    go_upto_region 2 with (guard_target =~ wpList _ _ _ (⟨none, _, _, _, _, _⟩ :: _) _ _; refine rgT.store (op := ⟨none, .store _ _ _, _, _, _, _⟩) (by rfl) _ _ (by rfl) (w1.heap.size) ((⟨true, false, false⟩ : Rg)) (rg0) _ (by rfl) (by rfl) hM0 ?_)
    have l_B : w.heap.size ≤ w1.heap.size := Nat.le_trans hb.size (Nat.le_refl w1.heap.size)
    have B := hM0.rowK (rgK.enc ((⟨true, false, false⟩ : Rg)))
    have hW := below_setRow hn1 (Nat.le_refl _) (rgK.enc ((⟨true, false, false⟩ : Rg))).toArray
    replace hb := bnext hb hW
    change Code.wp Try.prog _ _ _ ((w1.alloc (Obj.cells (rgK.enc (rg0)).toArray 60)).setRow w1.heap.size (rgK.enc ((⟨true, false, false⟩ : Rg))).toArray)
    generalize (w1.alloc (Obj.cells (rgK.enc (rg0)).toArray 60)).setRow w1.heap.size (rgK.enc ((⟨true, false, false⟩ : Rg))).toArray = w1 at *
    clear hn1 hM0 hW
    generalize w1.heap.size = GB at *
    have c0 := B.cell 0 _ rfl
    have c1 := B.cell 1 _ rfl
    have c2 := B.cell 2 _ rfl
    clear l_B
    go_wp2_with (guard_target =~ wpList _ _ _ (⟨some 11, _, _, _, _, _⟩ :: _) _ _; refine rgT.load (op := ⟨some 11, .load _ _, _, _, _, _⟩) (by rfl) _ (by rfl) GB 0 (by rfl) ((⟨true, false, false⟩ : Rg)) B.rangeK ?_)
    go_ret
    exact ⟨rfl, hb⟩
  · rw [h] at HR
    have hk : ¬ sizeI id < 0 := by unfold szI at hsz; split at hsz <;> omega
    by_cases ha0 : a = 0
    · subst ha0
      have e1 : refI 0 id n = 6 := by
        unfold refI
        simp [hk, hcm, hfx, hid0]
        try omega
      rw [e1]
      clear e1
      clear h hk hsz hcm hfx hid0
      go_enter Try.func19, Try.ntmps19
      go_wp2_with fail
      refine (HR.out _).mono ?_
      rintro e w1 ⟨rfl, hb⟩
      clear HR
      have hn1 := bnew w1 (Obj.cells (rgK.enc (rg0)).toArray 60)
      have hM0 := Box.new w1 (rgK.enc (rg0)) 60
      go_upto_region 2 with (guard_target =~ wpList _ _ _ (⟨none, _, _, _, _, _⟩ :: _) _ _; refine rgT.store (op := ⟨none, .store _ _ _, _, _, _, _⟩) (by rfl) _ _ (by rfl) (w1.heap.size) ((⟨false, false, true⟩ : Rg)) (rg0) _ (by rfl) (by rfl) hM0 ?_)
      have l_B : w.heap.size ≤ w1.heap.size := Nat.le_trans hb.size (Nat.le_refl w1.heap.size)
      have B := hM0.rowK (rgK.enc ((⟨false, false, true⟩ : Rg)))
      have hW := below_setRow hn1 (Nat.le_refl _) (rgK.enc ((⟨false, false, true⟩ : Rg))).toArray
      replace hb := bnext hb hW
      change Code.wp Try.prog _ _ _ ((w1.alloc (Obj.cells (rgK.enc (rg0)).toArray 60)).setRow w1.heap.size (rgK.enc ((⟨false, false, true⟩ : Rg))).toArray)
      generalize (w1.alloc (Obj.cells (rgK.enc (rg0)).toArray 60)).setRow w1.heap.size (rgK.enc ((⟨false, false, true⟩ : Rg))).toArray = w1 at *
      clear hn1 hM0 hW
      generalize w1.heap.size = GB at *
      have c0 := B.cell 0 _ rfl
      have c1 := B.cell 1 _ rfl
      have c2 := B.cell 2 _ rfl
      clear l_B
      go_wp2_with (guard_target =~ wpList _ _ _ (⟨some 11, _, _, _, _, _⟩ :: _) _ _; refine rgT.load (op := ⟨some 11, .load _ _, _, _, _, _⟩) (by rfl) _ (by rfl) GB 0 (by rfl) ((⟨false, false, true⟩ : Rg)) B.rangeK ?_)
      go_ret
      exact ⟨rfl, hb⟩
    have ba0 : (a == 0) = false := beq_false_of_ne ha0
    by_cases ha1 : a = 1
    · subst ha1
      have e1 : refI 1 id n = 6 := by
        unfold refI
        simp [hk, hcm, hfx, hid0]
        try omega
      rw [e1]
      clear e1
      clear h hk hsz hcm hfx hid0
      go_enter Try.func19, Try.ntmps19
      go_wp2_with fail
      refine (HR.out _).mono ?_
      rintro e w1 ⟨rfl, hb⟩
      clear HR
      have hn1 := bnew w1 (Obj.cells (rgK.enc (rg0)).toArray 60)
      have hM0 := Box.new w1 (rgK.enc (rg0)) 60
      go_upto_region 2 with (guard_target =~ wpList _ _ _ (⟨none, _, _, _, _, _⟩ :: _) _ _; refine rgT.store (op := ⟨none, .store _ _ _, _, _, _, _⟩) (by rfl) _ _ (by rfl) (w1.heap.size) ((⟨false, false, true⟩ : Rg)) (rg0) _ (by rfl) (by rfl) hM0 ?_)
      have l_B : w.heap.size ≤ w1.heap.size := Nat.le_trans hb.size (Nat.le_refl w1.heap.size)
      have B := hM0.rowK (rgK.enc ((⟨false, false, true⟩ : Rg)))
      have hW := below_setRow hn1 (Nat.le_refl _) (rgK.enc ((⟨false, false, true⟩ : Rg))).toArray
      replace hb := bnext hb hW
      change Code.wp Try.prog _ _ _ ((w1.alloc (Obj.cells (rgK.enc (rg0)).toArray 60)).setRow w1.heap.size (rgK.enc ((⟨false, false, true⟩ : Rg))).toArray)
      generalize (w1.alloc (Obj.cells (rgK.enc (rg0)).toArray 60)).setRow w1.heap.size (rgK.enc ((⟨false, false, true⟩ : Rg))).toArray = w1 at *
      clear hn1 hM0 hW
      generalize w1.heap.size = GB at *
      have c0 := B.cell 0 _ rfl
      have c1 := B.cell 1 _ rfl
      have c2 := B.cell 2 _ rfl
      clear l_B
      go_wp2_with (guard_target =~ wpList _ _ _ (⟨some 11, _, _, _, _, _⟩ :: _) _ _; refine rgT.load (op := ⟨some 11, .load _ _, _, _, _, _⟩) (by rfl) _ (by rfl) GB 0 (by rfl) ((⟨false, false, true⟩ : Rg)) B.rangeK ?_)
      go_ret
      exact ⟨rfl, hb⟩
    have ba1 : (a == 1) = false := beq_false_of_ne ha1
    by_cases ha3 : a = 3
    · subst ha3
      by_cases hn : n = szI id
      · have e1 : refI 3 id n = 0 := by
          unfold refI
          simp [hk, hcm, hfx, hid0, hsz, hn]
          try omega
        rw [e1]
        clear e1
        have hq : ((n : Int) != szI id) = false := bne_eq_false_iff_eq.2 hn
        clear h hk hsz hcm hfx hid0
        go_enter Try.func19, Try.ntmps19
        go_wp2_with fail
        refine (HR.out _).mono ?_
        rintro e w1 ⟨rfl, hb⟩
        clear HR
        have hn1 := bnew w1 (Obj.cells (rgK.enc (rg0)).toArray 60)
        have hM0 := Box.new w1 (rgK.enc (rg0)) 60
        go_upto_region 2 with (guard_target =~ wpList _ _ _ (⟨none, _, _, _, _, _⟩ :: _) _ _; refine rgT.store (op := ⟨none, .store _ _ _, _, _, _, _⟩) (by rfl) _ _ (by rfl) (w1.heap.size) ((⟨false, false, true⟩ : Rg)) (rg0) _ (by rfl) (by rfl) hM0 ?_)
        have l_B : w.heap.size ≤ w1.heap.size := Nat.le_trans hb.size (Nat.le_refl w1.heap.size)
        have B := hM0.rowK (rgK.enc ((⟨false, false, true⟩ : Rg)))
        have hW := below_setRow hn1 (Nat.le_refl _) (rgK.enc ((⟨false, false, true⟩ : Rg))).toArray
        replace hb := bnext hb hW
        change Code.wp Try.prog _ _ _ ((w1.alloc (Obj.cells (rgK.enc (rg0)).toArray 60)).setRow w1.heap.size (rgK.enc ((⟨false, false, true⟩ : Rg))).toArray)
        generalize (w1.alloc (Obj.cells (rgK.enc (rg0)).toArray 60)).setRow w1.heap.size (rgK.enc ((⟨false, false, true⟩ : Rg))).toArray = w1 at *
        clear hn1 hM0 hW
        generalize w1.heap.size = GB at *
        have c0 := B.cell 0 _ rfl
        have c1 := B.cell 1 _ rfl
        have c2 := B.cell 2 _ rfl
        clear l_B
        go_wp2_with (guard_target =~ wpList _ _ _ (⟨some 11, _, _, _, _, _⟩ :: _) _ _; refine rgT.load (op := ⟨some 11, .load _ _, _, _, _, _⟩) (by rfl) _ (by rfl) GB 0 (by rfl) ((⟨false, false, true⟩ : Rg)) B.rangeK ?_)
        refine (size_any id _).mono ?_
        rintro e wq ⟨rfl, rfl⟩
        go_wp2_with fail
        go_ret
        exact ⟨rfl, hb⟩
      · have e1 : refI 3 id n = 3 := by
          unfold refI
          simp [hk, hcm, hfx, hid0, hsz, hn]
          try omega
        rw [e1]
        clear e1
        have hq : ((n : Int) != szI id) = true := bne_iff_ne.2 hn
        clear h hk hsz hcm hfx hid0
        go_enter Try.func19, Try.ntmps19
        go_wp2_with fail
        refine (HR.out _).mono ?_
        rintro e w1 ⟨rfl, hb⟩
        clear HR
        have hn1 := bnew w1 (Obj.cells (rgK.enc (rg0)).toArray 60)
        have hM0 := Box.new w1 (rgK.enc (rg0)) 60
        go_upto_region 2 with (guard_target =~ wpList _ _ _ (⟨none, _, _, _, _, _⟩ :: _) _ _; refine rgT.store (op := ⟨none, .store _ _ _, _, _, _, _⟩) (by rfl) _ _ (by rfl) (w1.heap.size) ((⟨false, false, true⟩ : Rg)) (rg0) _ (by rfl) (by rfl) hM0 ?_)
        have l_B : w.heap.size ≤ w1.heap.size := Nat.le_trans hb.size (Nat.le_refl w1.heap.size)
        have B := hM0.rowK (rgK.enc ((⟨false, false, true⟩ : Rg)))
        have hW := below_setRow hn1 (Nat.le_refl _) (rgK.enc ((⟨false, false, true⟩ : Rg))).toArray
        replace hb := bnext hb hW
        change Code.wp Try.prog _ _ _ ((w1.alloc (Obj.cells (rgK.enc (rg0)).toArray 60)).setRow w1.heap.size (rgK.enc ((⟨false, false, true⟩ : Rg))).toArray)
        generalize (w1.alloc (Obj.cells (rgK.enc (rg0)).toArray 60)).setRow w1.heap.size (rgK.enc ((⟨false, false, true⟩ : Rg))).toArray = w1 at *
        clear hn1 hM0 hW
        generalize w1.heap.size = GB at *
        have c0 := B.cell 0 _ rfl
        have c1 := B.cell 1 _ rfl
        have c2 := B.cell 2 _ rfl
        clear l_B
        go_wp2_with (guard_target =~ wpList _ _ _ (⟨some 11, _, _, _, _, _⟩ :: _) _ _; refine rgT.load (op := ⟨some 11, .load _ _, _, _, _, _⟩) (by rfl) _ (by rfl) GB 0 (by rfl) ((⟨false, false, true⟩ : Rg)) B.rangeK ?_)
        refine (size_any id _).mono ?_
        rintro e wq ⟨rfl, rfl⟩
        go_wp2_with fail
        go_ret
        exact ⟨rfl, hb⟩
    have ba3 : (a == 3) = false := beq_false_of_ne ha3
    have e1 : refI a id n = 6 := by
      unfold refI
      simp [hk, hcm, hfx, hid0, ha0, ha1, ha3]
      try omega
    rw [e1]
    clear e1
    clear h hk hsz hcm hfx hid0
    go_enter Try.func19, Try.ntmps19
    go_wp2_with fail
    refine (HR.out _).mono ?_
    rintro e w1 ⟨rfl, hb⟩
    clear HR
    have hn1 := bnew w1 (Obj.cells (rgK.enc (rg0)).toArray 60)
    have hM0 := Box.new w1 (rgK.enc (rg0)) 60
    go_upto_region 2 with (guard_target =~ wpList _ _ _ (⟨none, _, _, _, _, _⟩ :: _) _ _; refine rgT.store (op := ⟨none, .store _ _ _, _, _, _, _⟩) (by rfl) _ _ (by rfl) (w1.heap.size) ((⟨false, false, true⟩ : Rg)) (rg0) _ (by rfl) (by rfl) hM0 ?_)
    have l_B : w.heap.size ≤ w1.heap.size := Nat.le_trans hb.size (Nat.le_refl w1.heap.size)
    have B := hM0.rowK (rgK.enc ((⟨false, false, true⟩ : Rg)))
    have hW := below_setRow hn1 (Nat.le_refl _) (rgK.enc ((⟨false, false, true⟩ : Rg))).toArray
    replace hb := bnext hb hW
    change Code.wp Try.prog _ _ _ ((w1.alloc (Obj.cells (rgK.enc (rg0)).toArray 60)).setRow w1.heap.size (rgK.enc ((⟨false, false, true⟩ : Rg))).toArray)
    generalize (w1.alloc (Obj.cells (rgK.enc (rg0)).toArray 60)).setRow w1.heap.size (rgK.enc ((⟨false, false, true⟩ : Rg))).toArray = w1 at *
    clear hn1 hM0 hW
    generalize w1.heap.size = GB at *
    have c0 := B.cell 0 _ rfl
    have c1 := B.cell 1 _ rfl
    have c2 := B.cell 2 _ rfl
    clear l_B
    go_wp2_with (guard_target =~ wpList _ _ _ (⟨some 11, _, _, _, _, _⟩ :: _) _ _; refine rgT.load (op := ⟨some 11, .load _ _, _, _, _, _⟩) (by rfl) _ (by rfl) GB 0 (by rfl) ((⟨false, false, true⟩ : Rg)) B.rangeK ?_)
    go_ret
    exact ⟨rfl, hb⟩

end Go.Proofs.Ytgjffmhlehcoiaa
