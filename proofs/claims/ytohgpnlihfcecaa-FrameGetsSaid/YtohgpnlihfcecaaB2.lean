/- Oct, Octb, OctRef in one. -/
import Derived.Test.YtohgpnlihfcecaaB1
namespace Go.Proofs.Ytohgpnlihfcecaa
section
open Go.RowKit Go.Proofs
set_option maxRecDepth 50000
set_option linter.unusedVariables false

open Go.RowKit Go.Proofs

set_option maxHeartbeats 400000 in
theorem number_some (b off cap : Nat) (l : List UInt8) (w : World) (hlen : l.length ≤ 9223372036854775807) (hc : ∀ i (h : i < l.length), w.cell? ⟨b, off + i, none⟩ = some (bv l[i])) :
    Calls Try.prog 92 #[.slice (some ⟨b, off, none⟩) l.length cap] w fun e w' => e = .returned (.int .u64 (num l)) ∧ w = w' := by
  have Hc := hid hc
  clear hc
  go_enter Try.func92, Try.ntmps92
  go_wp2
  refine wp_scope_loop 0 (fun a' w' => w = w' ∧ ∃ (k v : Nat) (x : Int), k ≤ l.length ∧ v = num (l.take k) ∧ x = v ∧ ∃ (u5 u6 u7 u8 u9 u10 u11 u12 u13 u14 u15 u16 u17 u18 u19 : Value), a' = { tmps := #[.slice (some ⟨b, off, none⟩) l.length cap, undef, .int .u64 0, .int .u64 x, .int .i64 k, u5, u6, u7, u8, u9, u10, u11, u12, u13, u14, u15, u16, u17, u18, u19], defers := [] }) (fun a' _ => l.length - (intOf (a'.tmps.getD 4 undef)).toNat) rfl ?_ ?_
  · rintro a' w' ⟨rfl, k, v, _, hk, hv, rfl, _, _, _, _, _, _, _, _, _, _, _, _, _, _, _, rfl⟩
    have Hv := hid hv
    clear hv
    by_cases h : k < l.length
    · have hcell := Hc.out k h
      go_wp2
      go_step3
      refine ⟨rfl, ⟨rfl, k + 1, (v * 256 + l[k].toNat) % 18446744073709551616, _, by omega, ?_, ?_, by (repeat apply Exists.intro); rfl⟩, ?_⟩
      · rw [take_snoc l k h, num_snoc, ← Hv.out]
      · exact num_step v _
      · simp [intOf]; omega
    · obtain rfl : k = l.length := by omega
      go_wp2
      simp only [Exit.jump]
      go_ret
      exact ⟨ret_int (by rw [Hv.out, List.take_length]), rfl⟩
  · intro Q' hQ' hpass
    go_wp2
    refine at_label hpass (by assumption) ?_
    exact ⟨rfl, 0, 0, 0, Nat.zero_le _, rfl, rfl, by (repeat apply Exists.intro); rfl⟩

theorem info5 : (Try.prog.info? 5).map (fun i => (i.zero, i.size, i.bytes)) = some (some (.int .u8 0), 1, 1) := by kernel_rfl

set_option maxHeartbeats 400000 in
theorem behind_any (v : Value) (l : List UInt8) (x n : Int) (w : World) (hB : Bytes w v l) (hl : l.length ≤ 140737488355328) (hx : 0 ≤ x) (hn0 : 0 ≤ n) (hn8 : n ≤ 8) :
    Calls Try.prog 84 #[v, .int .u64 x, .int .i64 n] w (NewBytes w (l ++ putN x.toNat n.toNat)) := by
  obtain ⟨p, cap, rfl, hcap, hmax, hat⟩ := hB
  obtain ⟨m, rfl⟩ := Int.eq_ofNat_of_zero_le hn0
  obtain ⟨X, rfl⟩ := Int.eq_ofNat_of_zero_le hx
  rw [Int.toNat_natCast, Int.toNat_natCast]
  obtain ⟨i0, hi, hz0, hz1, hz2⟩ := info_parts info5
  have hmk : ∀ w' : World, (Instr.makeSlice 43 (.int .i64 ((l.length : Int) + (m : Int))) (.int .i64 ((l.length : Int) + (m : Int)))).run Try.prog w' = .ok (.slice (some ⟨w'.heap.size, 0, none⟩) (l.length + m) (l.length + m)) (w'.alloc (.cells (cellsOf (List.replicate (l.length + m) 0)).toArray 5)) := by
    intro w'
    have h := run_make (P := Try.prog) w' 43 5 i0 _ Try.underlying43 hi hz0 .i64 .i64 ((l.length : Int) + (m : Int)) ((l.length : Int) + (m : Int)) (by omega) (by omega) (by rw [hz2]; omega) (by omega)
    rw [h, hz1]
    have e1 : ((l.length : Int) + (m : Int)).toNat = l.length + m := by omega
    have e2 : madeCells (Value.cells (.int .u8 0)) ((l.length + m) * 1) = (cellsOf (List.replicate (l.length + m) 0)).toArray := by
      apply Array.ext'
      rw [Nat.mul_one]
      show (madeCells #[_] _).toList = _
      rw [toList_madeCells_one]
      simp [cellsOf]
    rw [e1, e2]
  have hm8 : m ≤ 8 := by omega
  obtain ⟨w2, hcp, hh2, hb2, _⟩ := run_copy_bytes (P := Try.prog) (w.alloc (.cells (cellsOf (List.replicate (l.length + m) 0)).toArray 5)) 43 43 3 5 5 Try.underlying43 (by kernel_rfl) w.heap.size (l.length + m) p cap l (List.replicate (l.length + m) 0) (heap_alloc_new w _) (by simp) (hat.below ((Below.refl _ _).alloc (Nat.le_refl _) _))
  have hb2 := ((Below.refl w.heap.size w).alloc (Nat.le_refl _) _).trans hb2
  simp only [List.drop_replicate, List.length_replicate, Nat.add_sub_cancel_left] at hcp hh2
  have Hh := hid hh2
  clear hh2
  clear hi hz0 hz1 hz2 hn0 hn8 hx
  go_enter Try.func84, Try.ntmps84
  go_wp2
  refine wp_scope_loop 0 (fun a' w' => ∃ (k q : Nat) (r : List UInt8), k + q = l.length + m ∧ q ≤ m ∧ r ++ putN X q = l ++ putN X m ∧ r.length = k ∧ w'.ownsRow w.heap.size 5 1 (.slice (some ⟨w.heap.size, 0, none⟩) (l.length + m) (l.length + m)) (l.length + m) (cellsOf (r ++ List.replicate q 0)) ∧ Below w.heap.size w w' ∧ ∃ (u9 u10 u11 u12 u13 u14 u15 u16 u17 u18 u19 u20 u21 u22 u23 u24 u25 u26 u27 u28 u29 u30 u31 u32 u33 : Value), a' = { tmps := #[.slice p l.length cap, .int .u64 X, .int .i64 q, undef, undef, undef, .slice none 0 0, .slice (some ⟨w.heap.size, 0, none⟩) (l.length + m) (l.length + m), .int .i64 k, u9, u10, u11, u12, u13, u14, u15, u16, u17, u18, u19, u20, u21, u22, u23, u24, u25, u26, u27, u28, u29, u30, u31, u32, u33], defers := [] }) (fun a' _ => (intOf (a'.tmps.getD 2 undef)).toNat) rfl ?_ ?_
  · rintro a' w' ⟨k, q, r, hkq, hqm, hr, hrk, hown, hbel, _, _, _, _, _, _, _, _, _, _, _, _, _, _, _, _, _, _, _, _, _, _, _, _, _, rfl⟩
    have Hr := hid hr
    have Hrk := hid hrk
    have Hkq := hid hkq
    clear hr hrk hkq hmk
    by_cases h : q = 0
    · obtain rfl : k = l.length + m := by have := Hkq.out; omega
      subst h
      have e : r = l ++ putN X m := by have := Hr.out; simpa [putN] using this
      go_wp2
      simp only [Exit.jump]
      go_ret
      have el : (l ++ putN X m).length = l.length + m := by rw [List.length_append, putN_length]
      refine ⟨.slice (some ⟨w.heap.size, 0, none⟩) (l.length + m) (l.length + m), rfl, ?_, hbel⟩
      unfold Own
      rw [el]
      simpa [e] using hown
    · obtain ⟨q', rfl⟩ : ∃ q', q = q' + 1 := ⟨q - 1, by omega⟩
      have hlt : k < l.length + m := by have := Hkq.out; omega
      have hcell : w'.cell? ⟨w.heap.size, k, none⟩ = some (bv 0) := by
        rw [hown.cellAt k (by omega), cellsOf_get _ _ (by rw [List.length_append, Hrk.out, List.length_replicate]; omega)]
        simp [Hrk.out]
      have hfree := hown.frozenAt k
      have hst := hown.stored k (bv (UInt8.ofNat (X / 256 ^ q')))
      rw [cellsOf_set r q' _ k Hrk.out, ← bv_div] at hst
      go_wp2
      go_step3
      refine ⟨rfl, ⟨k + 1, q', r ++ [UInt8.ofNat (X / 256 ^ q')], by have := Hkq.out; omega, by omega, ?_, by simp [Hrk.out], hst.1, hbel.setCell (Nat.le_refl _) _, by (repeat apply Exists.intro); rfl⟩, by simp [intOf]⟩
      rw [← Hr.out, putN, List.append_assoc]
      rfl
  · intro Q' hQ' hpass
    go_wp2
    refine at_label hpass (by assumption) ?_
    refine ⟨l.length, m, l, rfl, Nat.le_refl _, rfl, rfl, ?_, hb2, by (repeat apply Exists.intro); rfl⟩
    refine ownsRow_of_heap _ (Nat.le_refl _) Hh.out (by simp [cellsOf_length]) ?_
    unfold maxLen
    omega

/-- Do n bytes stand from at on? -/
def standB (len at' n : Int) : Bool := decide (0 ≤ at' ∧ 0 ≤ n ∧ n ≤ len - at')

theorem standB_true {len at' n : Int} (h0 : 0 ≤ at') (h1 : 0 ≤ n) (h2 : n ≤ len - at') : standB len at' n = true := decide_eq_true ⟨h0, h1, h2⟩

theorem standB_false {len at' n : Int} (h : ¬ (0 ≤ at' ∧ 0 ≤ n ∧ n ≤ len - at')) : standB len at' n = false := decide_eq_false h

theorem standB_iff {len at' n : Int} : standB len at' n = true ↔ 0 ≤ at' ∧ 0 ≤ n ∧ n ≤ len - at' := by simp [standB]

set_option maxHeartbeats 400000 in
theorem stand_any (p : Option Addr) (len cap : Nat) (at' n : Int) (w : World) (hlen : len ≤ 9223372036854775807) (hat : at' ≤ 9223372036854775807) :
    Calls Try.prog 91 #[.slice p len cap, .int .i64 at', .int .i64 n] w fun e w' => e = .returned (.bool (standB len at' n)) ∧ w = w' := by
  by_cases h1 : 0 ≤ at'
  · by_cases h2 : 0 ≤ n
    · go_enter Try.func91, Try.ntmps91
      go_wp2
      go_ret
      refine ⟨ret_bool ?_, rfl⟩
      rw [Bool.eq_iff_iff, standB_iff, decide_eq_true_iff]
      omega
    · go_enter Try.func91, Try.ntmps91
      go_wp2
      go_ret
      exact ⟨ret_bool (standB_false (by omega)).symm, rfl⟩
  · go_enter Try.func91, Try.ntmps91
    go_wp2
    go_ret
    exact ⟨ret_bool (standB_false (by omega)).symm, rfl⟩







end

section
open Go.RowKit Go.Proofs
set_option maxRecDepth 50000
set_option linter.unusedVariables false

open Go.RowKit Go.Proofs

theorem number_any (v : Value) (l : List UInt8) (w : World) (hB : Bytes w v l) (hpos : 0 < l.length) (hlen : l.length ≤ 9223372036854775807) :
    Calls Try.prog 92 #[v] w fun e w' => e = .returned (.int .u64 (num l)) ∧ w = w' := by
  obtain ⟨p, cap, rfl, _, _, hat⟩ := hB
  obtain ⟨b, off, rfl, _, hc⟩ := hat.pos hpos
  exact number_some b off cap l w hlen hc

set_option maxHeartbeats 400000 in
theorem get_ok (v : Value) (l : List UInt8) (at' n : Int) (w : World) (hB : Bytes w v l) (hl : l.length ≤ 140737488355328) (hat : at' ≤ 9223372036854775807) (hn1 : 1 ≤ n) (hn7 : n ≤ 7) (hn : standB l.length at' n = true) :
    Calls Try.prog 65 #[v, .int .i64 at', .int .i64 n] w fun e w' => e = .returned (.tuple #[.int .i64 (numAt l at'.toNat n.toNat), .bool true]) ∧ w = w' := by
  obtain ⟨p, cap, rfl, hcap, hmax, hpat⟩ := hB
  have hs := standB_iff.1 hn
  obtain ⟨ha0, hn0, hfit⟩ := hs
  obtain ⟨A, rfl⟩ := Int.eq_ofNat_of_zero_le ha0
  obtain ⟨m, rfl⟩ := Int.eq_ofNat_of_zero_le hn0
  rw [Int.toNat_natCast, Int.toNat_natCast]
  obtain ⟨b, off, rfl, hlt, hc⟩ := hpat.pos (by omega)
  have hcut : ∀ c, c = cap - A → Bytes w (.slice (some ⟨b, off + A, none⟩) m c) ((l.drop A).take m) := fun c hcc => Bytes.cut A m c hlt hc (by omega) hcap hmax hcc
  have hlen : ((l.drop A).take m).length = m := by rw [List.length_take, List.length_drop]; omega
  have hsm := num_at_lt l A m (by omega)
  have Hcut := hid hcut
  have Hlen := hid hlen
  unfold maxLen at hmax
  clear hc hcut hlen hpat
  go_enter Try.func65, Try.ntmps65
  go_wp2_with (go_at_call 91; refine (stand_any _ _ _ _ _ _ (by omega) hat).mono ?_; rintro e w' ⟨rfl, rfl⟩)
  refine (number_any _ _ _ (Hcut.out _ rfl) (by rw [Hlen.out]; omega) (by rw [Hlen.out]; omega)).mono ?_
  rintro e w' ⟨rfl, rfl⟩
  go_wp2_with fail
  go_ret2
  exact ⟨ret_int_bool (IntWalk.wrap64_in _ ⟨by omega, by unfold numAt at hsm; omega⟩) rfl, rfl⟩

set_option maxHeartbeats 400000 in
theorem get_no (v : Value) (l : List UInt8) (at' n : Int) (w : World) (hB : Bytes w v l) (hl : l.length ≤ 140737488355328) (hat : at' ≤ 9223372036854775807) (hn : ¬ (1 ≤ n ∧ n ≤ 7) ∨ standB l.length at' n = false) :
    Calls Try.prog 65 #[v, .int .i64 at', .int .i64 n] w fun e w' => e = .returned (.tuple #[.int .i64 0, .bool false]) ∧ w = w' := by
  obtain ⟨p, cap, rfl, hcap, hmax, hpat⟩ := hB
  by_cases h1 : n < 1
  · go_enter Try.func65, Try.ntmps65
    go_wp2
    go_ret2
    exact ⟨rfl, rfl⟩
  by_cases h2 : 7 < n
  · go_enter Try.func65, Try.ntmps65
    go_wp2
    go_ret2
    exact ⟨rfl, rfl⟩
  have hs : standB l.length at' n = false := hn.resolve_left (by omega)
  clear hn
  go_enter Try.func65, Try.ntmps65
  go_wp2_with (go_at_call 91; refine (stand_any _ _ _ _ _ _ (by omega) hat).mono ?_; rintro e w' ⟨rfl, rfl⟩)
  go_ret2
  exact ⟨rfl, rfl⟩

set_option maxHeartbeats 400000 in
theorem getId_ok (v : Value) (l : List UInt8) (at' : Int) (w : World) (hB : Bytes w v l) (hl : l.length ≤ 140737488355328) (hat : at' ≤ 9223372036854775807) (hn : standB l.length at' 8 = true) :
    Calls Try.prog 89 #[v, .int .i64 at'] w fun e w' => e = .returned (.tuple #[.int .u64 (numAt l at'.toNat 8), .bool true]) ∧ w = w' := by
  obtain ⟨p, cap, rfl, hcap, hmax, hpat⟩ := hB
  have hs := standB_iff.1 hn
  obtain ⟨ha0, hn0, hfit⟩ := hs
  obtain ⟨A, rfl⟩ := Int.eq_ofNat_of_zero_le ha0
  rw [Int.toNat_natCast]
  obtain ⟨b, off, rfl, hlt, hc⟩ := hpat.pos (by omega)
  have hcut : ∀ c, c = cap - A → Bytes w (.slice (some ⟨b, off + A, none⟩) 8 c) ((l.drop A).take 8) := fun c hcc => Bytes.cut A 8 c hlt hc (by omega) hcap hmax hcc
  have hlen : ((l.drop A).take 8).length = 8 := by rw [List.length_take, List.length_drop]; omega
  have Hcut := hid hcut
  have Hlen := hid hlen
  unfold maxLen at hmax
  clear hc hcut hlen hpat
  go_enter Try.func89, Try.ntmps89
  go_wp2_with (go_at_call 91; refine (stand_any _ _ _ _ _ _ (by omega) hat).mono ?_; rintro e w' ⟨rfl, rfl⟩)
  refine (number_any _ _ _ (Hcut.out _ rfl) (by rw [Hlen.out]; omega) (by rw [Hlen.out]; omega)).mono ?_
  rintro e w' ⟨rfl, rfl⟩
  go_wp2_with fail
  go_ret2
  exact ⟨rfl, rfl⟩

set_option maxHeartbeats 400000 in
theorem getId_no (v : Value) (l : List UInt8) (at' : Int) (w : World) (hB : Bytes w v l) (hl : l.length ≤ 140737488355328) (hat : at' ≤ 9223372036854775807) (hn : standB l.length at' 8 = false) :
    Calls Try.prog 89 #[v, .int .i64 at'] w fun e w' => e = .returned (.tuple #[.int .u64 0, .bool false]) ∧ w = w' := by
  obtain ⟨p, cap, rfl, hcap, hmax, hpat⟩ := hB
  go_enter Try.func89, Try.ntmps89
  go_wp2_with (go_at_call 91; refine (stand_any _ _ _ _ _ _ (by omega) hat).mono ?_; rintro e w' ⟨rfl, rfl⟩)
  go_ret2
  exact ⟨rfl, rfl⟩

set_option maxHeartbeats 400000 in
theorem putId_any (v : Value) (l : List UInt8) (x : Int) (w : World) (hB : Bytes w v l) (hl : l.length ≤ 140737488355328) (hx : 0 ≤ x) :
    Calls Try.prog 87 #[v, .int .u64 x] w (NewBytes w (l ++ putN x.toNat 8)) := by
  go_enter Try.func87, Try.ntmps87
  go_wp2_with (go_at_call 84; refine (behind_any _ l _ _ _ hB hl hx (by omega) (by omega)).mono ?_; rintro e w' ⟨v', rfl, hown, hbel⟩)
  go_ret
  exact ⟨v', rfl, hown, hbel⟩

set_option maxHeartbeats 400000 in
theorem put_any (v : Value) (l : List UInt8) (x n : Int) (w : World) (hB : Bytes w v l) (hl : l.length ≤ 140737488355328) :
    Calls Try.prog 39 #[v, .int .i64 x, .int .i64 n] w (NewBytes w (l ++ putS x n)) := by
  go_enter Try.func39, Try.ntmps39
  go_wp2_with fail
  all_goals
    refine (behind_any _ l _ _ _ hB hl (u64_wrap_nonneg _) (by omega) (by omega)).mono ?_
    rintro e w' ⟨v', rfl, hown, hbel⟩
    go_wp2_with fail
    go_ret
    refine ⟨v', rfl, ?_, hbel⟩
    rw [u64_wrap_toNat] at hown
    unfold putS
  · rw [show min (max n 0) 8 = 8 by omega]
    exact hown
  · rw [show min (max n 0) 8 = 0 by omega]
    exact hown
  · rw [show min (max n 0) 8 = n by omega]
    exact hown

set_option maxHeartbeats 400000 in
theorem signed_ok (v : Value) (l : List UInt8) (at' n : Int) (w : World) (hB : Bytes w v l) (hl : l.length ≤ 140737488355328) (hat : at' ≤ 9223372036854775807) (hn1 : 1 ≤ n) (hn8 : n ≤ 8) (hn : standB l.length at' n = true) :
    Calls Try.prog 88 #[v, .int .i64 at', .int .i64 n] w fun e w' => e = .returned (.tuple #[.int .i64 (signedAt l at'.toNat n.toNat), .bool true]) ∧ w = w' := by
  obtain ⟨p, cap, rfl, hcap, hmax, hpat⟩ := hB
  have hs := standB_iff.1 hn
  obtain ⟨ha0, hn0, hfit⟩ := hs
  obtain ⟨A, rfl⟩ := Int.eq_ofNat_of_zero_le ha0
  obtain ⟨m, rfl⟩ := Int.eq_ofNat_of_zero_le hn0
  rw [Int.toNat_natCast, Int.toNat_natCast]
  obtain ⟨b, off, rfl, hlt, hc⟩ := hpat.pos (by omega)
  have hcut : ∀ c, c = cap - A → Bytes w (.slice (some ⟨b, off + A, none⟩) m c) ((l.drop A).take m) := fun c hcc => Bytes.cut A m c hlt hc (by omega) hcap hmax hcc
  have hlen : ((l.drop A).take m).length = m := by rw [List.length_take, List.length_drop]; omega
  have Hcut := hid hcut
  have Hlen := hid hlen
  unfold maxLen at hmax
  clear hc hcut hlen hpat
  go_enter Try.func88, Try.ntmps88
  go_wp2_with (go_at_call 91; refine (stand_any _ _ _ _ _ _ (by omega) hat).mono ?_; rintro e w' ⟨rfl, rfl⟩)
  refine (number_any _ _ _ (Hcut.out _ rfl) (by rw [Hlen.out]; omega) (by rw [Hlen.out]; omega)).mono ?_
  rintro e w' ⟨rfl, rfl⟩
  obtain ⟨x, hx⟩ : ∃ x, x = num ((l.drop A).take m) := ⟨_, rfl⟩
  rw [← hx]
  have Hx := hid hx
  clear hx
  go_wp2_with fail
  go_ret2
  refine ⟨ret_int_bool ?_ rfl, rfl⟩
  have hx : x < 256 ^ m := by
    have h := num_small ((l.drop A).take m)
    rwa [Hlen.out, ← Hx.out] at h
  rw [sign_shift x m (by omega) (by omega) hx]
  unfold signedAt numAt
  rw [← Hx.out]

set_option maxHeartbeats 400000 in
theorem signed_no (v : Value) (l : List UInt8) (at' n : Int) (w : World) (hB : Bytes w v l) (hl : l.length ≤ 140737488355328) (hat : at' ≤ 9223372036854775807) (hn : ¬ (1 ≤ n ∧ n ≤ 8) ∨ standB l.length at' n = false) :
    Calls Try.prog 88 #[v, .int .i64 at', .int .i64 n] w fun e w' => e = .returned (.tuple #[.int .i64 0, .bool false]) ∧ w = w' := by
  obtain ⟨p, cap, rfl, hcap, hmax, hpat⟩ := hB
  by_cases h1 : n < 1
  · go_enter Try.func88, Try.ntmps88
    go_wp2
    go_ret2
    exact ⟨rfl, rfl⟩
  by_cases h2 : 8 < n
  · go_enter Try.func88, Try.ntmps88
    go_wp2
    go_ret2
    exact ⟨rfl, rfl⟩
  have hs : standB l.length at' n = false := hn.resolve_left (by omega)
  clear hn
  go_enter Try.func88, Try.ntmps88
  go_wp2_with (go_at_call 91; refine (stand_any _ _ _ _ _ _ (by omega) hat).mono ?_; rintro e w' ⟨rfl, rfl⟩)
  go_ret2
  exact ⟨rfl, rfl⟩

theorem stand_putS (x k : Int) (h0 : 0 ≤ k) (h8 : k ≤ 8) : standB (([] ++ putS x k).length : Nat) 0 k = true := by
  rw [List.nil_append, putS_length x k h0 h8]
  exact standB_true (by decide) h0 (by omega)

theorem stand_behind (c : UInt8) (x k : Int) (h0 : 0 ≤ k) (h8 : k ≤ 8) : standB (([c] ++ putS x k).length : Nat) 1 k = true := by
  rw [List.length_append, putS_length x k h0 h8]
  exact standB_true (by decide) h0 (by simp; omega)
end

section
open Go.RowKit Go.Proofs
set_option maxRecDepth 50000
set_option linter.unusedVariables false

open Go.RowKit Go.Proofs
set_option linter.unusedVariables false

set_option maxHeartbeats 800000 in
theorem refPut_any (x n : Int) (w : World) :
    Calls Try.prog 45 #[.int .i64 x, .int .i64 n] w (NewBytes w (putS x n)) := by
  obtain ⟨m, hm⟩ : ∃ m : Nat, (m : Int) = min (max n 0) 8 := ⟨(min (max n 0) 8).toNat, by omega⟩
  have hm8 : m ≤ 8 := by omega
  have hS : putS x n = putN (x % 18446744073709551616).toNat m := by unfold putS; rw [← hm, Int.toNat_natCast]
  rw [hS]
  have hmk := fun w' => make_bytes m (by omega) (m : Int) (m : Int) rfl rfl w'
  clear hS
  go_enter Try.func45, Try.ntmps45
  go_upto_region 1 with (fail)
  go_cut [1] (fun s w' => s = .int .i64 m ∧ w = w')
  case first =>
    go_wp2_with fail
    all_goals go_meet
    · exact ⟨by rw [show (m : Int) = 8 by omega], rfl⟩
    · exact ⟨by rw [show (m : Int) = 0 by omega], rfl⟩
    · exact ⟨by rw [show (m : Int) = n by omega], rfl⟩
  case rest =>
    obtain ⟨rfl, rfl⟩ := hcut
    clear hm
    go_wp2_with fail
    obtain ⟨V, hV⟩ : ∃ V, V = (x % 18446744073709551616).toNat := ⟨_, rfl⟩
    have hx : IntKind.u64.wrap x = (V : Int) := by rw [hV, ← u64_wrap_toNat, Int.toNat_of_nonneg (u64_wrap_nonneg _)]
    rw [← hV, hx]
    have Hlt : Hid (V < 18446744073709551616) := hid (by rw [hV]; have := Int.emod_lt_of_pos x (show (0 : Int) < 18446744073709551616 by decide); have := Int.emod_nonneg x (show (18446744073709551616 : Int) ≠ 0 by decide); omega)
    have HV := hid hV
    clear hV hx
    go_loopw [6, 7] (fun u i wr => ∃ (j q U : Nat) (I : Int), q + j = m ∧ i = .int .i64 I ∧ I = (q : Int) - 1 ∧ u = .int .u64 U ∧ U = V / 256 ^ j ∧ Own wr w.heap.size (.slice (some ⟨w.heap.size, 0, none⟩) m m) (List.replicate q 0 ++ putN V j) ∧ Below w.heap.size w wr) (fun _ i _ => (intOf i + 1).toNat)
    case atStart =>
      have hown := Own.lit w (List.replicate m 0) (by simp [maxLen]; omega)
      rw [List.length_replicate] at hown
      exact ⟨0, m, V, _, rfl, rfl, rfl, rfl, by simp, by simpa [putN] using hown, bnew _ _⟩
    case round =>
      obtain ⟨j, q, U, I, hqj, rfl, hI, rfl, hU, hown, hbel⟩ := hrel
      by_cases h : q = 0
      · obtain rfl : I = -1 := by omega
        obtain rfl : j = m := by omega
        subst h
        have Hown := hid hown
        clear hown hmk hU hqj hI
        go_wp2_with fail
        go_ret
        rw [← HV.out]
        exact ⟨_, rfl, by simpa using Hown.out, hbel⟩
      · obtain ⟨q', rfl⟩ : ∃ q', q = q' + 1 := ⟨q - 1, by omega⟩
        obtain rfl : I = (q' : Int) := by omega
        have hq : q' < m := by omega
        have hcell := hown.cell q' (by rw [List.length_append, List.length_replicate]; omega)
        have hfree := hown.free q'
        have hset := hown.set q' (UInt8.ofNat (V / 256 ^ j))
        rw [set_last] at hset
        have hb : Value.int .u8 ((U : Int) % 256) = bv (UInt8.ofNat (V / 256 ^ j)) := by
          unfold bv
          rw [UInt8.toNat_ofNat', hU]
          simp [Int.natCast_ediv, Int.natCast_pow]
        have hw : IntKind.u64.wrap ((U : Int) / 256) = (U : Int) / 256 := by
          have h1 := Hlt.out
          have h2 : U ≤ V := by rw [hU]; exact Nat.div_le_self _ _
          rw [IntKind.wrap_u64]
          omega
        have hU' : U / 256 = V / 256 ^ (j + 1) := by rw [hU, Nat.pow_succ, Nat.div_div_eq_div_mul]
        have Hset := hid hset
        have HU := hid hU'
        have Hb := hid hb
        have Hqj := hid hqj
        clear hset hU' hU hb hown hqj hI hmk
        go_wp2_with fail
        go_roundw
        case rel =>
          have e := Hset.out
          rw [← Hb.out] at e
          refine ⟨j + 1, q', U / 256, _, by have := Hqj.out; omega, rfl, rfl, by go_num, HU.out, ?_, hbel.setCell (Nat.le_refl _) _⟩
          exact e
        case measure => simp [intOf]

set_option maxHeartbeats 400000 in
theorem refPutId_any (x : Int) (w : World) (hx : 0 ≤ x) (hx2 : x < 18446744073709551616) :
    Calls Try.prog 56 #[.int .u64 x] w (NewBytes w (putN x.toNat 8)) := by
  have Hx := hid hx2
  clear hx2
  go_enter Try.func56, Try.ntmps56
  go_wp2_with fail
  refine (refPut_any _ _ _).mono ?_
  rintro e w1 ⟨v, rfl, hown, hbel⟩
  go_wp2_with fail
  go_ret
  refine ⟨v, rfl, ?_, hbel⟩
  have e : putN x.toNat 8 = putS (wrap64 x) 8 := by
    have hx2 := Hx.out
    unfold putS
    rw [show (min (max (8 : Int) 0) 8).toNat = 8 by decide]
    congr 1
    unfold wrap64
    omega
  rw [e]
  exact hown
set_option maxHeartbeats 400000 in
theorem fits_any (p : Option Addr) (len cap : Nat) (at' n : Int) (w : World) (hlen : len ≤ 9223372036854775807) (hat : at' ≤ 9223372036854775807) (hn : 0 ≤ n) :
    Calls Try.prog 93 #[.slice p len cap, .int .i64 at', .int .i64 n] w fun e w' => e = .returned (.bool (standB len at' n)) ∧ w = w' := by
  by_cases h1 : 0 ≤ at'
  · by_cases h2 : at' ≤ len
    · go_enter Try.func93, Try.ntmps93
      go_wp2
      go_ret
      refine ⟨ret_bool ?_, rfl⟩
      rw [Bool.eq_iff_iff, standB_iff, decide_eq_true_iff]
      omega
    · go_enter Try.func93, Try.ntmps93
      go_wp2
      go_ret
      exact ⟨ret_bool (standB_false (by omega)).symm, rfl⟩
  · go_enter Try.func93, Try.ntmps93
    go_wp2
    go_ret
    exact ⟨ret_bool (standB_false (by omega)).symm, rfl⟩

theorem num_take_succ (l : List UInt8) (A k : Nat) (h : A + k < l.length) (hk : k < 7) : num ((l.drop A).take (k + 1)) = 256 * num ((l.drop A).take k) + l[A + k].toNat := by
  have h1 : (l.drop A).take (k + 1) = (l.drop A).take k ++ [l[A + k]] := by
    rw [take_snoc _ k (by rw [List.length_drop]; omega), List.getElem_drop]
  have h2 : num ((l.drop A).take k) < 281474976710656 := by
    refine Nat.lt_of_lt_of_le (num_small _) ?_
    refine Nat.le_trans (Nat.pow_le_pow_right (by decide) (show _ ≤ 6 from ?_)) (by decide)
    rw [List.length_take]
    omega
  have h3 : l[A + k].toNat < 256 := l[A + k].toNat_lt
  rw [h1, num_snoc, Nat.mod_eq_of_lt (by omega), Nat.mul_comm]

set_option maxHeartbeats 800000 in
theorem refGet_ok (v : Value) (l : List UInt8) (at' n : Int) (w : World) (hB : Bytes w v l) (hl : l.length ≤ 140737488355328) (hat : at' ≤ 9223372036854775807) (hn1 : 1 ≤ n) (hn7 : n ≤ 7) (hn : standB l.length at' n = true) :
    Calls Try.prog 67 #[v, .int .i64 at', .int .i64 n] w fun e w' => e = .returned (.tuple #[.int .i64 (numAt l at'.toNat n.toNat), .bool true]) ∧ w = w' := by
  obtain ⟨p, cap, rfl, hcap, hmax, hpat⟩ := hB
  have hs := standB_iff.1 hn
  obtain ⟨ha0, hn0, hfit⟩ := hs
  obtain ⟨A, rfl⟩ := Int.eq_ofNat_of_zero_le ha0
  obtain ⟨m, rfl⟩ := Int.eq_ofNat_of_zero_le hn0
  rw [Int.toNat_natCast, Int.toNat_natCast]
  obtain ⟨b, off, rfl, hlt, hc⟩ := hpat.pos (by omega)
  have Hc := hid hc
  have Hn := hid hn
  unfold maxLen at hmax
  clear hc hn hpat
  go_enter Try.func67, Try.ntmps67
  go_wp2_with fail
  refine (fits_any _ _ _ _ _ _ (by omega) hat hn0).mono ?_
  rintro e w' ⟨rfl, rfl⟩
  rw [Hn.out]
  go_wp2_with fail
  go_loop [8, 9] (fun v i => ∃ (k : Nat) (X : Int), k ≤ m ∧ i = .int .i64 k ∧ v = .int .i64 X ∧ 0 ≤ X ∧ Hid (X = (num ((l.drop A).take k) : Nat))) (fun _ i => m - (intOf i).toNat)
  case atStart => exact ⟨0, 0, Nat.zero_le _, rfl, rfl, by decide, hid (by simp [num])⟩
  case round =>
    obtain ⟨k, X, hk, rfl, rfl, hX0, hX⟩ := hrel
    have hXlt : X < 72057594037927936 := by
      rw [hX.out]
      have := num_at_lt l A k (by omega)
      unfold numAt at this
      omega
    by_cases hlt : k < m
    · have hXlt2 : X < 281474976710656 := by
        rw [hX.out]
        have : num ((l.drop A).take k) < 281474976710656 := by
          refine Nat.lt_of_lt_of_le (num_small _) ?_
          refine Nat.le_trans (Nat.pow_le_pow_right (by decide) (show _ ≤ 6 from ?_)) (by decide)
          rw [List.length_take]
          omega
        omega
      have hcell := Hc.out (A + k) (by omega)
      have hb : l[A + k].toNat < 256 := l[A + k].toNat_lt
      go_wp2_with fail
      go_round
      case rel => exact ⟨k + 1, _, by omega, by go_num, rfl, by omega, hid (by rw [num_take_succ l A k (by omega) (by omega)]; have := hX.out; omega)⟩
      case measure => simp [intOf]; omega
    · obtain rfl : k = m := by omega
      go_wp2_with fail
      go_ret2
      exact ⟨ret_int_bool hX.out rfl, rfl⟩

set_option maxHeartbeats 400000 in
theorem refGet_no (v : Value) (l : List UInt8) (at' n : Int) (w : World) (hB : Bytes w v l) (hl : l.length ≤ 140737488355328) (hat : at' ≤ 9223372036854775807) (hn : ¬ (1 ≤ n ∧ n ≤ 7) ∨ standB l.length at' n = false) :
    Calls Try.prog 67 #[v, .int .i64 at', .int .i64 n] w fun e w' => e = .returned (.tuple #[.int .i64 0, .bool false]) ∧ w = w' := by
  obtain ⟨p, cap, rfl, hcap, hmax, hpat⟩ := hB
  by_cases h1 : n < 1
  · go_enter Try.func67, Try.ntmps67
    go_wp2
    go_ret2
    exact ⟨rfl, rfl⟩
  by_cases h2 : 7 < n
  · go_enter Try.func67, Try.ntmps67
    go_wp2
    go_ret2
    exact ⟨rfl, rfl⟩
  have hs : standB l.length at' n = false := hn.resolve_left (by omega)
  have Hs := hid hs
  clear hn hs
  go_enter Try.func67, Try.ntmps67
  go_wp2_with fail
  refine (fits_any _ _ _ _ _ _ (by omega) hat (by omega)).mono ?_
  rintro e w' ⟨rfl, rfl⟩
  rw [Hs.out]
  go_wp2_with fail
  go_ret2
  exact ⟨rfl, rfl⟩
end
end Go.Proofs.Ytohgpnlihfcecaa
