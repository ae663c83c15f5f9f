/- Contracts of package octets. -/
import Derived.Test.YtgjffmhlehcoiaaLib
namespace Go.Proofs.Ytgjffmhlehcoiaa
open Go.RowKit Go.Proofs
set_option maxRecDepth 50000
set_option linter.unusedVariables false

open Go.RowKit Go.Proofs

set_option maxHeartbeats 400000 in
theorem number_some (b off cap : Nat) (l : List UInt8) (w : World) (hlen : l.length ≤ 9223372036854775807) (hc : ∀ i (h : i < l.length), w.cell? ⟨b, off + i, none⟩ = some (bv l[i])) :
    Calls Try.prog 41 #[.slice (some ⟨b, off, none⟩) l.length cap] w fun e w' => e = .returned (.int .u64 (num l)) ∧ w = w' := by
  have Hc := hid hc
  clear hc
  go_enter Try.func41, Try.ntmps41
  go_wp2
  refine wp_scope_loop 0 (fun a' w' => w = w' ∧ ∃ (k v : Nat) (x : Int), k ≤ l.length ∧ v = num (l.take k) ∧ x = v ∧ ∃ (u5 u6 u7 u8 u9 u10 u11 u12 u13 u14 u15 u16 u17 u18 u19 : Value), a' = { tmps := #[.slice (some ⟨b, off, none⟩) l.length cap, undef, .int .u64 0, .int .u64 x, .int .i64 k, u5, u6, u7, u8, u9, u10, u11, u12, u13, u14, u15, u16, u17, u18, u19], defers := [] }) (fun a' _ => l.length - (intOf (a'.tmps.getD 4 undef)).toNat) rfl ?_ ?_
  · rintro a' w' ⟨rfl, k, v, _, hk, hv, rfl, _, _, _, _, _, _, _, _, _, _, _, _, _, _, _, rfl⟩
    have Hv := hid hv
    clear hv
    by_cases h : k < l.length
    · have hcell := Hc.out k h
      go_wp2
      go_step3
      refine ⟨rfl, ⟨rfl, k + 1, (v * 256 + l[k].toNat) % 18446744073709551616, _, by omega, ?_, ?_, by (repeat apply Exists.intro); rfl⟩, ?_⟩
      · rw [take_snoc l k h, num_snoc, ← Hv.out]
      · exact num_step v _
      · simp [intOf]; omega
    · obtain rfl : k = l.length := by omega
      go_wp2
      simp only [Exit.jump]
      go_ret
      exact ⟨ret_int (by rw [Hv.out, List.take_length]), rfl⟩
  · intro Q' hQ' hpass
    go_wp2
    refine at_label hpass (by assumption) ?_
    exact ⟨rfl, 0, 0, 0, Nat.zero_le _, rfl, rfl, by (repeat apply Exists.intro); rfl⟩

theorem info5 : (Try.prog.info? 5).map (fun i => (i.zero, i.size, i.bytes)) = some (some (.int .u8 0), 1, 1) := by kernel_rfl

set_option maxHeartbeats 400000 in
theorem behind_any (v : Value) (l : List UInt8) (x n : Int) (w : World) (hB : Bytes w v l) (hl : l.length ≤ 140737488355328) (hx : 0 ≤ x) (hn0 : 0 ≤ n) (hn8 : n ≤ 8) :
    Calls Try.prog 51 #[v, .int .u64 x, .int .i64 n] w (NewBytes w (l ++ putN x.toNat n.toNat)) := by
  obtain ⟨p, cap, rfl, hcap, hmax, hat⟩ := hB
  obtain ⟨m, rfl⟩ := Int.eq_ofNat_of_zero_le hn0
  obtain ⟨X, rfl⟩ := Int.eq_ofNat_of_zero_le hx
  rw [Int.toNat_natCast, Int.toNat_natCast]
  obtain ⟨i0, hi, hz0, hz1, hz2⟩ := info_parts info5
  have hmk : ∀ w' : World, (Instr.makeSlice 42 (.int .i64 ((l.length : Int) + (m : Int))) (.int .i64 ((l.length : Int) + (m : Int)))).run Try.prog w' = .ok (.slice (some ⟨w'.heap.size, 0, none⟩) (l.length + m) (l.length + m)) (w'.alloc (.cells (cellsOf (List.replicate (l.length + m) 0)).toArray 5)) := by
    intro w'
    have h := run_make (P := Try.prog) w' 42 5 i0 _ Try.underlying42 hi hz0 .i64 .i64 ((l.length : Int) + (m : Int)) ((l.length : Int) + (m : Int)) (by omega) (by omega) (by rw [hz2]; omega) (by omega)
    rw [h, hz1]
    have e1 : ((l.length : Int) + (m : Int)).toNat = l.length + m := by omega
    have e2 : madeCells (Value.cells (.int .u8 0)) ((l.length + m) * 1) = (cellsOf (List.replicate (l.length + m) 0)).toArray := by
      apply Array.ext'
      rw [Nat.mul_one]
      show (madeCells #[_] _).toList = _
      rw [toList_madeCells_one]
      simp [cellsOf]
    rw [e1, e2]
  have hm8 : m ≤ 8 := by omega
  obtain ⟨w2, hcp, hh2, hb2, _⟩ := run_copy_bytes (P := Try.prog) (w.alloc (.cells (cellsOf (List.replicate (l.length + m) 0)).toArray 5)) 42 42 3 5 5 Try.underlying42 (by kernel_rfl) w.heap.size (l.length + m) p cap l (List.replicate (l.length + m) 0) (heap_alloc_new w _) (by simp) (hat.below ((Below.refl _ _).alloc (Nat.le_refl _) _))
  have hb2 := ((Below.refl w.heap.size w).alloc (Nat.le_refl _) _).trans hb2
  simp only [List.drop_replicate, List.length_replicate, Nat.add_sub_cancel_left] at hcp hh2
  have Hh := hid hh2
  clear hh2
  clear hi hz0 hz1 hz2 hn0 hn8 hx
  go_enter Try.func51, Try.ntmps51
  go_wp2
  refine wp_scope_loop 0 (fun a' w' => ∃ (k q : Nat) (r : List UInt8), k + q = l.length + m ∧ q ≤ m ∧ r ++ putN X q = l ++ putN X m ∧ r.length = k ∧ w'.ownsRow w.heap.size 5 1 (.slice (some ⟨w.heap.size, 0, none⟩) (l.length + m) (l.length + m)) (l.length + m) (cellsOf (r ++ List.replicate q 0)) ∧ Below w.heap.size w w' ∧ ∃ (u9 u10 u11 u12 u13 u14 u15 u16 u17 u18 u19 u20 u21 u22 u23 u24 u25 u26 u27 u28 u29 u30 u31 u32 u33 : Value), a' = { tmps := #[.slice p l.length cap, .int .u64 X, .int .i64 q, undef, undef, undef, .slice none 0 0, .slice (some ⟨w.heap.size, 0, none⟩) (l.length + m) (l.length + m), .int .i64 k, u9, u10, u11, u12, u13, u14, u15, u16, u17, u18, u19, u20, u21, u22, u23, u24, u25, u26, u27, u28, u29, u30, u31, u32, u33], defers := [] }) (fun a' _ => (intOf (a'.tmps.getD 2 undef)).toNat) rfl ?_ ?_
  · rintro a' w' ⟨k, q, r, hkq, hqm, hr, hrk, hown, hbel, _, _, _, _, _, _, _, _, _, _, _, _, _, _, _, _, _, _, _, _, _, _, _, _, _, rfl⟩
    have Hr := hid hr
    have Hrk := hid hrk
    have Hkq := hid hkq
    clear hr hrk hkq hmk
    by_cases h : q = 0
    · obtain rfl : k = l.length + m := by have := Hkq.out; omega
      subst h
      have e : r = l ++ putN X m := by have := Hr.out; simpa [putN] using this
      go_wp2
      simp only [Exit.jump]
      go_ret
      have el : (l ++ putN X m).length = l.length + m := by rw [List.length_append, putN_length]
      refine ⟨.slice (some ⟨w.heap.size, 0, none⟩) (l.length + m) (l.length + m), rfl, ?_, hbel⟩
      unfold Own
      rw [el]
      simpa [e] using hown
    · obtain ⟨q', rfl⟩ : ∃ q', q = q' + 1 := ⟨q - 1, by omega⟩
      have hlt : k < l.length + m := by have := Hkq.out; omega
      have hcell : w'.cell? ⟨w.heap.size, k, none⟩ = some (bv 0) := by
        rw [hown.cellAt k (by omega), cellsOf_get _ _ (by rw [List.length_append, Hrk.out, List.length_replicate]; omega)]
        simp [Hrk.out]
      have hfree := hown.frozenAt k
      have hst := hown.stored k (bv (UInt8.ofNat (X / 256 ^ q')))
      rw [cellsOf_set r q' _ k Hrk.out, ← bv_div] at hst
      go_wp2
      go_step3
      refine ⟨rfl, ⟨k + 1, q', r ++ [UInt8.ofNat (X / 256 ^ q')], by have := Hkq.out; omega, by omega, ?_, by simp [Hrk.out], hst.1, hbel.setCell (Nat.le_refl _) _, by (repeat apply Exists.intro); rfl⟩, by simp [intOf]⟩
      rw [← Hr.out, putN, List.append_assoc]
      rfl
  · intro Q' hQ' hpass
    go_wp2
    refine at_label hpass (by assumption) ?_
    refine ⟨l.length, m, l, rfl, Nat.le_refl _, rfl, rfl, ?_, hb2, by (repeat apply Exists.intro); rfl⟩
    refine ownsRow_of_heap _ (Nat.le_refl _) Hh.out (by simp [cellsOf_length]) ?_
    unfold maxLen
    omega

/-- Do n bytes stand from at on? -/
def standB (len at' n : Int) : Bool := decide (0 ≤ at' ∧ 0 ≤ n ∧ n ≤ len - at')

theorem standB_true {len at' n : Int} (h0 : 0 ≤ at') (h1 : 0 ≤ n) (h2 : n ≤ len - at') : standB len at' n = true := decide_eq_true ⟨h0, h1, h2⟩

theorem standB_false {len at' n : Int} (h : ¬ (0 ≤ at' ∧ 0 ≤ n ∧ n ≤ len - at')) : standB len at' n = false := decide_eq_false h

theorem standB_iff {len at' n : Int} : standB len at' n = true ↔ 0 ≤ at' ∧ 0 ≤ n ∧ n ≤ len - at' := by simp [standB]

set_option maxHeartbeats 400000 in
theorem stand_any (p : Option Addr) (len cap : Nat) (at' n : Int) (w : World) (hlen : len ≤ 9223372036854775807) (hat : at' ≤ 9223372036854775807) :
    Calls Try.prog 40 #[.slice p len cap, .int .i64 at', .int .i64 n] w fun e w' => e = .returned (.bool (standB len at' n)) ∧ w = w' := by
  by_cases h1 : 0 ≤ at'
  · by_cases h2 : 0 ≤ n
    · go_enter Try.func40, Try.ntmps40
      go_wp2
      go_ret
      refine ⟨ret_bool ?_, rfl⟩
      rw [Bool.eq_iff_iff, standB_iff, decide_eq_true_iff]
      omega
    · go_enter Try.func40, Try.ntmps40
      go_wp2
      go_ret
      exact ⟨ret_bool (standB_false (by omega)).symm, rfl⟩
  · go_enter Try.func40, Try.ntmps40
    go_wp2
    go_ret
    exact ⟨ret_bool (standB_false (by omega)).symm, rfl⟩







end Go.Proofs.Ytgjffmhlehcoiaa
