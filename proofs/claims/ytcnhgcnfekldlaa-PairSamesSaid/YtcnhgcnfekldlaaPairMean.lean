/- Package pair: the mean of pairs, of a row of one and the same, of two, of none. -/
import Derived.Test.YtcnhgcnfekldlaaPair
import Derived.Test.YtcnhgcnfekldlaaPairRef
import Derived.Test.YtcnhgcnfekldlaaRow
import Derived.Deep.RegionWith
namespace Go.Proofs.Ytcnhgcnfekldlaa
open Go.RowKit Go.Proofs
set_option linter.unusedVariables false
set_option linter.unusedSimpArgs false

/-- A pair as a value. -/
def zv (z : Int × Int) : Value := .complex .f64 (floatOfInt .f64 z.1) (floatOfInt .f64 z.2)

def sumA (zs : List (Int × Int)) : Int := (zs.map (·.1)).sum
def sumB (zs : List (Int × Int)) : Int := (zs.map (·.2)).sum

theorem oneC : OneCells 36 27 (.complex .f64 0 0) 16 := ⟨Try.underlying36, by kernel_rfl, rfl⟩

set_option maxHeartbeats 400000 in
theorem down_any (a n : Int) (w : World) (hn : 0 < n) (h0 : -9223372036854775807 ≤ a) (h1 : a ≤ 9223372036854775807) :
    Calls Try.prog 26 #[.int .i64 a, .int .i64 n] w fun e w' => e = .returned (.int .i64 (a / n)) ∧ w = w' := by
  have hf := floor_div2 a n hn
  obtain ⟨hb0, hb1⟩ := tdiv_bounds a n hn h0 h1
  by_cases h : a.tmod n < 0
  · rw [if_pos h] at hf
    have Hf := hid hf
    clear hf
    go_enter Try.func26, Try.ntmps26
    go_wp2
    go_ret
    exact ⟨ret_int (by have := Hf.out; omega), rfl⟩
  · rw [if_neg h] at hf
    have Hf := hid hf
    clear hf
    go_enter Try.func26, Try.ntmps26
    go_wp2
    go_ret
    exact ⟨ret_int (by have := Hf.out; omega), rfl⟩

set_option maxHeartbeats 400000 in
theorem mean_none (w : World) :
    Calls Try.prog 17 #[.slice none 0 0] w fun e w' => e = .returned (.tuple #[.complex .f64 0 0, .bool false]) ∧ w = w' := by
  go_enter Try.func17, Try.ntmps17
  go_wp2_with fail
  go_ret2
  exact ⟨rfl, rfl⟩

theorem sum_take (f : Int × Int → Int) (zs : List (Int × Int)) (j : Nat) (h : j < zs.length) : ((zs.take (j + 1)).map f).sum = ((zs.take j).map f).sum + f zs[j] := by
  rw [take_snoc zs j h, List.map_append, List.sum_append]
  simp

theorem sum_bound (f : Int × Int → Int) (zs : List (Int × Int)) (h : ∀ z ∈ zs, -4000000000000000 ≤ f z ∧ f z ≤ 4000000000000000) : -4000000000000000 * (zs.length : Int) ≤ (zs.map f).sum ∧ (zs.map f).sum ≤ 4000000000000000 * (zs.length : Int) := by
  induction zs with
  | nil => simp
  | cons z zs ih =>
    have h1 := h z (by simp)
    have h2 := ih fun y hy => h y (by simp [hy])
    simp only [List.map_cons, List.sum_cons, List.length_cons]
    omega

theorem mean_in {s : Int} {n : Nat} (hn : 0 < n) (h0 : -4000000000000000 * (n : Int) ≤ s) (h1 : s ≤ 4000000000000000 * (n : Int)) : partB (s / (n : Int)) = true := by
  refine partB_iff.2 ⟨?_, ?_⟩
  · exact (Int.le_ediv_iff_mul_le (by omega)).2 h0
  · have : s / (n : Int) < 4000000000000001 := (Int.ediv_lt_iff_lt_mul (by omega)).2 (by omega)
    omega

set_option maxRecDepth 100000 in
set_option maxHeartbeats 1600000 in
theorem mean_yes (v : Value) (zs : List (Int × Int)) (w : World) (hR : RowOf w v (zs.map zv)) (hp : ∀ z ∈ zs, partB z.1 = true ∧ partB z.2 = true) (h1 : 1 ≤ zs.length) (h2 : zs.length ≤ 1000) :
    Calls Try.prog 17 #[v] w fun e w' => e = .returned (.tuple #[zv (sumA zs / (zs.length : Int), sumB zs / (zs.length : Int)), .bool true]) ∧ w = w' := by
  obtain ⟨p, cap, rfl, hcap, hmax, hat⟩ := hR
  obtain ⟨b, off, rfl, hblt, hc⟩ := hat.pos (by rw [List.length_map]; omega)
  rw [List.length_map] at hcap ⊢
  have hA : ∀ j, j ≤ zs.length → -4000000000000000 * (j : Int) ≤ sumA (zs.take j) ∧ sumA (zs.take j) ≤ 4000000000000000 * (j : Int) := fun j hj => by
    have := sum_bound (·.1) (zs.take j) fun z hz => partB_iff.1 (hp z (List.mem_of_mem_take hz)).1
    rwa [List.length_take, Nat.min_eq_left hj] at this
  have hB : ∀ j, j ≤ zs.length → -4000000000000000 * (j : Int) ≤ sumB (zs.take j) ∧ sumB (zs.take j) ≤ 4000000000000000 * (j : Int) := fun j hj => by
    have := sum_bound (·.2) (zs.take j) fun z hz => partB_iff.1 (hp z (List.mem_of_mem_take hz)).2
    rwa [List.length_take, Nat.min_eq_left hj] at this
  have HA := hid hA
  have HB := hid hB
  have HC := hid hc
  have HP := hid hp
  clear hA hB hc hp hat
  generalize hn : zs.length = n at *
  have Hn := hid hn
  clear hn
  go_enter Try.func17, Try.ntmps17
  go_wp2_with fail
  go_loop [5, 6, 20] (fun x y i => ∃ (j : Nat) (A B : Int), j ≤ n ∧ i = .int .i64 j ∧ x = .int .i64 A ∧ y = .int .i64 B ∧ Hid (A = sumA (zs.take j)) ∧ Hid (B = sumB (zs.take j))) (fun _ _ i => n - (intOf i).toNat)
  case atStart => exact ⟨0, 0, 0, Nat.zero_le _, rfl, rfl, rfl, hid rfl, hid rfl⟩
  case round =>
    obtain ⟨j, A, B, hj, rfl, rfl, rfl, hA, hB⟩ := hrel
    obtain ⟨a0, a1⟩ := HA.out j hj
    obtain ⟨b0, b1⟩ := HB.out j hj
    rw [← hA.out] at a0 a1
    rw [← hB.out] at b0 b1
    by_cases hlt : j < n
    · have hjz : j < zs.length := by rw [Hn.out]; exact hlt
      have hcell : w.cell? ⟨b, off + j, none⟩ = some (.complex .f64 (floatOfInt .f64 (zs[j]).1) (floatOfInt .f64 (zs[j]).2)) := by
        have := HC.out j (by rw [List.length_map]; exact hjz)
        rw [this, List.getElem_map]
        rfl
      obtain ⟨p1, p2⟩ := HP.out _ (List.getElem_mem hjz)
      have sA : sumA (zs.take (j + 1)) = sumA (zs.take j) + (zs[j]).1 := sum_take (·.1) zs j hjz
      have sB : sumB (zs.take (j + 1)) = sumB (zs.take j) + (zs[j]).2 := sum_take (·.2) zs j hjz
      generalize zs[j] = z at *
      obtain ⟨x, y⟩ := z
      obtain ⟨x0, x1⟩ := partB_iff.1 p1
      obtain ⟨y0, y1⟩ := partB_iff.1 p2
      have P1 := hid p1
      have P2 := hid p2
      have SA := hid sA
      have SB := hid sB
      clear p1 p2 sA sB
      simp only at x0 x1 y0 y1 hcell
      go_wp2_with fail
      refine (parts_yes _ _ _ P1.out P2.out).mono ?_
      rintro e w' ⟨rfl, rfl⟩
      go_wp2_with fail
      go_round
      case rel => exact ⟨j + 1, A + x, B + y, by omega, by go_num, rfl, rfl, hid (by rw [SA.out, hA.out]), hid (by rw [SB.out, hB.out])⟩
      case measure => simp [intOf]; omega
    · obtain rfl : j = n := by omega
      have eA : sumA zs = A := by rw [hA.out, ← Hn.out, List.take_length]
      have eB : sumB zs = B := by rw [hB.out, ← Hn.out, List.take_length]
      have P1 := hid (mean_in (s := A) (n := j) (by omega) a0 a1)
      have P2 := hid (mean_in (s := B) (n := j) (by omega) b0 b1)
      have EA := hid eA
      have EB := hid eB
      clear eA eB
      go_wp2_with fail
      refine (down_any _ _ _ (by omega) (by omega) (by omega)).mono ?_
      rintro e w' ⟨rfl, rfl⟩
      go_wp2_with fail
      refine (down_any _ _ _ (by omega) (by omega) (by omega)).mono ?_
      rintro e w' ⟨rfl, rfl⟩
      go_wp2_with fail
      refine (of_yes _ _ _ P1.out P2.out).mono ?_
      rintro e w' ⟨rfl, rfl⟩
      go_wp2_with fail
      go_ret2
      refine ⟨?_, rfl⟩
      rw [EA.out, EB.out]
      rfl
end Go.Proofs.Ytcnhgcnfekldlaa
