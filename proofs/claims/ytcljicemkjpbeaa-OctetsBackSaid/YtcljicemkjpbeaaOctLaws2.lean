/- The walks of the laws of package octets: what is put is read. -/
import Derived.Test.YtcljicemkjpbeaaOctc
namespace Go.Proofs.Ytcljicemkjpbeaa
open Go.RowKit Go.Proofs
set_option linter.unusedVariables false


set_option maxHeartbeats 1600000 in
theorem octetsBack_1 (a0 : Int) (w0 : (Lit.int .i64 a0).wf = true) (a1 : Int) (a2 : Int) (w2 : (Lit.int .u64 a2).wf = true) (w : World) (h : a1 % 7 = 0) :
    Calls Try.prog 4 #[.int .i64 a0, .int .i64 a1, .int .u64 a2] w fun e w' => e = .returned (.bool true) ∧ Below w.heap.size w w' := by
  have hA := and_mask a0 8 (by decide)
  have hn := numAt_behind 7 a0 1 (by decide) (by decide)
  have hs := signedAt_cases ([7] ++ putS a0 1) (Int.toNat 1) (Int.toNat 1) _ 128 hn (by decide) (Int.emod_lt_of_pos _ (by decide))
  have hu0 : 0 ≤ a0 % 256 := Int.emod_nonneg _ (by decide)
  have hu1 : a0 % 256 < 256 := Int.emod_lt_of_pos _ (by decide)
  have hw := i64_of_wf w0
  have hS := signedAt_putS a0 8 (by decide) (by decide) (by simp; omega) (by simp; omega)
  have hw2 := u64_of_wf w2
  have hI := numAt_id a2 hw2.1 hw2.2
  obtain ⟨hw20, _⟩ := hw2
  rw [show (256 : Int) ^ (Int.toNat 1) = 256 by decide] at hn hs
  simp only [Int.reducePow, Int.reduceSub] at hA
  have HS := hid hS
  have HI := hid hI
  have Hn := hid hn
  have Hs := hid hs
  have H := hid h
  have HA := hid hA
  clear hS hI hn hs h w0 w2 hA
  go_enter Try.func4, Try.ntmps4
  go_wp2_with fail
  refine (place_any _ _ _ (by decide) (by decide)).mono ?_
  rintro e w' ⟨rfl, rfl⟩
  rw [H.out]
  go_wp2_with fail
  refine (put_any _ [7] _ _ _ (Own.lit w [7] (by decide)).bytes (by decide)).mono ?_
  rintro e w1 ⟨v, rfl, hown, hbel⟩
  go_wp2_with fail
  refine (get_ok _ _ _ _ _ hown.bytes (small_behind _ _ _ (by decide) (by decide)) (by decide) (by decide) (by decide) (stand_behind _ _ _ (by decide) (by decide))).mono ?_
  rintro e w' ⟨rfl, rfl⟩
  rw [Hn.out]
  go_wp2_with fail
  refine (signed_ok _ _ _ _ _ hown.bytes (small_behind _ _ _ (by decide) (by decide)) (by decide) (by decide) (by decide) (stand_behind _ _ _ (by decide) (by decide))).mono ?_
  rintro e w' ⟨rfl, rfl⟩
  obtain ⟨hs, hlo, hhi⟩ := Hs.out
  have hA := HA.out
  rcases hs with hs | hs
  all_goals
    rw [hs] at hlo hhi ⊢
    clear hs
    go_wp2_with fail
    refine (put_any _ [] _ _ _ (Bytes.nil _) (by decide)).mono ?_
    rintro e w2 ⟨v2, rfl, hown2, hbel2⟩
    go_wp2_with fail
    refine (signed_ok _ _ _ _ _ hown2.bytes (small_putS _ _ (by decide) (by decide)) (by decide) (by decide) (by decide) (stand_putS _ _ (by decide) (by decide))).mono ?_
    rintro e w3 ⟨rfl, rfl⟩
    rw [HS.out]
    go_wp2_with fail
    refine (putId_any _ [] _ _ (Bytes.nil _) (by decide) hw20).mono ?_
    rintro e w3 ⟨v3, rfl, hown3, hbel3⟩
    go_wp2_with fail
    refine (getId_ok _ _ _ _ hown3.bytes (by rw [List.nil_append, putN_length]; decide) (by decide) (by rw [List.nil_append, putN_length]; decide)).mono ?_
    rintro e w3 ⟨rfl, rfl⟩
    rw [HI.out]
    go_wp2_with fail
    refine (awake_any _).mono ?_
    rintro e w4 ⟨rfl, hb4⟩
    go_wp2_with fail
    go_ret
    exact ⟨rfl, bnext (bnext (bnext (bnext (bnew _ _) hbel) hbel2) hbel3) hb4⟩

set_option maxHeartbeats 1600000 in
theorem octetsBack_2 (a0 : Int) (w0 : (Lit.int .i64 a0).wf = true) (a1 : Int) (a2 : Int) (w2 : (Lit.int .u64 a2).wf = true) (w : World) (h : a1 % 7 = 1) :
    Calls Try.prog 4 #[.int .i64 a0, .int .i64 a1, .int .u64 a2] w fun e w' => e = .returned (.bool true) ∧ Below w.heap.size w w' := by
  have hA := and_mask a0 16 (by decide)
  have hn := numAt_behind 7 a0 2 (by decide) (by decide)
  have hs := signedAt_cases ([7] ++ putS a0 2) (Int.toNat 1) (Int.toNat 2) _ 32768 hn (by decide) (Int.emod_lt_of_pos _ (by decide))
  have hu0 : 0 ≤ a0 % 65536 := Int.emod_nonneg _ (by decide)
  have hu1 : a0 % 65536 < 65536 := Int.emod_lt_of_pos _ (by decide)
  have hw := i64_of_wf w0
  have hS := signedAt_putS a0 8 (by decide) (by decide) (by simp; omega) (by simp; omega)
  have hw2 := u64_of_wf w2
  have hI := numAt_id a2 hw2.1 hw2.2
  obtain ⟨hw20, _⟩ := hw2
  rw [show (256 : Int) ^ (Int.toNat 2) = 65536 by decide] at hn hs
  simp only [Int.reducePow, Int.reduceSub] at hA
  have HS := hid hS
  have HI := hid hI
  have Hn := hid hn
  have Hs := hid hs
  have H := hid h
  have HA := hid hA
  clear hS hI hn hs h w0 w2 hA
  go_enter Try.func4, Try.ntmps4
  go_wp2_with fail
  refine (place_any _ _ _ (by decide) (by decide)).mono ?_
  rintro e w' ⟨rfl, rfl⟩
  rw [H.out]
  go_wp2_with fail
  refine (put_any _ [7] _ _ _ (Own.lit w [7] (by decide)).bytes (by decide)).mono ?_
  rintro e w1 ⟨v, rfl, hown, hbel⟩
  go_wp2_with fail
  refine (get_ok _ _ _ _ _ hown.bytes (small_behind _ _ _ (by decide) (by decide)) (by decide) (by decide) (by decide) (stand_behind _ _ _ (by decide) (by decide))).mono ?_
  rintro e w' ⟨rfl, rfl⟩
  rw [Hn.out]
  go_wp2_with fail
  refine (signed_ok _ _ _ _ _ hown.bytes (small_behind _ _ _ (by decide) (by decide)) (by decide) (by decide) (by decide) (stand_behind _ _ _ (by decide) (by decide))).mono ?_
  rintro e w' ⟨rfl, rfl⟩
  obtain ⟨hs, hlo, hhi⟩ := Hs.out
  have hA := HA.out
  rcases hs with hs | hs
  all_goals
    rw [hs] at hlo hhi ⊢
    clear hs
    go_wp2_with fail
    refine (put_any _ [] _ _ _ (Bytes.nil _) (by decide)).mono ?_
    rintro e w2 ⟨v2, rfl, hown2, hbel2⟩
    go_wp2_with fail
    refine (signed_ok _ _ _ _ _ hown2.bytes (small_putS _ _ (by decide) (by decide)) (by decide) (by decide) (by decide) (stand_putS _ _ (by decide) (by decide))).mono ?_
    rintro e w3 ⟨rfl, rfl⟩
    rw [HS.out]
    go_wp2_with fail
    refine (putId_any _ [] _ _ (Bytes.nil _) (by decide) hw20).mono ?_
    rintro e w3 ⟨v3, rfl, hown3, hbel3⟩
    go_wp2_with fail
    refine (getId_ok _ _ _ _ hown3.bytes (by rw [List.nil_append, putN_length]; decide) (by decide) (by rw [List.nil_append, putN_length]; decide)).mono ?_
    rintro e w3 ⟨rfl, rfl⟩
    rw [HI.out]
    go_wp2_with fail
    refine (awake_any _).mono ?_
    rintro e w4 ⟨rfl, hb4⟩
    go_wp2_with fail
    go_ret
    exact ⟨rfl, bnext (bnext (bnext (bnext (bnew _ _) hbel) hbel2) hbel3) hb4⟩

set_option maxHeartbeats 1600000 in
theorem octetsBack_3 (a0 : Int) (w0 : (Lit.int .i64 a0).wf = true) (a1 : Int) (a2 : Int) (w2 : (Lit.int .u64 a2).wf = true) (w : World) (h : a1 % 7 = 2) :
    Calls Try.prog 4 #[.int .i64 a0, .int .i64 a1, .int .u64 a2] w fun e w' => e = .returned (.bool true) ∧ Below w.heap.size w w' := by
  have hA := and_mask a0 24 (by decide)
  have hn := numAt_behind 7 a0 3 (by decide) (by decide)
  have hs := signedAt_cases ([7] ++ putS a0 3) (Int.toNat 1) (Int.toNat 3) _ 8388608 hn (by decide) (Int.emod_lt_of_pos _ (by decide))
  have hu0 : 0 ≤ a0 % 16777216 := Int.emod_nonneg _ (by decide)
  have hu1 : a0 % 16777216 < 16777216 := Int.emod_lt_of_pos _ (by decide)
  have hw := i64_of_wf w0
  have hS := signedAt_putS a0 8 (by decide) (by decide) (by simp; omega) (by simp; omega)
  have hw2 := u64_of_wf w2
  have hI := numAt_id a2 hw2.1 hw2.2
  obtain ⟨hw20, _⟩ := hw2
  rw [show (256 : Int) ^ (Int.toNat 3) = 16777216 by decide] at hn hs
  simp only [Int.reducePow, Int.reduceSub] at hA
  have HS := hid hS
  have HI := hid hI
  have Hn := hid hn
  have Hs := hid hs
  have H := hid h
  have HA := hid hA
  clear hS hI hn hs h w0 w2 hA
  go_enter Try.func4, Try.ntmps4
  go_wp2_with fail
  refine (place_any _ _ _ (by decide) (by decide)).mono ?_
  rintro e w' ⟨rfl, rfl⟩
  rw [H.out]
  go_wp2_with fail
  refine (put_any _ [7] _ _ _ (Own.lit w [7] (by decide)).bytes (by decide)).mono ?_
  rintro e w1 ⟨v, rfl, hown, hbel⟩
  go_wp2_with fail
  refine (get_ok _ _ _ _ _ hown.bytes (small_behind _ _ _ (by decide) (by decide)) (by decide) (by decide) (by decide) (stand_behind _ _ _ (by decide) (by decide))).mono ?_
  rintro e w' ⟨rfl, rfl⟩
  rw [Hn.out]
  go_wp2_with fail
  refine (signed_ok _ _ _ _ _ hown.bytes (small_behind _ _ _ (by decide) (by decide)) (by decide) (by decide) (by decide) (stand_behind _ _ _ (by decide) (by decide))).mono ?_
  rintro e w' ⟨rfl, rfl⟩
  obtain ⟨hs, hlo, hhi⟩ := Hs.out
  have hA := HA.out
  rcases hs with hs | hs
  all_goals
    rw [hs] at hlo hhi ⊢
    clear hs
    go_wp2_with fail
    refine (put_any _ [] _ _ _ (Bytes.nil _) (by decide)).mono ?_
    rintro e w2 ⟨v2, rfl, hown2, hbel2⟩
    go_wp2_with fail
    refine (signed_ok _ _ _ _ _ hown2.bytes (small_putS _ _ (by decide) (by decide)) (by decide) (by decide) (by decide) (stand_putS _ _ (by decide) (by decide))).mono ?_
    rintro e w3 ⟨rfl, rfl⟩
    rw [HS.out]
    go_wp2_with fail
    refine (putId_any _ [] _ _ (Bytes.nil _) (by decide) hw20).mono ?_
    rintro e w3 ⟨v3, rfl, hown3, hbel3⟩
    go_wp2_with fail
    refine (getId_ok _ _ _ _ hown3.bytes (by rw [List.nil_append, putN_length]; decide) (by decide) (by rw [List.nil_append, putN_length]; decide)).mono ?_
    rintro e w3 ⟨rfl, rfl⟩
    rw [HI.out]
    go_wp2_with fail
    refine (awake_any _).mono ?_
    rintro e w4 ⟨rfl, hb4⟩
    go_wp2_with fail
    go_ret
    exact ⟨rfl, bnext (bnext (bnext (bnext (bnew _ _) hbel) hbel2) hbel3) hb4⟩

set_option maxHeartbeats 1600000 in
theorem octetsBack_4 (a0 : Int) (w0 : (Lit.int .i64 a0).wf = true) (a1 : Int) (a2 : Int) (w2 : (Lit.int .u64 a2).wf = true) (w : World) (h : a1 % 7 = 3) :
    Calls Try.prog 4 #[.int .i64 a0, .int .i64 a1, .int .u64 a2] w fun e w' => e = .returned (.bool true) ∧ Below w.heap.size w w' := by
  have hA := and_mask a0 32 (by decide)
  have hn := numAt_behind 7 a0 4 (by decide) (by decide)
  have hs := signedAt_cases ([7] ++ putS a0 4) (Int.toNat 1) (Int.toNat 4) _ 2147483648 hn (by decide) (Int.emod_lt_of_pos _ (by decide))
  have hu0 : 0 ≤ a0 % 4294967296 := Int.emod_nonneg _ (by decide)
  have hu1 : a0 % 4294967296 < 4294967296 := Int.emod_lt_of_pos _ (by decide)
  have hw := i64_of_wf w0
  have hS := signedAt_putS a0 8 (by decide) (by decide) (by simp; omega) (by simp; omega)
  have hw2 := u64_of_wf w2
  have hI := numAt_id a2 hw2.1 hw2.2
  obtain ⟨hw20, _⟩ := hw2
  rw [show (256 : Int) ^ (Int.toNat 4) = 4294967296 by decide] at hn hs
  simp only [Int.reducePow, Int.reduceSub] at hA
  have HS := hid hS
  have HI := hid hI
  have Hn := hid hn
  have Hs := hid hs
  have H := hid h
  have HA := hid hA
  clear hS hI hn hs h w0 w2 hA
  go_enter Try.func4, Try.ntmps4
  go_wp2_with fail
  refine (place_any _ _ _ (by decide) (by decide)).mono ?_
  rintro e w' ⟨rfl, rfl⟩
  rw [H.out]
  go_wp2_with fail
  refine (put_any _ [7] _ _ _ (Own.lit w [7] (by decide)).bytes (by decide)).mono ?_
  rintro e w1 ⟨v, rfl, hown, hbel⟩
  go_wp2_with fail
  refine (get_ok _ _ _ _ _ hown.bytes (small_behind _ _ _ (by decide) (by decide)) (by decide) (by decide) (by decide) (stand_behind _ _ _ (by decide) (by decide))).mono ?_
  rintro e w' ⟨rfl, rfl⟩
  rw [Hn.out]
  go_wp2_with fail
  refine (signed_ok _ _ _ _ _ hown.bytes (small_behind _ _ _ (by decide) (by decide)) (by decide) (by decide) (by decide) (stand_behind _ _ _ (by decide) (by decide))).mono ?_
  rintro e w' ⟨rfl, rfl⟩
  obtain ⟨hs, hlo, hhi⟩ := Hs.out
  have hA := HA.out
  rcases hs with hs | hs
  all_goals
    rw [hs] at hlo hhi ⊢
    clear hs
    go_wp2_with fail
    refine (put_any _ [] _ _ _ (Bytes.nil _) (by decide)).mono ?_
    rintro e w2 ⟨v2, rfl, hown2, hbel2⟩
    go_wp2_with fail
    refine (signed_ok _ _ _ _ _ hown2.bytes (small_putS _ _ (by decide) (by decide)) (by decide) (by decide) (by decide) (stand_putS _ _ (by decide) (by decide))).mono ?_
    rintro e w3 ⟨rfl, rfl⟩
    rw [HS.out]
    go_wp2_with fail
    refine (putId_any _ [] _ _ (Bytes.nil _) (by decide) hw20).mono ?_
    rintro e w3 ⟨v3, rfl, hown3, hbel3⟩
    go_wp2_with fail
    refine (getId_ok _ _ _ _ hown3.bytes (by rw [List.nil_append, putN_length]; decide) (by decide) (by rw [List.nil_append, putN_length]; decide)).mono ?_
    rintro e w3 ⟨rfl, rfl⟩
    rw [HI.out]
    go_wp2_with fail
    refine (awake_any _).mono ?_
    rintro e w4 ⟨rfl, hb4⟩
    go_wp2_with fail
    go_ret
    exact ⟨rfl, bnext (bnext (bnext (bnext (bnew _ _) hbel) hbel2) hbel3) hb4⟩

set_option maxHeartbeats 1600000 in
theorem octetsBack_5 (a0 : Int) (w0 : (Lit.int .i64 a0).wf = true) (a1 : Int) (a2 : Int) (w2 : (Lit.int .u64 a2).wf = true) (w : World) (h : a1 % 7 = 4) :
    Calls Try.prog 4 #[.int .i64 a0, .int .i64 a1, .int .u64 a2] w fun e w' => e = .returned (.bool true) ∧ Below w.heap.size w w' := by
  have hA := and_mask a0 40 (by decide)
  have hn := numAt_behind 7 a0 5 (by decide) (by decide)
  have hs := signedAt_cases ([7] ++ putS a0 5) (Int.toNat 1) (Int.toNat 5) _ 549755813888 hn (by decide) (Int.emod_lt_of_pos _ (by decide))
  have hu0 : 0 ≤ a0 % 1099511627776 := Int.emod_nonneg _ (by decide)
  have hu1 : a0 % 1099511627776 < 1099511627776 := Int.emod_lt_of_pos _ (by decide)
  have hw := i64_of_wf w0
  have hS := signedAt_putS a0 8 (by decide) (by decide) (by simp; omega) (by simp; omega)
  have hw2 := u64_of_wf w2
  have hI := numAt_id a2 hw2.1 hw2.2
  obtain ⟨hw20, _⟩ := hw2
  rw [show (256 : Int) ^ (Int.toNat 5) = 1099511627776 by decide] at hn hs
  simp only [Int.reducePow, Int.reduceSub] at hA
  have HS := hid hS
  have HI := hid hI
  have Hn := hid hn
  have Hs := hid hs
  have H := hid h
  have HA := hid hA
  clear hS hI hn hs h w0 w2 hA
  go_enter Try.func4, Try.ntmps4
  go_wp2_with fail
  refine (place_any _ _ _ (by decide) (by decide)).mono ?_
  rintro e w' ⟨rfl, rfl⟩
  rw [H.out]
  go_wp2_with fail
  refine (put_any _ [7] _ _ _ (Own.lit w [7] (by decide)).bytes (by decide)).mono ?_
  rintro e w1 ⟨v, rfl, hown, hbel⟩
  go_wp2_with fail
  refine (get_ok _ _ _ _ _ hown.bytes (small_behind _ _ _ (by decide) (by decide)) (by decide) (by decide) (by decide) (stand_behind _ _ _ (by decide) (by decide))).mono ?_
  rintro e w' ⟨rfl, rfl⟩
  rw [Hn.out]
  go_wp2_with fail
  refine (signed_ok _ _ _ _ _ hown.bytes (small_behind _ _ _ (by decide) (by decide)) (by decide) (by decide) (by decide) (stand_behind _ _ _ (by decide) (by decide))).mono ?_
  rintro e w' ⟨rfl, rfl⟩
  obtain ⟨hs, hlo, hhi⟩ := Hs.out
  have hA := HA.out
  rcases hs with hs | hs
  all_goals
    rw [hs] at hlo hhi ⊢
    clear hs
    go_wp2_with fail
    refine (put_any _ [] _ _ _ (Bytes.nil _) (by decide)).mono ?_
    rintro e w2 ⟨v2, rfl, hown2, hbel2⟩
    go_wp2_with fail
    refine (signed_ok _ _ _ _ _ hown2.bytes (small_putS _ _ (by decide) (by decide)) (by decide) (by decide) (by decide) (stand_putS _ _ (by decide) (by decide))).mono ?_
    rintro e w3 ⟨rfl, rfl⟩
    rw [HS.out]
    go_wp2_with fail
    refine (putId_any _ [] _ _ (Bytes.nil _) (by decide) hw20).mono ?_
    rintro e w3 ⟨v3, rfl, hown3, hbel3⟩
    go_wp2_with fail
    refine (getId_ok _ _ _ _ hown3.bytes (by rw [List.nil_append, putN_length]; decide) (by decide) (by rw [List.nil_append, putN_length]; decide)).mono ?_
    rintro e w3 ⟨rfl, rfl⟩
    rw [HI.out]
    go_wp2_with fail
    refine (awake_any _).mono ?_
    rintro e w4 ⟨rfl, hb4⟩
    go_wp2_with fail
    go_ret
    exact ⟨rfl, bnext (bnext (bnext (bnext (bnew _ _) hbel) hbel2) hbel3) hb4⟩

set_option maxHeartbeats 1600000 in
theorem octetsBack_6 (a0 : Int) (w0 : (Lit.int .i64 a0).wf = true) (a1 : Int) (a2 : Int) (w2 : (Lit.int .u64 a2).wf = true) (w : World) (h : a1 % 7 = 5) :
    Calls Try.prog 4 #[.int .i64 a0, .int .i64 a1, .int .u64 a2] w fun e w' => e = .returned (.bool true) ∧ Below w.heap.size w w' := by
  have hA := and_mask a0 48 (by decide)
  have hn := numAt_behind 7 a0 6 (by decide) (by decide)
  have hs := signedAt_cases ([7] ++ putS a0 6) (Int.toNat 1) (Int.toNat 6) _ 140737488355328 hn (by decide) (Int.emod_lt_of_pos _ (by decide))
  have hu0 : 0 ≤ a0 % 281474976710656 := Int.emod_nonneg _ (by decide)
  have hu1 : a0 % 281474976710656 < 281474976710656 := Int.emod_lt_of_pos _ (by decide)
  have hw := i64_of_wf w0
  have hS := signedAt_putS a0 8 (by decide) (by decide) (by simp; omega) (by simp; omega)
  have hw2 := u64_of_wf w2
  have hI := numAt_id a2 hw2.1 hw2.2
  obtain ⟨hw20, _⟩ := hw2
  rw [show (256 : Int) ^ (Int.toNat 6) = 281474976710656 by decide] at hn hs
  simp only [Int.reducePow, Int.reduceSub] at hA
  have HS := hid hS
  have HI := hid hI
  have Hn := hid hn
  have Hs := hid hs
  have H := hid h
  have HA := hid hA
  clear hS hI hn hs h w0 w2 hA
  go_enter Try.func4, Try.ntmps4
  go_wp2_with fail
  refine (place_any _ _ _ (by decide) (by decide)).mono ?_
  rintro e w' ⟨rfl, rfl⟩
  rw [H.out]
  go_wp2_with fail
  refine (put_any _ [7] _ _ _ (Own.lit w [7] (by decide)).bytes (by decide)).mono ?_
  rintro e w1 ⟨v, rfl, hown, hbel⟩
  go_wp2_with fail
  refine (get_ok _ _ _ _ _ hown.bytes (small_behind _ _ _ (by decide) (by decide)) (by decide) (by decide) (by decide) (stand_behind _ _ _ (by decide) (by decide))).mono ?_
  rintro e w' ⟨rfl, rfl⟩
  rw [Hn.out]
  go_wp2_with fail
  refine (signed_ok _ _ _ _ _ hown.bytes (small_behind _ _ _ (by decide) (by decide)) (by decide) (by decide) (by decide) (stand_behind _ _ _ (by decide) (by decide))).mono ?_
  rintro e w' ⟨rfl, rfl⟩
  obtain ⟨hs, hlo, hhi⟩ := Hs.out
  have hA := HA.out
  rcases hs with hs | hs
  all_goals
    rw [hs] at hlo hhi ⊢
    clear hs
    go_wp2_with fail
    refine (put_any _ [] _ _ _ (Bytes.nil _) (by decide)).mono ?_
    rintro e w2 ⟨v2, rfl, hown2, hbel2⟩
    go_wp2_with fail
    refine (signed_ok _ _ _ _ _ hown2.bytes (small_putS _ _ (by decide) (by decide)) (by decide) (by decide) (by decide) (stand_putS _ _ (by decide) (by decide))).mono ?_
    rintro e w3 ⟨rfl, rfl⟩
    rw [HS.out]
    go_wp2_with fail
    refine (putId_any _ [] _ _ (Bytes.nil _) (by decide) hw20).mono ?_
    rintro e w3 ⟨v3, rfl, hown3, hbel3⟩
    go_wp2_with fail
    refine (getId_ok _ _ _ _ hown3.bytes (by rw [List.nil_append, putN_length]; decide) (by decide) (by rw [List.nil_append, putN_length]; decide)).mono ?_
    rintro e w3 ⟨rfl, rfl⟩
    rw [HI.out]
    go_wp2_with fail
    refine (awake_any _).mono ?_
    rintro e w4 ⟨rfl, hb4⟩
    go_wp2_with fail
    go_ret
    exact ⟨rfl, bnext (bnext (bnext (bnext (bnew _ _) hbel) hbel2) hbel3) hb4⟩

set_option maxHeartbeats 1600000 in
theorem octetsBack_7 (a0 : Int) (w0 : (Lit.int .i64 a0).wf = true) (a1 : Int) (a2 : Int) (w2 : (Lit.int .u64 a2).wf = true) (w : World) (h : a1 % 7 = 6) :
    Calls Try.prog 4 #[.int .i64 a0, .int .i64 a1, .int .u64 a2] w fun e w' => e = .returned (.bool true) ∧ Below w.heap.size w w' := by
  have hA := and_mask a0 56 (by decide)
  have hn := numAt_behind 7 a0 7 (by decide) (by decide)
  have hs := signedAt_cases ([7] ++ putS a0 7) (Int.toNat 1) (Int.toNat 7) _ 36028797018963968 hn (by decide) (Int.emod_lt_of_pos _ (by decide))
  have hu0 : 0 ≤ a0 % 72057594037927936 := Int.emod_nonneg _ (by decide)
  have hu1 : a0 % 72057594037927936 < 72057594037927936 := Int.emod_lt_of_pos _ (by decide)
  have hw := i64_of_wf w0
  have hS := signedAt_putS a0 8 (by decide) (by decide) (by simp; omega) (by simp; omega)
  have hw2 := u64_of_wf w2
  have hI := numAt_id a2 hw2.1 hw2.2
  obtain ⟨hw20, _⟩ := hw2
  rw [show (256 : Int) ^ (Int.toNat 7) = 72057594037927936 by decide] at hn hs
  simp only [Int.reducePow, Int.reduceSub] at hA
  have HS := hid hS
  have HI := hid hI
  have Hn := hid hn
  have Hs := hid hs
  have H := hid h
  have HA := hid hA
  clear hS hI hn hs h w0 w2 hA
  go_enter Try.func4, Try.ntmps4
  go_wp2_with fail
  refine (place_any _ _ _ (by decide) (by decide)).mono ?_
  rintro e w' ⟨rfl, rfl⟩
  rw [H.out]
  go_wp2_with fail
  refine (put_any _ [7] _ _ _ (Own.lit w [7] (by decide)).bytes (by decide)).mono ?_
  rintro e w1 ⟨v, rfl, hown, hbel⟩
  go_wp2_with fail
  refine (get_ok _ _ _ _ _ hown.bytes (small_behind _ _ _ (by decide) (by decide)) (by decide) (by decide) (by decide) (stand_behind _ _ _ (by decide) (by decide))).mono ?_
  rintro e w' ⟨rfl, rfl⟩
  rw [Hn.out]
  go_wp2_with fail
  refine (signed_ok _ _ _ _ _ hown.bytes (small_behind _ _ _ (by decide) (by decide)) (by decide) (by decide) (by decide) (stand_behind _ _ _ (by decide) (by decide))).mono ?_
  rintro e w' ⟨rfl, rfl⟩
  obtain ⟨hs, hlo, hhi⟩ := Hs.out
  have hA := HA.out
  rcases hs with hs | hs
  all_goals
    rw [hs] at hlo hhi ⊢
    clear hs
    go_wp2_with fail
    refine (put_any _ [] _ _ _ (Bytes.nil _) (by decide)).mono ?_
    rintro e w2 ⟨v2, rfl, hown2, hbel2⟩
    go_wp2_with fail
    refine (signed_ok _ _ _ _ _ hown2.bytes (small_putS _ _ (by decide) (by decide)) (by decide) (by decide) (by decide) (stand_putS _ _ (by decide) (by decide))).mono ?_
    rintro e w3 ⟨rfl, rfl⟩
    rw [HS.out]
    go_wp2_with fail
    refine (putId_any _ [] _ _ (Bytes.nil _) (by decide) hw20).mono ?_
    rintro e w3 ⟨v3, rfl, hown3, hbel3⟩
    go_wp2_with fail
    refine (getId_ok _ _ _ _ hown3.bytes (by rw [List.nil_append, putN_length]; decide) (by decide) (by rw [List.nil_append, putN_length]; decide)).mono ?_
    rintro e w3 ⟨rfl, rfl⟩
    rw [HI.out]
    go_wp2_with fail
    refine (awake_any _).mono ?_
    rintro e w4 ⟨rfl, hb4⟩
    go_wp2_with fail
    go_ret
    exact ⟨rfl, bnext (bnext (bnext (bnext (bnew _ _) hbel) hbel2) hbel3) hb4⟩

theorem octetsBack_walk (a0 : Int) (w0 : (Lit.int .i64 a0).wf = true) (a1 : Int) (w1 : (Lit.int .i64 a1).wf = true) (a2 : Int) (w2 : (Lit.int .u64 a2).wf = true) (w : World) :
    Calls Try.prog 4 #[.int .i64 a0, .int .i64 a1, .int .u64 a2] w fun e w' => e = .returned (.bool true) ∧ Below w.heap.size w w' := by
  have hk : a1 % 7 = 0 ∨ a1 % 7 = 1 ∨ a1 % 7 = 2 ∨ a1 % 7 = 3 ∨ a1 % 7 = 4 ∨ a1 % 7 = 5 ∨ a1 % 7 = 6 := by omega
  rcases hk with h | h | h | h | h | h | h
  · exact octetsBack_1 a0 w0 a1 a2 w2 w h
  · exact octetsBack_2 a0 w0 a1 a2 w2 w h
  · exact octetsBack_3 a0 w0 a1 a2 w2 w h
  · exact octetsBack_4 a0 w0 a1 a2 w2 w h
  · exact octetsBack_5 a0 w0 a1 a2 w2 w h
  · exact octetsBack_6 a0 w0 a1 a2 w2 w h
  · exact octetsBack_7 a0 w0 a1 a2 w2 w h
end Go.Proofs.Ytcljicemkjpbeaa
