/- The walk of the law IdentMacs. -/
import Derived.Test.YtkjkjhlcdhdbaaaIdentb
namespace Go.Proofs.Ytkjkjhlcdhdbaaa
open Go.RowKit Go.Proofs
set_option linter.unusedVariables false
set_option linter.unusedSimpArgs false

set_option maxHeartbeats 1600000 in
theorem mac_any (V : Nat) (w : World) (hV : V < 18446744073709551616) :
    Calls Try.prog 23 #[.int .u64 (V : Int)] w (NewBytes w (putN V 6)) := by
  go_enter Try.func23, Try.ntmps23
  go_wp2_with fail
  go_loopw [3, 4] (fun m i wr => ∃ (k : Nat) (I : Int), k ≤ 6 ∧ i = .int .i64 I ∧ I = 5 - (k : Int) ∧ Own wr w.heap.size m ((putN V 6).take k) ∧ Below w.heap.size w wr) (fun _ i _ => (intOf i + 1).toNat)
  case atStart => exact ⟨0, _, Nat.zero_le _, rfl, rfl, Own.nil _ _, Below.refl _ _⟩
  case round =>
    obtain ⟨k, I, hk, rfl, hI, hown, hbel⟩ := hrel
    by_cases h : k = 0
    · subst h
      obtain rfl : I = 5 := by omega
      have e := bv_div V 5
      rw [show (2 : Int) ^ (8 * 5) = 1099511627776 from rfl] at e
      skip
      have hlit : Bytes (wr.alloc (Obj.cells #[.int .u8 ((V : Int) / 1099511627776 % 256)] 5)) (.slice (some ⟨wr.heap.size, 0, none⟩) 1 1) [UInt8.ofNat (V / 256 ^ 5)] := by
        rw [e]
        exact (Own.lit wr [UInt8.ofNat (V / 256 ^ 5)] (by simp [maxLen])).bytes
      have hownA := hown.below (bnew wr (Obj.cells #[.int .u8 ((V : Int) / 1099511627776 % 256)] 5))
      have hsz := hbel.size
      clear hown hI hk e
      go_wp2_with (at_builtin; refine wpList_append_bytes (o := ⟨some 17, _, _, _, _, _⟩) rfl _ _ rfl rfl w.heap.size _ _ ((putN V 6).take 0) [UInt8.ofNat (V / 256 ^ 5)] rfl rfl hownA hlit ?_ ?_ ?_; (rw [List.length_take, putN_length]; simp); (simp; omega); intro v3 w3 hown3 hbel3)
      go_roundw
      case rel => exact ⟨1, 5-1, by decide, by go_num, by decide, hown3, ((hbel.alloc hsz _).trans hbel3)⟩
      case measure => simp [intOf]
    by_cases h : k = 1
    · subst h
      obtain rfl : I = 4 := by omega
      have e := bv_div V 4
      rw [show (2 : Int) ^ (8 * 4) = 4294967296 from rfl] at e
      skip
      have hlit : Bytes (wr.alloc (Obj.cells #[.int .u8 ((V : Int) / 4294967296 % 256)] 5)) (.slice (some ⟨wr.heap.size, 0, none⟩) 1 1) [UInt8.ofNat (V / 256 ^ 4)] := by
        rw [e]
        exact (Own.lit wr [UInt8.ofNat (V / 256 ^ 4)] (by simp [maxLen])).bytes
      have hownA := hown.below (bnew wr (Obj.cells #[.int .u8 ((V : Int) / 4294967296 % 256)] 5))
      have hsz := hbel.size
      clear hown hI hk e
      go_wp2_with (at_builtin; refine wpList_append_bytes (o := ⟨some 17, _, _, _, _, _⟩) rfl _ _ rfl rfl w.heap.size _ _ ((putN V 6).take 1) [UInt8.ofNat (V / 256 ^ 4)] rfl rfl hownA hlit ?_ ?_ ?_; (rw [List.length_take, putN_length]; simp); (simp; omega); intro v3 w3 hown3 hbel3)
      go_roundw
      case rel => exact ⟨2, 4-1, by decide, by go_num, by decide, hown3, ((hbel.alloc hsz _).trans hbel3)⟩
      case measure => simp [intOf]
    by_cases h : k = 2
    · subst h
      obtain rfl : I = 3 := by omega
      have e := bv_div V 3
      rw [show (2 : Int) ^ (8 * 3) = 16777216 from rfl] at e
      skip
      have hlit : Bytes (wr.alloc (Obj.cells #[.int .u8 ((V : Int) / 16777216 % 256)] 5)) (.slice (some ⟨wr.heap.size, 0, none⟩) 1 1) [UInt8.ofNat (V / 256 ^ 3)] := by
        rw [e]
        exact (Own.lit wr [UInt8.ofNat (V / 256 ^ 3)] (by simp [maxLen])).bytes
      have hownA := hown.below (bnew wr (Obj.cells #[.int .u8 ((V : Int) / 16777216 % 256)] 5))
      have hsz := hbel.size
      clear hown hI hk e
      go_wp2_with (at_builtin; refine wpList_append_bytes (o := ⟨some 17, _, _, _, _, _⟩) rfl _ _ rfl rfl w.heap.size _ _ ((putN V 6).take 2) [UInt8.ofNat (V / 256 ^ 3)] rfl rfl hownA hlit ?_ ?_ ?_; (rw [List.length_take, putN_length]; simp); (simp; omega); intro v3 w3 hown3 hbel3)
      go_roundw
      case rel => exact ⟨3, 3-1, by decide, by go_num, by decide, hown3, ((hbel.alloc hsz _).trans hbel3)⟩
      case measure => simp [intOf]
    by_cases h : k = 3
    · subst h
      obtain rfl : I = 2 := by omega
      have e := bv_div V 2
      rw [show (2 : Int) ^ (8 * 2) = 65536 from rfl] at e
      skip
      have hlit : Bytes (wr.alloc (Obj.cells #[.int .u8 ((V : Int) / 65536 % 256)] 5)) (.slice (some ⟨wr.heap.size, 0, none⟩) 1 1) [UInt8.ofNat (V / 256 ^ 2)] := by
        rw [e]
        exact (Own.lit wr [UInt8.ofNat (V / 256 ^ 2)] (by simp [maxLen])).bytes
      have hownA := hown.below (bnew wr (Obj.cells #[.int .u8 ((V : Int) / 65536 % 256)] 5))
      have hsz := hbel.size
      clear hown hI hk e
      go_wp2_with (at_builtin; refine wpList_append_bytes (o := ⟨some 17, _, _, _, _, _⟩) rfl _ _ rfl rfl w.heap.size _ _ ((putN V 6).take 3) [UInt8.ofNat (V / 256 ^ 2)] rfl rfl hownA hlit ?_ ?_ ?_; (rw [List.length_take, putN_length]; simp); (simp; omega); intro v3 w3 hown3 hbel3)
      go_roundw
      case rel => exact ⟨4, 2-1, by decide, by go_num, by decide, hown3, ((hbel.alloc hsz _).trans hbel3)⟩
      case measure => simp [intOf]
    by_cases h : k = 4
    · subst h
      obtain rfl : I = 1 := by omega
      have e := bv_div V 1
      rw [show (2 : Int) ^ (8 * 1) = 256 from rfl] at e
      skip
      have hlit : Bytes (wr.alloc (Obj.cells #[.int .u8 ((V : Int) / 256 % 256)] 5)) (.slice (some ⟨wr.heap.size, 0, none⟩) 1 1) [UInt8.ofNat (V / 256 ^ 1)] := by
        rw [e]
        exact (Own.lit wr [UInt8.ofNat (V / 256 ^ 1)] (by simp [maxLen])).bytes
      have hownA := hown.below (bnew wr (Obj.cells #[.int .u8 ((V : Int) / 256 % 256)] 5))
      have hsz := hbel.size
      clear hown hI hk e
      go_wp2_with (at_builtin; refine wpList_append_bytes (o := ⟨some 17, _, _, _, _, _⟩) rfl _ _ rfl rfl w.heap.size _ _ ((putN V 6).take 4) [UInt8.ofNat (V / 256 ^ 1)] rfl rfl hownA hlit ?_ ?_ ?_; (rw [List.length_take, putN_length]; simp); (simp; omega); intro v3 w3 hown3 hbel3)
      go_roundw
      case rel => exact ⟨5, 1-1, by decide, by go_num, by decide, hown3, ((hbel.alloc hsz _).trans hbel3)⟩
      case measure => simp [intOf]
    by_cases h : k = 5
    · subst h
      obtain rfl : I = 0 := by omega
      have e := bv_div V 0
      rw [show (2 : Int) ^ (8 * 0) = 1 from rfl] at e
      rw [Int.ediv_one] at e
      have hlit : Bytes (wr.alloc (Obj.cells #[.int .u8 ((V : Int) % 256)] 5)) (.slice (some ⟨wr.heap.size, 0, none⟩) 1 1) [UInt8.ofNat (V / 256 ^ 0)] := by
        rw [e]
        exact (Own.lit wr [UInt8.ofNat (V / 256 ^ 0)] (by simp [maxLen])).bytes
      have hownA := hown.below (bnew wr (Obj.cells #[.int .u8 ((V : Int) % 256)] 5))
      have hsz := hbel.size
      clear hown hI hk e
      go_wp2_with (at_builtin; refine wpList_append_bytes (o := ⟨some 17, _, _, _, _, _⟩) rfl _ _ rfl rfl w.heap.size _ _ ((putN V 6).take 5) [UInt8.ofNat (V / 256 ^ 0)] rfl rfl hownA hlit ?_ ?_ ?_; (rw [List.length_take, putN_length]; simp); (simp; omega); intro v3 w3 hown3 hbel3)
      go_roundw
      case rel => exact ⟨6, 0-1, by decide, by go_num, by decide, hown3, ((hbel.alloc hsz _).trans hbel3)⟩
      case measure => simp [intOf]
    · obtain rfl : k = 6 := by omega
      obtain rfl : I = -1 := by omega
      have Hown := hid hown
      clear hown hI hk
      go_wp2_with fail
      go_ret
      exact ⟨_, rfl, Hown.out, hbel⟩

theorem putN_six (A : Nat) : putN A 6 = putN (A / 16777216) 3 ++ putN A 3 := by
  simp [putN, Nat.div_div_eq_div_mul]

theorem macN_putN (A : Nat) : macN (putN A 6) = A / 16777216 % 16777216 * 1099511627776 + 1099478073344 + A % 16777216 := by
  unfold macN
  have h1 := numAt_putN [] (putN A 3) (A / 16777216) 3 0 (by decide) rfl
  have h2 := numAt_putN (putN (A / 16777216) 3) [] A 3 3 (by decide) (putN_length _ _)
  rw [List.nil_append] at h1
  rw [List.append_nil] at h2
  rw [putN_six, h1, h2]

theorem and_low (n : Nat) (h : n < 18446744073709551616) : bits BinOp.and IntKind.u64 (n : Int) 65535 = ((n % 65536 : Nat) : Int) := by
  have h1 : (BitVec.ofInt 64 (n : Int)).toNat = n := by
    rw [BitVec.toNat_ofInt, Int.emod_eq_of_lt (by omega) (by omega), Int.toNat_natCast]
  have h2 : (BitVec.ofInt 64 (65535 : Int)).toNat = 2 ^ 16 - 1 := by decide
  show IntKind.u64.wrap ((BitVec.ofInt 64 (n : Int) &&& BitVec.ofInt 64 (65535 : Int)).toNat : Nat) = _
  rw [BitVec.toNat_and, h1, h2, Nat.and_two_pow_sub_one_eq_mod, IntKind.wrap_u64]
  have : n % 2 ^ 16 < 65536 := Nat.mod_lt _ (by decide)
  omega

theorem mac_facts (A B X Y : Nat) (hA : A < 18446744073709551616) (hB : B < 18446744073709551616) (hX : X = A / 16777216 % 16777216 * 1099511627776 + 1099478073344 + A % 16777216) (hY : Y = B / 16777216 % 16777216 * 1099511627776 + 1099478073344 + B % 16777216) :
    ((X : Int) == (Y : Int)) = (IntKind.u64.wrap ((A : Int) * 65536) == IntKind.u64.wrap ((B : Int) * 65536)) ∧ bits BinOp.and IntKind.u64 ((X : Int) / 16777216) 65535 = 65534 ∧ (X : Int) / 1099511627776 = IntKind.u64.wrap ((A : Int) * 65536) / 1099511627776 := by
  refine ⟨?_, ?_, ?_⟩
  · rw [Bool.eq_iff_iff, beq_iff_eq, beq_iff_eq, IntKind.wrap_u64, IntKind.wrap_u64]
    constructor <;> intro h <;> omega
  · have e : (X : Int) / 16777216 = ((X / 16777216 : Nat) : Int) := by omega
    rw [e, and_low _ (by omega)]
    omega
  · rw [IntKind.wrap_u64]
    omega

theorem mac_len (A : Nat) : (putN A 6).length = 6 := putN_length A 6

theorem fromMac_is {v : Value} {l : List UInt8} {w : World} {x : Int} {ok : Bool} (h : Hid (macV l = x ∧ macB l = ok)) (hB : Bytes w v l) (hl : l.length ≤ 140737488355328) :
    Calls Try.prog 11 #[v] w fun e w' => e = .returned (.tuple #[.int .u64 x, .bool ok]) ∧ w = w' := by
  have := fromMac_any v l w hB hl
  rw [h.out.1, h.out.2] at this
  exact this

set_option maxHeartbeats 1600000 in
theorem identMacs_walk (a : Int) (w0 : (Lit.int .u64 a).wf = true) (b : Int) (w1 : (Lit.int .u64 b).wf = true) (w : World) :
    Calls Try.prog 7 #[.int .u64 a, .int .u64 b] w fun e w' => e = .returned (.bool true) ∧ Below w.heap.size w w' := by
  obtain ⟨ha0, ha1⟩ := u64_of_wf w0
  obtain ⟨hb0, hb1⟩ := u64_of_wf w1
  clear w0 w1
  obtain ⟨A, rfl⟩ := Int.eq_ofNat_of_zero_le ha0
  obtain ⟨B, rfl⟩ := Int.eq_ofNat_of_zero_le hb0
  have hA : A < 18446744073709551616 := by omega
  have hB : B < 18446744073709551616 := by omega
  clear ha0 ha1 hb0 hb1
  have hlA := mac_len A
  have hlB := mac_len B
  have g0 : Hid (macV (putN A 6) = (macN (putN A 6) : Int) ∧ macB (putN A 6) = true) := hid ⟨macV_yes hlA, macB_yes hlA⟩
  have g1 : Hid (macV (putN B 6) = (macN (putN B 6) : Int) ∧ macB (putN B 6) = true) := hid ⟨macV_yes hlB, macB_yes hlB⟩
  have hl5 : ((putN A 6).take 5).length = 5 := by rw [List.length_take, hlA]; rfl
  have g2 : Hid (macV ((putN A 6).take 5) = 0 ∧ macB ((putN A 6).take 5) = false) := hid ⟨macV_no (by omega), macB_no (by omega)⟩
  have F := hid (mac_facts A B _ _ hA hB (macN_putN A) (macN_putN B))
  generalize macN (putN A 6) = X at *
  generalize macN (putN B 6) = Y at *
  have HlA := hid hlA
  have HlB := hid hlB
  have HA := hid hA
  have HB := hid hB
  clear hlA hlB hl5 hA hB
  go_enter Try.func7, Try.ntmps7
  go_wp2_with fail
  refine (mac_any A _ HA.out).mono ?_
  rintro e w1 ⟨v1, rfl, own1, hb1⟩
  go_wp2_with fail
  refine (fromMac_is g0 own1.bytes (by rw [HlA.out]; decide)).mono ?_
  rintro e w2 ⟨rfl, rfl⟩
  have Hb1 := hid hb1
  clear own1 hb1
  go_wp2_with fail
  refine (mac_any B _ HB.out).mono ?_
  rintro e w3 ⟨v3, rfl, own3, hb3⟩
  go_wp2_with fail
  refine (fromMac_is g1 own3.bytes (by rw [HlB.out]; decide)).mono ?_
  rintro e w4 ⟨rfl, rfl⟩
  have Hb3 := hid hb3
  clear own3 hb3
  go_wp2_with fail
  refine (mac_any A _ HA.out).mono ?_
  rintro e w5 ⟨v5, rfl, own5, hb5⟩
  obtain ⟨g, cap, rfl, hg1, hg2, hg3, hg4⟩ := own5.form (by rw [HlA.out]; decide)
  have hc : Bytes w5 (.slice (some ⟨g, 0, none⟩) 5 cap) ((putN A 6).take 5) := by
    have h := Bytes.cut (w := w5) (b := g) (off := 0) (cap := cap) (l := putN A 6) 0 5 cap hg4 (fun i hi => by rw [Nat.zero_add]; exact own5.cell i hi) (by rw [HlA.out]; decide) hg1 hg3 rfl
    exact h
  have Hc := hid hc
  have Hb5 := hid hb5
  rw [HlA.out] at hg1 ⊢
  have hcap : (5 : Int) ≤ (cap : Int) := by omega
  clear own5 hb5 hc hg2 hg3 hg4
  go_wp2_with fail
  refine (fromMac_is g2 Hc.out (by rw [List.length_take]; omega)).mono ?_
  rintro e w6 ⟨rfl, rfl⟩
  obtain ⟨f1, f2, f3⟩ := F.out
  go_wp2_with fail
  refine (awake04_any _).mono ?_
  rintro e w7 ⟨rfl, hb7⟩
  clear f1 f2 f3
  go_wp2_with fail
  go_ret
  exact ⟨rfl, bnext Hb1.out (bnext Hb3.out (bnext Hb5.out hb7))⟩
end Go.Proofs.Ytkjkjhlcdhdbaaa
