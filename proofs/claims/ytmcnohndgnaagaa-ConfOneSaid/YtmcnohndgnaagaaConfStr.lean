/- conf: what it asks of package strings: a text cut at its first blank, a sign in front; the number that a text is. -/
import Derived.Test.YtmcnohndgnaagaaConfLaws0
import Derived.Test.YtmcnohndgnaagaaIter
import Derived.Lib.Bytealg
namespace Go.Proofs.Ytmcnohndgnaagaa
open Go.RowKit Go.Proofs
set_option maxRecDepth 50000
set_option linter.unusedVariables false
set_option linter.unusedSimpArgs false

theorem nm_le (s : List UInt8) : (nmF s).length ≤ s.length := (List.takeWhile_prefix _).length_le
/-- Where the first blank is. -/
def ixF (s : List UInt8) : Int := if (nmF s).length = s.length then -1 else ((nmF s).length : Int)
theorem index_nm (s : List UInt8) : Go.Lib.indexByte s 32 = ixF s := by
  unfold ixF nmF
  induction s with
  | nil => rfl
  | cons b t ih =>
    have hl := nm_le t
    unfold nmF at hl
    unfold Go.Lib.indexByte
    by_cases hb : b = 32
    · subst hb
      simp
    · have h1 : (b == 32) = false := beq_false_of_ne hb
      have h2 : (b != 32) = true := by rw [bne_iff_ne]; exact hb
      rw [h1, ih]
      simp only [Bool.false_eq_true, if_false, List.takeWhile_cons, h2, if_true, List.length_cons]
      by_cases h : (t.takeWhile (fun b => b != 32)).length = t.length
      · simp [h]
      · rw [if_neg h, if_neg (by simp), if_neg (by omega)]
        omega

theorem nm_take (s : List UInt8) : s.take (nmF s).length = nmF s := by
  unfold nmF
  induction s with
  | nil => rfl
  | cons b t ih =>
    by_cases hb : (b != 32) = true
    · simp only [List.takeWhile_cons, hb, if_true, List.length_cons, List.take_succ_cons, ih]
    · simp [List.takeWhile_cons, hb]

@[go_sem] theorem indexByte_call (s : List UInt8) (w : World) : (callFunc 60 #[.string ⟨s.toArray⟩, .int .u8 32]).run Try.prog w = .ok (.value (.int .i64 (ixF s))) w := by
  rw [run_callFunc_extern Try.func60 (e := Extern.BytealgIndexByte.indexByte) (by kernel_rfl) (by kernel_rfl) (by kernel_rfl) (by kernel_rfl), Go.Lib.run_indexByteString]
  have h : (⟨s.toArray⟩ : ByteArray).data.toList = s := rfl
  rw [h]
  have h2 : (32 : Int).toNat.toUInt8 = 32 := rfl
  rw [h2, index_nm]
  rfl

theorem from_str' (s : List UInt8) (n : Nat) (h : n ≤ s.length) : (⟨s.toArray⟩ : ByteArray).extract n s.length = ⟨(s.drop n).toArray⟩ := by
  apply ByteArray.ext
  simp [ByteArray.data_extract]
  exact List.take_of_length_le (by rw [List.length_drop]; exact Nat.le_refl _)
theorem upto_str (s : List UInt8) (n : Nat) (h : n ≤ s.length) : (⟨s.toArray⟩ : ByteArray).extract 0 n = ⟨(s.take n).toArray⟩ := by
  apply ByteArray.ext
  simp [ByteArray.data_extract]
theorem str_eq (a b : List UInt8) : ((⟨a.toArray⟩ : ByteArray) == ⟨b.toArray⟩) = (a == b) := by
  show (a.toArray == b.toArray) = _
  simp
theorem str_ne {a b : List UInt8} (h : a ≠ b) : ((⟨a.toArray⟩ : ByteArray) == ⟨b.toArray⟩) = false := by
  rw [str_eq]
  exact beq_false_of_ne h
theorem sbyte_any (s : List UInt8) (w : World) :
    Calls Try.prog 55 #[sv s, .int .u8 32] w fun e w' => e = .returned (.int .i64 (ixF s)) ∧ w = w' := by
  go_enter Try.func55, Try.ntmps55
  go_wp2_with fail
  go_ret
  exact ⟨rfl, rfl⟩

set_option maxRecDepth 100000 in
set_option maxHeartbeats 2000000 in
theorem sindex_any (s : List UInt8) (w : World) :
    Calls Try.prog 53 #[sv s, .string ⟨#[32]⟩] w fun e w' => e = .returned (.int .i64 (ixF s)) ∧ w = w' := by
  by_cases hs : s = [32]
  · subst hs
    go_enter Try.func53, Try.ntmps53
    go_wp2_with fail
    go_ret
    exact ⟨rfl, rfl⟩
  · have h1 : ((⟨#[32]⟩ : ByteArray) == ⟨s.toArray⟩) = false := str_ne (a := [32]) (fun e => hs e.symm)
    have h2 : ([32] == s) = false := beq_false_of_ne (fun e => hs e.symm)
    go_enter Try.func53, Try.ntmps53
    go_wp2_with fail
    refine (sbyte_any s _).mono ?_
    rintro e w' ⟨rfl, rfl⟩
    go_wp2_with fail
    go_ret
    exact ⟨rfl, rfl⟩

/-- What is ahead of the first blank, what is behind it, whether there is one. -/
def cutN (s : List UInt8) : List UInt8 := nmF s
def cutD (s : List UInt8) : List UInt8 := s.drop ((nmF s).length + 1)
def cutB (s : List UInt8) : Bool := decide (¬ (nmF s).length = s.length)

theorem cut_none {s : List UInt8} (h : (nmF s).length = s.length) : cutN s = s ∧ cutD s = [] ∧ cutB s = false := by
  refine ⟨?_, ?_, ?_⟩
  · unfold cutN
    have := nm_take s
    rw [h, List.take_of_length_le (Nat.le_refl _)] at this
    exact this.symm
  · unfold cutD
    exact List.drop_of_length_le (by omega)
  · simp [cutB, h]

set_option maxRecDepth 100000 in
set_option maxHeartbeats 2000000 in
theorem cutl_any (s : List UInt8) (w : World) (hl : s.length ≤ 5000) :
    Calls Try.prog 51 #[sv s, .string ⟨#[32]⟩] w fun e w' => e = .returned (.tuple #[sv (cutN s), sv (cutD s), .bool (cutB s)]) ∧ Below w.heap.size w w' := by
  have hle := nm_le s
  by_cases h : (nmF s).length = s.length
  · obtain ⟨h1, h2, h3⟩ := cut_none h
    rw [h1, h2, h3]
    have hx : ixF s = -1 := if_pos h
    clear h1 h2 h3
    go_enter Try.func51, Try.ntmps51
    go_wp2_with fail
    refine (sindex_any _ _).mono ?_
    rintro e w' ⟨rfl, rfl⟩
    rw [hx]
    go_wp2_with fail
    go_ret3
    exact ⟨rfl, Below.refl _ _⟩
  · have hx : ixF s = ((nmF s).length : Int) := if_neg h
    have hC : cutB s = true := by simp [cutB, h]
    rw [hC]
    have hT := nm_take s
    have hF := from_str' s ((nmF s).length + 1) (by omega)
    have hU := upto_str s ((nmF s).length) hle
    rw [hT] at hU
    unfold cutN cutD
    generalize hn : (nmF s).length = n at *
    generalize nmF s = N at *
    clear hT hn
    have hlt : n < s.length := by omega
    go_enter Try.func51, Try.ntmps51
    go_wp2_with fail
    refine (sindex_any _ _).mono ?_
    rintro e w' ⟨rfl, rfl⟩
    rw [hx]
    generalize hD : s.drop (n + 1) = D at *
    have hnI : (n : Int) + 1 ≤ (s.length : Int) := by omega
    go_upto_region 3 with fail
    go_region
    all_goals
      go_wp2_with fail
      go_ret3
      exact ⟨by rw [hD]; rfl, Below.drew (Below.refl _ _)⟩

set_option maxRecDepth 100000 in
set_option maxHeartbeats 2000000 in
theorem cut_any (s : List UInt8) (w : World) (hl : s.length ≤ 5000) :
    Calls Try.prog 45 #[sv s, .string ⟨#[32]⟩] w fun e w' => e = .returned (.tuple #[sv (cutN s), sv (cutD s), .bool (cutB s)]) ∧ Below w.heap.size w w' := by
  go_enter Try.func45, Try.ntmps45
  go_wp2_with fail
  refine (cutl_any s _ hl).mono ?_
  rintro e w' ⟨rfl, hb⟩
  go_wp2_with fail
  go_ret3
  exact ⟨rfl, hb⟩

def sgnB (s : List UInt8) : Bool := decide (s.head? = some 45)
def sgnD (s : List UInt8) : List UInt8 := if s.head? = some 45 then s.tail else s

set_option maxRecDepth 100000 in
set_option maxHeartbeats 2000000 in
theorem hasPrefix_any (s : List UInt8) (w : World) (hl : s.length ≤ 5000) :
    Calls Try.prog 59 #[sv s, .string ⟨#[45]⟩] w fun e w' => e = .returned (.bool (sgnB s)) ∧ w = w' := by
  cases s with
  | nil =>
    go_enter Try.func59, Try.ntmps59
    go_wp2_with fail
    go_ret
    exact ⟨rfl, rfl⟩
  | cons b t =>
    have hU := upto_str (b :: t) 1 (by simp)
    have hll : t.length + 1 ≤ 5000 := hl
    rw [show (b :: t).take 1 = [b] from rfl] at hU
    by_cases hb : b = 45
    · subst hb
      go_enter Try.func59, Try.ntmps59
      go_wp2_with fail
      go_ret
      exact ⟨rfl, rfl⟩
    · have h1 : ((⟨#[b]⟩ : ByteArray) == ⟨#[45]⟩) = false := str_ne (a := [b]) (b := [45]) (by simpa using hb)
      have hn : sgnB (b :: t) = false := by simp [sgnB, hb]
      have h2 : (b == 45) = false := beq_false_of_ne hb
      rw [hn]
      go_enter Try.func59, Try.ntmps59
      go_wp2_with fail
      go_ret
      exact ⟨rfl, rfl⟩

set_option maxRecDepth 100000 in
set_option maxHeartbeats 2000000 in
theorem cutPrefixl_any (s : List UInt8) (w : World) (hl : s.length ≤ 5000) :
    Calls Try.prog 54 #[sv s, .string ⟨#[45]⟩] w fun e w' => e = .returned (.tuple #[sv (sgnD s), .bool (sgnB s)]) ∧ w = w' := by
  by_cases h : s.head? = some 45
  · have h1 : sgnB s = true := decide_eq_true h
    have h2 : sgnD s = s.tail := if_pos h
    have h3 : 1 ≤ s.length := by cases s with
      | nil => cases h
      | cons b t => simp
    have hF := from_str' s 1 h3
    rw [h2, h1]
    rw [show s.drop 1 = s.tail by simp] at hF
    generalize s.tail = D at *
    go_enter Try.func54, Try.ntmps54
    go_wp2_with fail
    refine (hasPrefix_any s _ hl).mono ?_
    rintro e w' ⟨rfl, rfl⟩
    rw [h1]
    go_wp2_with fail
    go_ret2
    exact ⟨rfl, rfl⟩
  · have h1 : sgnB s = false := decide_eq_false h
    have h2 : sgnD s = s := if_neg h
    rw [h2, h1]
    go_enter Try.func54, Try.ntmps54
    go_wp2_with fail
    refine (hasPrefix_any s _ hl).mono ?_
    rintro e w' ⟨rfl, rfl⟩
    rw [h1]
    go_wp2_with fail
    go_ret2
    exact ⟨rfl, rfl⟩

set_option maxRecDepth 100000 in
set_option maxHeartbeats 2000000 in
theorem cutPrefix_any (s : List UInt8) (w : World) (hl : s.length ≤ 5000) :
    Calls Try.prog 52 #[sv s, .string ⟨#[45]⟩] w fun e w' => e = .returned (.tuple #[sv (sgnD s), .bool (sgnB s)]) ∧ w = w' := by
  go_enter Try.func52, Try.ntmps52
  go_wp2_with fail
  refine (cutPrefixl_any s _ hl).mono ?_
  rintro e w' ⟨rfl, rfl⟩
  go_wp2_with fail
  go_ret2
  exact ⟨rfl, rfl⟩
end Go.Proofs.Ytmcnohndgnaagaa
