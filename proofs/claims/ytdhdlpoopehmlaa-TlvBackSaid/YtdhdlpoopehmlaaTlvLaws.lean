/- Laws of chapter 8, from contracts of the program's own that are handed in: TlvGets. -/
import Derived.Test.YtdhdlpoopehmlaaTlvRefG
import Derived.Test.YtdhdlpoopehmlaaTlvBox
import Derived.Test.YtdhdlpoopehmlaaTlvFew
import Derived.Test.YtdhdlpoopehmlaaApp
namespace Go.Proofs.Ytdhdlpoopehmlaa
open Go.RowKit Go.Proofs
set_option linter.unusedVariables false
set_option linter.unusedSimpArgs false

/-- What awake answers. -/
def Awake8 : Prop := ∀ w : World, Calls Try.prog 11 #[] w fun e w' => e = .returned (.bool true) ∧ Below w.heap.size w w'

/-- The program's Get. -/
def Get8 : Prop := ∀ (v : Value) (l : List UInt8) (at' : Int) (w : World), Bytes w v l → l.length ≤ 140737488355328 → -9223372036854775808 ≤ at' ∧ at' ≤ 9223372036854775807 →
  Calls Try.prog 21 #[v, .int .i64 at'] w fun e w' => ∃ v', e = .returned (.tuple #[v', .int .i64 (getT l at').2]) ∧ OwnT w' w.heap.size v' (getT l at').1 ∧ Below w.heap.size w w'

theorem getF_length (b : List UInt8) : ∀ (k A : Nat) (acc : List T2), (getF b k A acc).1.length ≤ acc.length + k
  | 0, A, acc => by unfold getF; split <;> simp
  | k + 1, A, acc => by
    unfold getF
    split
    · split
      · simp
      · split
        · simp
        · split
          · refine Nat.le_trans (getF_length b k _ _) ?_
            simp
            omega
          · simp
    · simp

theorem getT_length (b : List UInt8) (at' : Int) : (getT b at').1.length ≤ 8 := by
  unfold getT
  split
  · exact Nat.le_trans (getF_length b 8 _ _) (by simp)
  · simp

set_option maxRecDepth 100000 in
set_option maxHeartbeats 1600000 in
theorem tlvGets_from (HA : Awake8) (HG : Get8) (v : Value) (l : List UInt8) (at' : Int) (w : World) (hB : Bytes w v l) (hl : l.length ≤ 140737488355328) (ha : -9223372036854775808 ≤ at' ∧ at' ≤ 9223372036854775807) :
    Calls Try.prog 4 #[v, .int .i64 at'] w fun e w' => e = .returned (.bool true) ∧ Below w.heap.size w w' := by
  have hlen := getT_length l at'
  go_enter Try.func4, Try.ntmps4
  go_wp2_with fail
  refine (bytes00_any v l w hB hl).mono ?_
  rintro e w1 ⟨v1, rfl, o1, b1⟩
  go_wp2_with fail
  refine (HG v1 l at' w1 o1.bytes hl ha).mono ?_
  rintro e w2 ⟨v2, rfl, o2, b2⟩
  have hb := bnext b1 b2
  go_wp2_with fail
  refine (refGetT_any v l at' w2 (hB.below hb) hl ha).mono ?_
  rintro e w3 ⟨v3, rfl, o3, b3⟩
  have hb3 := bnext hb b3
  have o2 := (o2.below b3).tlvs
  have o3 := o3.tlvs
  generalize getT l at' = F at *
  go_wp2_with fail
  refine (sameTlvs_any v2 v3 F.1 F.1 w3 o2 o3 (by omega) (by omega)).mono ?_
  rintro e w4 ⟨rfl, b4⟩
  rw [beq_self_eq_true]
  go_wp2_with fail
  refine (HA w4).mono ?_
  rintro e w5 ⟨rfl, b5⟩
  go_wp2_with fail
  go_ret
  exact ⟨rfl, bnext (bnext hb3 b4) b5⟩
end Go.Proofs.Ytdhdlpoopehmlaa
