/- The document's own answers of chapter 8: Check, Find, Known. -/
import Derived.Test.YtdhdlpoopehmlaaTlvFew
import Derived.Test.YtdhdlpoopehmlaaPerm
namespace Go.Proofs.Ytdhdlpoopehmlaa
open Go.RowKit Go.Proofs
set_option linter.unusedVariables false
set_option linter.unusedSimpArgs false

/-- Whether a TLV may be. -/
def checkT (q : T2) : Bool := decide (0 ≤ q.1) && (decide (q.1 ≤ 65535) && (decide (q.2.length % 2 = 0) && decide (q.2.length ≤ 400)))

theorem box_tlv (w : World) (q : T2) : ∃ W, W = w.alloc (Obj.cells #[.int .i64 q.1, sv q.2] 32) ∧ Below w.heap.size w W ∧
    Hid (∀ wx, Below W.heap.size W wx → wx.cell? ⟨w.heap.size, 0, none⟩ = some (.int .i64 q.1)) ∧ Hid (∀ wx, Below W.heap.size W wx → wx.cell? ⟨w.heap.size, 1, none⟩ = some (sv q.2)) := by
  refine ⟨_, rfl, bnew _ _, hid fun wx h => ?_, hid fun wx h => ?_⟩
  · exact ((Box.new w [.int .i64 q.1, sv q.2] _).below h).cell 0 _ rfl
  · exact ((Box.new w [.int .i64 q.1, sv q.2] _).below h).cell 1 _ rfl

theorem even_tmod (n : Nat) : (n : Int).tmod 2 = ((n % 2 : Nat) : Int) := by
  rw [Int.tmod_eq_emod_of_nonneg (by omega)]; omega

set_option maxHeartbeats 800000 in
theorem refCheckT_any (c : Int) (s : List UInt8) (w : World) (hs : s.length ≤ 9223372036854775807) :
    Calls Try.prog 16 #[tlvV (c, s)] w fun e w' => e = .returned (.bool (checkT (c, s))) ∧ Below w.heap.size w w' := by
  have HC : Hid (checkT (c, s) = (decide (0 ≤ c) && (decide (c ≤ 65535) && (decide (s.length % 2 = 0) && decide (s.length ≤ 400))))) := hid rfl
  generalize checkT (c, s) = F at *
  have he := even_tmod s.length
  by_cases h0 : 0 ≤ c
  · by_cases h1 : c ≤ 65535
    · by_cases h2 : s.length % 2 = 0
      · rw [h2] at he
        have h2I : ((s.length : Int) % 2 == 0) = true := by rw [beq_iff_eq]; omega
        by_cases h3 : s.length ≤ 400
        · go_enter Try.func16, Try.ntmps16
          go_wp2_with fail
          go_ret
          exact ⟨by rw [HC.out]; simp [h0, h1, h2, h3]; try omega, bnew _ _⟩
        · go_enter Try.func16, Try.ntmps16
          go_wp2_with fail
          go_ret
          exact ⟨by rw [HC.out]; simp [h0, h1, h2, h3]; try omega, bnew _ _⟩
      · have h2' : s.length % 2 = 1 := by omega
        rw [h2'] at he
        have h2I : ((s.length : Int) % 2 == 0) = false := by rw [beq_eq_false_iff_ne]; omega
        go_enter Try.func16, Try.ntmps16
        go_wp2_with fail
        go_ret
        exact ⟨by rw [HC.out]; simp [h0, h1, h2], bnew _ _⟩
    · go_enter Try.func16, Try.ntmps16
      go_wp2_with fail
      go_ret
      exact ⟨by rw [HC.out, decide_eq_false (show ¬ c ≤ 65535 by omega)]; simp, bnew _ _⟩
  · go_enter Try.func16, Try.ntmps16
    go_wp2_with fail
    go_ret
    exact ⟨by rw [HC.out, decide_eq_false (show ¬ 0 ≤ c by omega)]; simp, bnew _ _⟩
end Go.Proofs.Ytdhdlpoopehmlaa
