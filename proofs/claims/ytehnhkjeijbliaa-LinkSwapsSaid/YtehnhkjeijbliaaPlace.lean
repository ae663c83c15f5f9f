/- Contract of carillonlaw00.Place: any number as one from 0 to n - 1. -/
import Derived.Test.YtehnhkjeijbliaaBase
namespace Go.Proofs.Ytehnhkjeijbliaa
open Go.RowKit Go.Proofs
set_option maxRecDepth 50000
set_option linter.unusedVariables false

open Go.RowKit Go.Proofs

set_option maxHeartbeats 400000 in
theorem place_any (v n : Int) (w : World) (hn : 0 < n) (hn2 : n ≤ 9223372036854775807) :
    Calls Try.prog 7 #[.int .i64 v, .int .i64 n] w fun e w' => e = .returned (.int .i64 (v % n)) ∧ w = w' := by
  have hb := tmod_bounds v n hn
  obtain ⟨hb1, hb2⟩ := hb
  go_enter Try.func7, Try.ntmps7
  go_wp2
  · have hlt : v.tmod n < 0 := by assumption
    go_ret
    exact ⟨ret_int (tmod_neg_emod v n hn hlt), rfl⟩
  · have hlt : 0 ≤ v.tmod n := by assumption
    go_ret
    exact ⟨ret_int (tmod_nonneg_emod v n hn hlt), rfl⟩

/-- What Place answers, behind a name: a number from 0 to n - 1. -/
def Placed (v n : Int) (w : World) (e : Ending) (w' : World) : Prop := ∃ y, e = .returned (.int .i64 y) ∧ 0 ≤ y ∧ y < n ∧ Hid (y = v % n) ∧ w = w'

theorem place_in (v n : Int) (w : World) (hn : 0 < n) (hn2 : n ≤ 9223372036854775807) :
    Calls Try.prog 7 #[.int .i64 v, .int .i64 n] w (Placed v n w) :=
  (place_any v n w hn hn2).mono fun _ _ ⟨he, hw⟩ => ⟨v % n, he, Int.emod_nonneg _ (by omega), Int.emod_lt_of_pos _ hn, rfl, hw⟩
end Go.Proofs.Ytehnhkjeijbliaa
