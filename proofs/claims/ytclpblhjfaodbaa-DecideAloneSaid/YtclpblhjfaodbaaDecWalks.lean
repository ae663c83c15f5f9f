/- The program's own Text of chapter 13; the walks of chapter 13's laws (gen_decown.py). -/
import Derived.Test.YtclpblhjfaodbaaDecOwn3
import Derived.Test.YtclpblhjfaodbaaDecLaws1
import Derived.Test.YtclpblhjfaodbaaDecLaws2
import Derived.Test.YtclpblhjfaodbaaDecLaws3
import Derived.Test.YtclpblhjfaodbaaDecLaws4
namespace Go.Proofs.Ytclpblhjfaodbaa
open Go.RowKit Go.Proofs
set_option maxRecDepth 50000
set_option linter.unusedVariables false
set_option linter.unusedSimpArgs false

set_option maxRecDepth 100000 in
set_option maxHeartbeats 8000000 in
theorem ownText : CText := by
  intro d w
  have hb := bnew w (Obj.cells textL.toArray 45)
  have hB := Box.new w textL 45
  obtain ⟨T, hT⟩ : ∃ T, T = textD d := ⟨_, rfl⟩
  rw [← hT]
  go_enter Try.func14, Try.ntmps14
  go_upto_region 2 with fail
  change Code.wp Try.prog _ _ _ (w.alloc (Obj.cells textL.toArray 45))
  generalize w.alloc (Obj.cells textL.toArray 45) = W at *
  by_cases h0 : d < 0
  · have HX : T = ⟨#[]⟩ := by rw [hT]; unfold textD; simp [show ¬ d = 1 by omega, show ¬ d = 2 by omega, show ¬ d = 3 by omega, show ¬ d = 4 by omega, show ¬ d = 5 by omega, show ¬ d = 6 by omega, show ¬ d = 7 by omega]
    clear hT hB
    subst HX
    go_wp2_with fail
    go_ret
    exact ⟨rfl, hb⟩
  · by_cases h8 : 8 ≤ d
    · have HX : T = ⟨#[]⟩ := by rw [hT]; unfold textD; simp [show ¬ d = 1 by omega, show ¬ d = 2 by omega, show ¬ d = 3 by omega, show ¬ d = 4 by omega, show ¬ d = 5 by omega, show ¬ d = 6 by omega, show ¬ d = 7 by omega]
      clear hT hB
      subst HX
      go_wp2_with fail
      go_ret
      exact ⟨rfl, hb⟩
    · obtain ⟨j, rfl⟩ := Int.eq_ofNat_of_zero_le (show 0 ≤ d by omega)
      have hj : j < 8 := by omega
      have hjI : (j : Int) < 8 := by omega
      have c := hB.cell j _ (textL_get j hj)
      rw [← hT] at c
      clear hB hj hT h0 h8
      have hj0 : ¬ (j : Int) < 0 := by omega
      have hj1 : (0 : Int) ≤ (j : Int) := by omega
      have hj2 : ¬ (8 : Int) ≤ (j : Int) := by omega
      go_wp2_with fail
      go_ret
      exact ⟨rfl, hb⟩

theorem decideTexts_walk (d : Int) (w0 : (Lit.int .i64 d).wf = true) (w : World) :
    Calls Try.prog 6 #[.int .i64 d] w fun e w' => e = .returned (.bool true) ∧ Below w.heap.size w w' :=
  decideTexts_from ownAll ownText d w
theorem decideAlone_walk {w : World} (d : Vc) (hd : VcIn d) (lv : Value) (bs : List Bool) (hL : boK.Reads w lv bs) (n : Int) (w0 : (Lit.int .i64 n).wf = true) :
    Calls Try.prog 4 #[.agg (vcL d).toArray, lv, .int .i64 n] w fun e w' => e = .returned (.bool true) ∧ Below w.heap.size w w' :=
  decideAlone_from ownAll ownText d hd lv bs n w hL
theorem decideSlave_walk {w : World} (d : Vc) (hd : VcIn d) (lv : Value) (bs : List Bool) (hL : boK.Reads w lv bs) (v2 : Value) (l : List Vc) (hV : vecK.Reads w v2 l) (hl : l.length * 88 ≤ 140737488351232) (hin : ∀ a ∈ l, VcIn a) (tv : Value) (ts : List Bool) (hT2 : boK.Reads w tv ts) :
    Calls Try.prog 3 #[.agg (vcL d).toArray, lv, v2, tv] w fun e w' => e = .returned (.bool true) ∧ Below w.heap.size w w' :=
  decideSlave_from ownAll ownText d hd lv bs v2 l tv ts w hL hV hin hT2
theorem decideClass_walk {w : World} (d : Vc) (hd : VcIn d) (lv : Value) (bs : List Bool) (hL : boK.Reads w lv bs) (v2 : Value) (l : List Vc) (hV : vecK.Reads w v2 l) (hl : l.length * 88 ≤ 140737488351232) (hin : ∀ a ∈ l, VcIn a) (tv : Value) (ts : List Bool) (hT2 : boK.Reads w tv ts) :
    Calls Try.prog 7 #[.agg (vcL d).toArray, lv, v2, tv] w fun e w' => e = .returned (.bool true) ∧ Below w.heap.size w w' :=
  decideClass_from ownAll ownText ownComp d hd lv bs v2 l tv ts w hL hV hin hT2
theorem decideBetter_walk {w : World} (d : Vc) (hd : VcIn d) (v2 : Value) (l : List Vc) (hV : vecK.Reads w v2 l) (hl : l.length * 88 ≤ 140737488351232) (hin : ∀ a ∈ l, VcIn a) :
    Calls Try.prog 5 #[.agg (vcL d).toArray, v2] w fun e w' => e = .returned (.bool true) ∧ Below w.heap.size w w' :=
  decideBetter_from ownAll ownText ownGrand d hd v2 l w hV hin
end Go.Proofs.Ytclpblhjfaodbaa
