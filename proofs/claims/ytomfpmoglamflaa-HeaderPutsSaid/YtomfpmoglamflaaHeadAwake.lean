/- carillonlaw06's awake; a message compared with itself. -/
import Derived.Test.YtomfpmoglamflaaHeadPut
import Derived.Test.YtomfpmoglamflaaHeadGet
namespace Go.Proofs.Ytomfpmoglamflaa
open Go.RowKit Go.Proofs
set_option linter.unusedVariables false
set_option linter.unusedSimpArgs false

set_option maxHeartbeats 1600000 in
theorem awake06_any (w : World) :
    Calls Try.prog 16 #[] w fun e w' => e = .returned (.bool true) ∧ Below w.heap.size w w' := by
  have hlen := headS_length hd0 44
  have htk : (headS hd0 44).take 4 = [0, 18, 0, 44] := by decide +kernel
  generalize hL : headS hd0 44 = L at *
  have HL := hid hL
  clear hL
  go_enter Try.func16, Try.ntmps16
  go_wp2_with fail
  refine (headPut_yes hd0 zr 44 _ rfl (by decide) (by decide)).mono ?_
  rintro e w1 ⟨v, rfl, own, hb1⟩
  rw [HL.out] at own
  obtain ⟨g, cap, rfl, hc, _, hm, hg⟩ := own.form (by omega)
  have hcell := fun i (hi : i < L.length) => own.cell i hi
  have hstr := (Bytes.cut (w := w1) (b := g) (off := 0) (l := L) (cap := cap) 0 4 cap hg (fun i hi => by rw [Nat.zero_add]; exact hcell i hi) (by omega) hc hm rfl).str
  rw [List.drop_zero, htk, Nat.zero_add] at hstr
  rw [hlen] at hc ⊢
  clear hcell own hm
  go_wp2_with fail
  refine (known_any _ _).mono ?_
  rintro e w' ⟨rfl, rfl⟩
  rw [show knownB 13 = true by decide]
  go_wp2_with fail
  refine (known_any _ _).mono ?_
  rintro e w' ⟨rfl, rfl⟩
  rw [show knownB 4 = false by decide]
  go_wp2_with fail
  go_ret
  exact ⟨rfl, hb1⟩

set_option maxRecDepth 100000 in
set_option maxHeartbeats 4000000 in
theorem same_msg (h : Hd) (w : World) : (Op.equalIn 10000 28 (.agg (msgL h zr).toArray) (.agg (msgL h zr).toArray)).run Try.prog w = .ok true w := by
  unfold msgL zr
  go_simp
end Go.Proofs.Ytomfpmoglamflaa
