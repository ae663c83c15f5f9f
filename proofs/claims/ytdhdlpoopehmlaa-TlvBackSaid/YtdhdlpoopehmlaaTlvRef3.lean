/- The document's own Find (chapter 8). -/
import Derived.Test.YtdhdlpoopehmlaaTlvBox
namespace Go.Proofs.Ytdhdlpoopehmlaa
open Go.RowKit Go.Proofs
set_option linter.unusedVariables false
set_option linter.unusedSimpArgs false

/-- The first TLV of a type, and whether there is one. -/
def findT (l : List T2) (t : Int) : T2 × Bool :=
  match l.find? (fun q => q.1 == t) with
  | some q => (q, true)
  | none => ((0, []), false)

theorem findT_yes {l : List T2} {t : Int} (k : Nat) (hk : k < l.length) (h : ∀ j (hj : j < l.length), j < k → (l[j]).1 ≠ t) (he : (l[k]).1 = t) : findT l t = (l[k], true) := by
  have : l.find? (fun q => q.1 == t) = some l[k] := by
    rw [List.find?_eq_some_iff_getElem]
    refine ⟨by simpa using he, k, hk, rfl, fun j hj => ?_⟩
    simpa using h j (by omega) hj
  unfold findT
  rw [this]

theorem findT_no {l : List T2} {t : Int} (h : ∀ j (hj : j < l.length), (l[j]).1 ≠ t) : findT l t = ((0, []), false) := by
  have : l.find? (fun q => q.1 == t) = none := by
    rw [List.find?_eq_none]
    intro x hx
    obtain ⟨k, hk, rfl⟩ := List.getElem_of_mem hx
    simpa using h k hk
  unfold findT
  rw [this]

set_option maxHeartbeats 1600000 in
theorem refFind_any (v : Value) (l : List T2) (t : Int) (w : World) (hB : Tlvs w v l) (hl : l.length ≤ 140737488355328) :
    Calls Try.prog 20 #[v, .int .i64 t] w fun e w' => e = .returned (.tuple #[tlvV (findT l t).1, .bool (findT l t).2]) ∧ Below w.heap.size w w' := by
  obtain ⟨p, cap, rfl, hc, -, hat⟩ := hB
  have HAT := hid fun (wx : World) (h : Below w.heap.size w wx) => hat.below h
  have HY := hid (@findT_yes l t)
  have HN := hid (@findT_no l t)
  clear hat hc
  generalize findT l t = F at *
  go_enter Try.func20, Try.ntmps20
  go_wp2_with fail
  have hbW := bnew w (Obj.cells #[.int .i64 0, .string ⟨#[]⟩] 32)
  have hBox := Box.new w [.int .i64 0, .string ⟨#[]⟩] 32
  generalize hG : w.heap.size = G at *
  generalize w.alloc (Obj.cells #[.int .i64 0, .string ⟨#[]⟩] 32) = W at *
  go_loop [6] (fun i => ∃ k : Nat, k ≤ l.length ∧ i = .int .i64 k ∧ Hid (∀ j (hj : j < l.length), j < k → (l[j]).1 ≠ t)) (fun i => l.length - (intOf i).toNat)
  case atStart => exact ⟨0, Nat.zero_le _, rfl, hid fun j hj h => absurd h (Nat.not_lt_zero _)⟩
  case round =>
    obtain ⟨k, hk, rfl, hA⟩ := hrel
    by_cases hlt : k < l.length
    · obtain ⟨b, off, rfl, hrow⟩ := (HAT.out _ hbW).row (by omega)
      obtain ⟨c, s, hq, H1, H2⟩ := hrow.get k hlt
      have c1 := H1.out _ (Below.refl _ _)
      have c2 := H2.out _ (Below.refl _ _)
      have HQ : Hid (l[k] = (c, s)) := hid hq
      clear hrow hq
      have hks : k + 1 ≤ l.length := hlt
      by_cases hs : c = t
      · subst hs
        have F' := HY.out k hlt hA.out (by rw [HQ.out])
        rw [HQ.out] at F'
        subst F'
        go_wp2_with (guard_target =~ wpList _ _ _ (⟨none, _, _, _, _, _⟩ :: _) _ _; refine wpList_store_tlv (op := ⟨none, .store _ _ _, _, _, _, _⟩) (by rfl) _ _ (by rfl) G (c, s) (tL (0, [])) _ (by rfl) (by rfl) hBox rfl ?_)
        exact bodyPost_ret (v := .tuple #[tlvV (c, s), .bool true]) (results_tlv_two (p := 4) (u := 5) rfl _ _ G _ (c, s) rfl (hBox.rowT _)) rfl ⟨rfl, below_setRow hbW (Nat.le_refl _) _⟩
      · have hI : (c == t) = false := beq_false_of_ne hs
        go_wp2_with fail
        go_round
        case rel =>
          refine ⟨k + 1, hks, by go_num, hid fun j hj h => ?_⟩
          by_cases hjk : j = k
          · subst hjk
            rw [HQ.out]
            exact hs
          · exact hA.out j hj (by omega)
        case measure => simp [intOf]; omega
    · have F' := HN.out fun j hj => hA.out j hj (by omega)
      subst F'
      go_wp2_with (guard_target =~ wpList _ _ _ (⟨none, _, _, _, _, _⟩ :: _) _ _; refine wpList_store_tlv (op := ⟨none, .store _ _ _, _, _, _, _⟩) (by rfl) _ _ (by rfl) G (0, []) (tL (0, [])) _ (by rfl) (by rfl) hBox rfl ?_)
      exact bodyPost_ret (v := .tuple #[tlvV (0, []), .bool false]) (results_tlv_two (p := 4) (u := 5) rfl _ _ G _ (0, []) rfl (hBox.rowT _)) rfl ⟨rfl, below_setRow hbW (Nat.le_refl _) _⟩
end Go.Proofs.Ytdhdlpoopehmlaa
