/- conf.settings: a row of names and places; the first of a name; what one is set to (gen_confset.py). -/
import Derived.Test.YtmcnohndgnaagaaConfOwn
import Derived.Test.YtmcnohndgnaagaaOnly
import Derived.Test.YtmcnohndgnaagaaRuns
namespace Go.Proofs.Ytmcnohndgnaagaa
open Go.RowKit Go.Proofs
set_option maxRecDepth 50000
set_option linter.unusedVariables false
set_option linter.unusedSimpArgs false

/-- One of the row: its name, where its number is, where its truth is. -/
def setE (g i : Nat) : List Value := [sv (names.getD i []), .pointer (if flagI i then none else some ⟨g, i + 1, none⟩), .pointer (if flagI i then some ⟨g, i + 1, none⟩ else none)]
def setsL (g : Nat) : List Value := (List.range 22).flatMap (setE g)
theorem setsL_at (g i : Nat) (hi : i < 22) : (setsL g)[i * 3]? = some (sv (names.getD i [])) ∧ (setsL g)[i * 3 + 1]? = some (.pointer (if flagI i then none else some ⟨g, i + 1, none⟩)) ∧ (setsL g)[i * 3 + 2]? = some (.pointer (if flagI i then some ⟨g, i + 1, none⟩ else none)) := by
  rcases i with _ | _ | _ | _ | _ | _ | _ | _ | _ | _ | _ | _ | _ | _ | _ | _ | _ | _ | _ | _ | _ | _ | i
  all_goals first | exact ⟨rfl, rfl, rfl⟩ | omega
theorem str_eq' (a b : List UInt8) : ((⟨a.toArray⟩ : ByteArray) == ⟨b.toArray⟩) = (a == b) := by
  show (a.toArray == b.toArray) = _
  simp
theorem names_len : names.length = 22 := rfl

theorem nameI_at {nm : List UInt8} {k : Nat} (hk : k < 22) (h : names.getD k [] = nm) (hno : ∀ j, j < k → names.getD j [] ≠ nm) : nameI nm = some k := by
  unfold nameI
  rw [List.findIdx?_eq_some_iff_getElem]
  refine ⟨hk, ?_, ?_⟩
  · have : names[k]'hk = names.getD k [] := by rw [List.getD_eq_getElem?_getD, List.getElem?_eq_getElem (show k < names.length from hk)]; rfl
    rw [this, h]
    simp
  · intro j hj
    have hj2 : j < names.length := Nat.lt_trans hj hk
    have : names[j]'hj2 = names.getD j [] := by rw [List.getD_eq_getElem?_getD, List.getElem?_eq_getElem hj2]; rfl
    intro e
    rw [this] at e
    exact hno j hj (beq_iff_eq.1 e)
theorem nameI_no {nm : List UInt8} (hno : ∀ j, j < 22 → names.getD j [] ≠ nm) : nameI nm = none := by
  unfold nameI
  rw [List.findIdx?_eq_none_iff]
  intro x hx
  obtain ⟨j, hj, rfl⟩ := List.getElem_of_mem hx
  have : names[j] = names.getD j [] := by rw [List.getD_eq_getElem?_getD, List.getElem?_eq_getElem hj]; rfl
  rw [this]
  exact beq_false_of_ne (hno j hj)
theorem nameI_lt {nm : List UInt8} {k : Nat} (h : nameI nm = some k) : k < 22 := by
  unfold nameI at h
  rw [List.findIdx?_eq_some_iff_getElem] at h
  exact h.1
def ixI (nm : List UInt8) : Int := match nameI nm with | some k => (k : Int) | none => -1

set_option maxRecDepth 100000 in
set_option maxHeartbeats 2000000 in
theorem same_name_any (nm s : List UInt8) (p q : Option Addr) (b : Nat) (w : World) (hb : w.cell? ⟨b, 0, none⟩ = some (sv nm)) (hlt : b < w.heap.size) :
    Calls Try.prog 48 #[.agg #[sv s, .pointer p, .pointer q], .pointer (some ⟨b, 0, none⟩)] w fun e w' => e = .returned (.bool (decide (s = nm))) ∧ Below w.heap.size w w' := by
  have hb2 : (w.alloc (Obj.cells #[sv s, .pointer p, .pointer q] 51)).cell? ⟨b, 0, none⟩ = some (sv nm) := by
    rw [(bnew w _).cell hlt]
    exact hb
  have c0 := boxC w #[sv s, .pointer p, .pointer q] 51 0 _ rfl
  have hw := bnew w (Obj.cells #[sv s, .pointer p, .pointer q] 51)
  have hE := str_eq' s nm
  by_cases h : s = nm
  · subst h
    go_enter Try.func48, Try.ntmps48
    go_wp2_with fail
    go_ret
    exact ⟨by simp, hw⟩
  · have h2 : (s == nm) = false := beq_false_of_ne h
    rw [h2] at hE
    go_enter Try.func48, Try.ntmps48
    go_wp2_with fail
    go_ret
    exact ⟨by rw [decide_eq_false h]; rfl, hw⟩

set_option maxRecDepth 100000 in
set_option maxHeartbeats 4000000 in
theorem indexFunc_any (nm : List UInt8) (a g b : Nat) (w : World) (ha : Box w a (setsL g) 51) (hbx : w.cell? ⟨b, 0, none⟩ = some (sv nm)) (hlt : b < w.heap.size) :
    Calls Try.prog 47 #[.slice (some ⟨a, 0, none⟩) 22 22, .func (.func 48) #[] #[.pointer (some ⟨b, 0, none⟩)]] w fun e w' => e = .returned (.int .i64 (ixI nm)) ∧ Below w.heap.size w w' := by
  have HX := hid (show ixI nm = match nameI nm with | some k => (k : Int) | none => -1 from rfl)
  have hb0 := Below.refl w.heap.size w
  go_enter Try.func47, Try.ntmps47
  go_wp2_with fail
  go_loopw [8] (fun i wr => ∃ k : Nat, k ≤ 22 ∧ i = .int .i64 (k : Int) ∧ Hid (∀ j, j < k → names.getD j [] ≠ nm) ∧ Below w.heap.size w wr) (fun i _ => 22 - (intOf i).toNat)
  case atStart => exact ⟨0, by decide, rfl, hid (fun j hj => absurd hj (Nat.not_lt_zero _)), hb0⟩
  case round =>
    obtain ⟨k, hk, rfl, hno, hb⟩ := hrel
    have hB := ha.below hb
    have hbc : wr.cell? ⟨b, 0, none⟩ = some (sv nm) := by rw [hb.cell (p := ⟨b, 0, none⟩) hlt]; exact hbx
    have hltr : b < wr.heap.size := Nat.lt_of_lt_of_le hlt hb.size
    by_cases hk2 : k < 22
    · obtain ⟨s0, s1, s2⟩ := setsL_at g k hk2
      have c0 := hB.cell _ _ s0
      have c1 := hB.cell _ _ s1
      have c2 := hB.cell _ _ s2
      clear s0 s1 s2
      generalize hs : names.getD k [] = S at *
      generalize (if flagI k = true then none else some ({ block := g, off := k + 1, spot := none } : Addr)) = p at *
      generalize (if flagI k = true then some ({ block := g, off := k + 1, spot := none } : Addr) else none) = q at *
      have hkI : (k : Int) < 22 := by omega
      go_wp2_with fail
      refine (same_name_any nm S p q b wr hbc hltr).mono ?_
      rintro e w2 ⟨rfl, b2⟩
      have hb2 := bnext hb b2
      by_cases hsn : S = nm
      · have HI := hid (nameI_at hk2 (hs.trans hsn) hno.out)
        rw [decide_eq_true hsn]
        clear hs hsn
        go_wp2_with fail
        go_ret
        exact ⟨by rw [HX.out, HI.out]; rfl, hb2⟩
      · have hno2 := hid (show ∀ j, j < k + 1 → names.getD j [] ≠ nm from fun j hj => by
          by_cases hjk : j = k
          · subst hjk
            rw [hs]
            exact hsn
          · exact hno.out j (by omega))
        rw [decide_eq_false hsn]
        clear hs hsn
        go_wp2_with fail
        go_roundw
        case rel => exact ⟨k + 1, hk2, by go_num, hno2, hb2⟩
        case measure => simp [intOf]; omega
    · obtain rfl : k = 22 := by omega
      have HI := hid (nameI_no hno.out)
      go_wp2_with fail
      go_ret
      exact ⟨by rw [HX.out, HI.out]; rfl, hb⟩

end Go.Proofs.Ytmcnohndgnaagaa
