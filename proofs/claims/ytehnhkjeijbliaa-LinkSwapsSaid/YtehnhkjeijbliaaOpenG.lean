/- How an argument that is a row of elements of any number of cells is opened, for the frames of the laws. -/
import Derived.Test.YtehnhkjeijbliaaOpen
import Derived.Test.YtehnhkjeijbliaaRowG
import Derived.Deep.Slices
import Derived.Deep.Strs
import Derived.Lib.SmallJoins
namespace Go.Proofs.Ytehnhkjeijbliaa
open Go.ChangeShapes Go.WideShapes Go.ChangeAt Go.RowKit
set_option maxRecDepth 50000
set_option linter.unusedVariables false

section
variable {H : Type} {enc : TypeId × Value → H} {W : World} {base : Nat} {held : Bool} {ts : List TypeId} {ds : List (DataW H)} {j : Nat} {v : Value} {d : DataW H} {p : List MemPlace}

theorem open_rows {α : Type} (K : RowK α) (P : α → Prop) [Inhabited α] {tS tE : TypeId} {B : Nat} (hu : Try.prog.underlying tS = some (.slice tE)) (hB : Try.prog.bytesOf tE = B) (hn : Try.prog.cellsOf tE = K.n)
    (hel : ∀ (fuel : Nat) (cs : List Value) (y : DataW H × List MemPlace), cs.length = K.n → DataW.trod enc Try.prog W 0 (fun _ => true) held fuel tE cs = some y → ∃ a, cs = K.enc a ∧ P a)
    (hok : Value.okWide Try.prog W .any base tS v) (hsz : (DataW.weightsEach Try.prog ts ds).all (· ≤ reachBytes) = true) (ht : ts[j]? = some tS) (hd : ds[j]? = some d)
    (h : DataW.Trod enc Try.prog W 0 (fun _ => true) held tS v d p) : ∃ l : List α, K.Reads W v l ∧ l.length * B ≤ 140737488351232 ∧ ∀ a ∈ l, P a := by
  obtain ⟨a, len, cap, rfl⟩ := okWide_slice hu hok
  obtain ⟨fuel, hf⟩ := h
  rcases Go.Deep.open_slice hu hf with ⟨hcs, _⟩ | ⟨x, l, c, m, n, D, Pl, hcs, _, hl, hm, hmm, hx, hel'⟩
  · simp [Value.cells] at hcs
    obtain ⟨rfl, rfl, rfl⟩ := hcs
    exact ⟨[], RowK.Reads.nil K W, by simp, by simp⟩
  · simp [Value.cells] at hcs
    obtain ⟨rfl, rfl, rfl⟩ := hcs
    simp only [Prod.mk.injEq] at hx
    obtain ⟨rfl, _⟩ := hx
    have hm' : m = cap := by simpa using hmm
    have hs := sized_slice hsz ht hd hu
    rw [hB] at hs
    simp only [List.length_map, List.length_range, reachBytes] at hs
    obtain ⟨f, hfq⟩ := Go.Deep.choose_lt (α := α) (n := len) (p := fun i a => W.cells? 0 (x.add (i * K.n)) K.n = some (K.enc a) ∧ P a) (fun i hi => by
      obtain ⟨cs', hc, ht'⟩ := hel' i (by omega)
      rw [hn] at hc
      obtain ⟨a, rfl, hp⟩ := hel _ _ _ (World.cells?_some hc).2.1 ht'
      exact ⟨a, hc, hp⟩)
    have hlen : ((List.range len).map f).length = len := by simp
    refine ⟨(List.range len).map f, ⟨some x, cap, by rw [hlen], by rw [hlen]; exact hl, hm, ?_⟩, by rw [hlen]; exact Nat.le_trans (Nat.mul_le_mul_right _ (Nat.le_add_right _ _)) hs, fun a ha => ?_⟩
    · by_cases h0 : len = 0
      · left
        rw [h0]
        rfl
      · obtain ⟨b, off, spot⟩ := x
        have hc0 := (World.cells?_some (hfq 0 (by omega)).1).2.2 0 K.pos
        have hlt0 : 0 < (K.enc (f 0)).length := by rw [K.len]; exact K.pos
        rw [List.getElem?_eq_getElem hlt0] at hc0
        have hspot : spot = none := by simpa [Addr.add] using World.cell?_spot hc0
        subst hspot
        simp only [Addr.add_plain] at hc0
        refine .inr ⟨b, off, rfl, World.block_lt_of_cell? W _ hc0, fun i u hu => ?_⟩
        have hil := (List.getElem?_eq_some_iff.1 hu).1
        rw [K.cells_length, hlen] at hil
        have hq : i / K.n < len := Nat.div_lt_of_lt_mul (by rw [Nat.mul_comm]; exact hil)
        have hr : i % K.n < K.n := Nat.mod_lt _ K.pos
        have hi : i / K.n * K.n + i % K.n = i := by rw [Nat.mul_comm]; exact Nat.div_add_mod i K.n
        have hc := (World.cells?_some (hfq (i / K.n) hq).1).2.2 (i % K.n) hr
        simp only [Addr.add_plain] at hc
        rw [← hi, K.cells_get _ _ _ (by rw [hlen]; exact hq) hr] at hu
        simp only [List.getElem_map, List.getElem_range] at hu
        rw [hu, Nat.add_assoc, hi] at hc
        exact hc
    · obtain ⟨i, hi, rfl⟩ := List.mem_map.1 ha
      exact (hfq i (List.mem_range.1 hi)).2
end
end Go.Proofs.Ytehnhkjeijbliaa
