/- How an argument that is a row of identities is opened, for the frames of the laws. -/
import Derived.Test.YtdknecekebmkmaaOpen
import Derived.Test.YtdknecekebmkmaaIds
namespace Go.Proofs.Ytdknecekebmkmaa
open Go.ChangeShapes Go.WideShapes Go.ChangeAt Go.RowKit
set_option maxRecDepth 50000

section
variable {H : Type} {enc : TypeId × Value → H} {W : World} {base : Nat} {held : Bool} {ts : List TypeId} {ds : List (DataW H)} {j : Nat} {v : Value} {d : DataW H} {p : List MemPlace}

theorem open_ids (hok : Value.okWide Try.prog W .any base 45 v) (hsz : (DataW.weightsEach Try.prog ts ds).all (· ≤ reachBytes) = true) (ht : ts[j]? = some 45) (hd : ds[j]? = some d)
    (h : DataW.Trod enc Try.prog W 0 (fun _ => true) held 45 v d p) : ∃ zs : List Int, Ids W v zs ∧ (zs.length * 8 ≤ 140737488351232 ∧ ∀ z ∈ zs, 0 ≤ z ∧ z < 18446744073709551616) := by
  obtain ⟨a, len, cap, rfl⟩ := okWide_slice Try.underlying45 hok
  obtain ⟨fuel, hf⟩ := h
  rcases open_ints Try.underlying45 Try.underlying22 (by kernel_rfl) hf with ⟨hcs, _⟩ | ⟨x, l, c, zs, hcs, _, hl, hm, hz, hx, hcell, hwz⟩
  · simp [Value.cells] at hcs
    obtain ⟨rfl, rfl, rfl⟩ := hcs
    exact ⟨[], Ids.nil W, by simp⟩
  · simp [Value.cells] at hcs
    obtain ⟨rfl, rfl, rfl⟩ := hcs
    simp only [Prod.mk.injEq] at hx
    obtain ⟨rfl, _⟩ := hx
    have hz' : zs.length = cap := by simpa using hz
    have hs := sized_slice hsz ht hd Try.underlying45
    rw [show Try.prog.bytesOf 22 = 8 by kernel_rfl] at hs
    simp only [lits, List.length_map, List.length_take, List.length_drop, reachBytes] at hs
    refine ⟨zs.take len, ⟨some x, cap, by simp [hz', Nat.min_eq_left hl], by simp [hz', Nat.min_eq_left hl, hl], hm, ?_⟩, by simp; omega, fun z hz => by have := bounds_u64 (hwz z (List.mem_of_mem_take hz)); omega⟩
    by_cases h0 : zs.length = 0
    · left
      obtain rfl : zs = [] := List.eq_nil_of_length_eq_zero h0
      simp
    · obtain ⟨b, off, rfl, hc⟩ := ints_at hcell (by omega)
      refine .inr ⟨b, off, rfl, World.block_lt_of_cell? W _ (hc 0 (by omega)), fun i u hu => ?_⟩
      have hi := (List.getElem?_eq_some_iff.1 hu).1
      rw [iCellsOf_length, List.length_take] at hi
      rw [iCellsOf_get _ i (by rw [List.length_take]; exact hi)] at hu
      rw [hc i (by omega), ← hu]
      simp only [List.getElem_take, List.getD_eq_getElem?_getD, List.getElem?_eq_getElem (show i < zs.length by omega), Option.getD_some]
end
end Go.Proofs.Ytdknecekebmkmaa
