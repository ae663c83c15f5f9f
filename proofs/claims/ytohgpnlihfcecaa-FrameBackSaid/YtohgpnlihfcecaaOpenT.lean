/- How an argument that is a row of TLVs is opened, for the frames of the laws. -/
import Derived.Test.YtohgpnlihfcecaaOpen
import Derived.Test.YtohgpnlihfcecaaB6
import Derived.Deep.Slices
import Derived.Deep.Strs
import Derived.Lib.SmallJoins
namespace Go.Proofs.Ytohgpnlihfcecaa
open Go.ChangeShapes Go.WideShapes Go.ChangeAt Go.RowKit
set_option maxRecDepth 50000

section
variable {H : Type} {enc : TypeId × Value → H} {W : World} {base : Nat} {held : Bool} {ts : List TypeId} {ds : List (DataW H)} {j : Nat} {v : Value} {d : DataW H} {p : List MemPlace}

theorem open_tlv {fuel : Nat} {x : Addr} {cs : List Value} {y : DataW H × List MemPlace} {i : Nat} (hc : W.cells? 0 (x.add (i * 2)) 2 = some cs) (h : DataW.trod enc Try.prog W 0 (fun _ => true) held fuel 47 cs = some y) :
    ∃ q : T2, W.cell? (x.add (i * 2)) = some (.int .i64 q.1) ∧ W.cell? (x.add (i * 2 + 1)) = some (sv q.2) := by
  obtain ⟨_, hlen, hat⟩ := World.cells?_some hc
  obtain ⟨y0, y1, n, _, _, h0, h1⟩ := trod_struct2 Try.underlying47 h
  match cs, hlen with
  | [c0, c1], _ =>
    have a0 := hat 0 (by decide)
    have a1 := hat 1 (by decide)
    rw [Go.Deep.add_add] at a0 a1
    have k : Try.prog.cellsOf 3 = 1 := by kernel_rfl
    have kS : Try.prog.cellsOf 9 = 1 := by kernel_rfl
    simp only [k, kS, List.drop_zero, List.take_succ_cons, List.take_zero, List.drop_succ_cons] at h0 h1
    obtain ⟨z0, e0, _⟩ := DataW.trod_int Try.underlying3 h0
    obtain ⟨z1, e1, _⟩ := DataW.trod_string Try.underlying9 h1
    simp only [List.cons.injEq, and_true] at e0 e1
    subst e0 e1
    exact ⟨(z0, z1.data.toList), by simpa using a0, by simpa using a1⟩

theorem open_tlvs (hok : Value.okWide Try.prog W .any base 29 v) (hsz : (DataW.weightsEach Try.prog ts ds).all (· ≤ reachBytes) = true) (ht : ts[j]? = some 29) (hd : ds[j]? = some d)
    (h : DataW.Trod enc Try.prog W 0 (fun _ => true) held 29 v d p) : ∃ qs : List T2, Tlvs W v qs ∧ qs.length * 24 ≤ 140737488351232 := by
  obtain ⟨a, len, cap, rfl⟩ := okWide_slice Try.underlying29 hok
  obtain ⟨fuel, hf⟩ := h
  rcases Go.Deep.open_slice Try.underlying29 hf with ⟨hcs, _⟩ | ⟨x, l, c, m, n, D, Pl, hcs, _, hl, hm, hmm, hx, hel⟩
  · simp [Value.cells] at hcs
    obtain ⟨rfl, rfl, rfl⟩ := hcs
    exact ⟨[], Tlvs.nil W, by simp⟩
  · simp [Value.cells] at hcs
    obtain ⟨rfl, rfl, rfl⟩ := hcs
    simp only [Prod.mk.injEq] at hx
    obtain ⟨rfl, _⟩ := hx
    have hm' : m = cap := by simpa using hmm
    have hs := sized_slice hsz ht hd Try.underlying29
    rw [show Try.prog.bytesOf 47 = 24 by kernel_rfl] at hs
    simp only [List.length_map, List.length_range, reachBytes] at hs
    have k3 : Try.prog.cellsOf 47 = 2 := by kernel_rfl
    obtain ⟨f, hfq⟩ := Go.Deep.choose_lt (α := T2) (n := len) (p := fun i q => W.cell? (x.add (i * 2)) = some (.int .i64 q.1) ∧ W.cell? (x.add (i * 2 + 1)) = some (sv q.2)) (fun i hi => by
      obtain ⟨cs', hc, ht'⟩ := hel i (by omega)
      rw [k3] at hc
      exact open_tlv hc ht')
    have hlen : ((List.range len).map f).length = len := by simp
    refine ⟨(List.range len).map f, ⟨some x, cap, by rw [hlen], by rw [hlen]; exact hl, hm, ?_⟩, by rw [hlen]; omega⟩
    by_cases h0 : len = 0
    · left
      rw [h0]
      rfl
    · obtain ⟨b, off, spot⟩ := x
      have hspot : spot = none := by simpa [Addr.add] using World.cell?_spot (hfq 0 (by omega)).1
      subst hspot
      refine .inr ⟨b, off, rfl, World.block_lt_of_cell? W _ (by simpa [Addr.add_plain] using (hfq 0 (by omega)).1), fun i u hu => ?_⟩
      have hil := (List.getElem?_eq_some_iff.1 hu).1
      rw [tCellsOf_length, hlen] at hil
      obtain ⟨q, r, rfl, hr⟩ : ∃ q r, i = q * 2 + r ∧ r < 2 := ⟨i / 2, i % 2, by omega, by omega⟩
      have hq : q < len := by omega
      obtain ⟨e0, e1⟩ := tCellsOf_get ((List.range len).map f) q (by rw [hlen]; exact hq)
      obtain ⟨g0, g1⟩ := hfq q hq
      simp only [Addr.add_plain] at g0 g1
      simp only [List.getElem_map, List.getElem_range] at e0 e1
      match r, hr with
      | 0, _ => rw [Nat.add_zero] at hu ⊢; rw [e0] at hu; rw [g0, hu]
      | 1, _ => rw [e1] at hu; rw [g1, hu]
end
end Go.Proofs.Ytohgpnlihfcecaa
