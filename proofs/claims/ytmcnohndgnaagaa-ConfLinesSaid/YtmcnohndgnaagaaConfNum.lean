/- conf.number: the number that a text is, by its runes. -/
import Derived.Test.YtmcnohndgnaagaaConfStr
namespace Go.Proofs.Ytmcnohndgnaagaa
open Go.RowKit Go.Proofs
set_option maxRecDepth 50000
set_option linter.unusedVariables false
set_option linter.unusedSimpArgs false

theorem numF_sgn (s : List UInt8) : numF s = if sgnB s = true then (digF (sgnD s)).map (fun v => -(v : Int)) else (digF (sgnD s)).map (fun v => (v : Int)) := by
  unfold numF sgnB sgnD
  by_cases h : s.head? = some 45
  · simp [h]
  · simp [h]
theorem sgn_le (s : List UInt8) : (sgnD s).length ≤ s.length := by
  unfold sgnD
  split
  · simp
  · exact Nat.le_refl _
theorem digF_none {d : List UInt8} (h : ¬ (1 ≤ d.length ∧ d.length ≤ 10 ∧ d.all digB = true)) : digF d = none := if_neg h
theorem digF_some {d : List UInt8} (h : 1 ≤ d.length ∧ d.length ≤ 10 ∧ d.all digB = true) : digF d = some (valF 0 d) := if_pos h
theorem numF_none {s : List UInt8} (h : digF (sgnD s) = none) : numF s = none := by
  rw [numF_sgn, h]
  split <;> rfl
theorem val_small (d : List UInt8) (k : Nat) (hd : d.length ≤ 10) (h : (d.take k).all digB = true) : valF 0 (d.take k) < 10000000000 := by
  have h1 := valF_lt (d.take k) h 0 _ rfl
  have h2 : (d.take k).length ≤ 10 := by rw [List.length_take]; omega
  have h3 : 10 ^ (d.take k).length ≤ 10 ^ 10 := Nat.pow_le_pow_right (by decide) h2
  have h4 : (10 : Nat) ^ 10 = 10000000000 := by decide
  omega

theorem IterAt.pos {w : World} {g : Nat} {s : List UInt8} {pos : Nat} (h : IterAt w g s pos) : w.iterPos g = pos := by
  have h' : w.heap[g]? = some (.stringIter ⟨s.toArray⟩ pos) := h
  simp [World.iterPos, h']

set_option maxRecDepth 100000 in
set_option maxHeartbeats 4000000 in
theorem number_any (s : List UInt8) (w : World) (hl : s.length ≤ 5000) :
    Calls Try.prog 46 #[sv s] w fun e w' => e = .returned (.tuple #[.int .i64 ((numF s).getD 0), .bool (numF s).isSome]) ∧ Below w.heap.size w w' := by
  have HN := hid (numF_sgn s)
  have HNone := hid fun h => numF_none (s := s) h
  have hdl := sgn_le s
  have HC := hid fun wx => cutPrefix_any s wx hl
  generalize sgnD s = d at *
  generalize sgnB s = b at *
  by_cases h0 : d = []
  · have hN := hid (HNone.out (digF_none (by rw [h0]; simp)))
    subst h0
    go_enter Try.func46, Try.ntmps46
    go_wp2_with fail
    refine (HC.out _).mono ?_
    rintro e w' ⟨rfl, rfl⟩
    go_wp2_with fail
    go_ret2
    exact ⟨by rw [hN.out]; rfl, Below.refl _ _⟩
  have e1 : ((⟨d.toArray⟩ : ByteArray) == ⟨#[]⟩) = false := str_ne (b := []) h0
  have e2 : (d == []) = false := beq_false_of_ne h0
  have hl1 : 1 ≤ d.length := by
    cases d with
    | nil => exact absurd rfl h0
    | cons x t => simp
  by_cases h1 : d.length ≤ 10
  · have h1I : (d.length : Int) ≤ 10 := by omega
    go_enter Try.func46, Try.ntmps46
    go_wp2_with fail
    refine (HC.out _).mono ?_
    rintro e w' ⟨rfl, rfl⟩
    clear HC
    go_wp2_with fail
    have hI := IterAt.new w d
    have bi := iter_below w ⟨d.toArray⟩ 0
    generalize hW : w.iter ⟨d.toArray⟩ 0 = W at *
    generalize hgI : w.heap.size = gI at *
    clear hW
    go_loopw [6] (fun n wr => ∃ (v pos : Nat), n = .int .i64 (v : Int) ∧ pos ≤ d.length ∧ Hid (v = valF 0 (d.take pos)) ∧ Hid ((d.take pos).all digB = true) ∧ IterAt wr gI d pos ∧ Below gI w wr) (fun _ wr => d.length - wr.iterPos gI)
    case atStart => exact ⟨0, 0, rfl, Nat.zero_le _, hid rfl, hid rfl, hI, bi⟩
    case round =>
      obtain ⟨v, pos, rfl, hpl, hV, hA, hI, hb⟩ := hrel
      have hip := hI.pos
      by_cases hlt : pos < d.length
      · obtain ⟨r, k, hd, hk1, hkl, hr, hcase⟩ := rune_step hlt
        have hnx := fun ty => next_at hI ty hlt
        rw [hd] at hnx
        simp only [] at hnx
        have hI2 := hI.set (pos + k)
        have hb2 := below_iset hb (Nat.le_refl _) d (pos + k)
        have hip2 := hI2.pos
        have hv : v < 10000000000 := by rw [hV.out]; exact val_small d pos h1 hA.out
        generalize iset wr gI d (pos + k) = W3 at *
        by_cases hdig : digB d[pos] = true
        · have hd2 : 48 ≤ d[pos].toNat ∧ d[pos].toNat ≤ 57 := of_decide_eq_true hdig
          obtain ⟨rfl, hr2⟩ : k = 1 ∧ d[pos].toNat = r := by
            rcases hcase with ⟨h1, h2, h3⟩ | ⟨h1, h2⟩
            · exact ⟨h2, h3⟩
            · have := h2 pos hlt (Nat.le_refl _) (by omega)
              omega
          have hA2 := hid (digs_take hlt hA.out hdig)
          have hV2 := hid (show v * 10 + (r - 48) = valF 0 (d.take (pos + 1)) by rw [valF_take hlt, ← hV.out, hr2])
          rw [hr2] at hd2
          have hr48 : (48 : Int) ≤ (r : Int) := by omega
          have hr57 : (r : Int) ≤ 57 := by omega
          obtain ⟨V, hVv⟩ : ∃ V : Int, V = (v : Int) := ⟨_, rfl⟩
          obtain ⟨R, hRr⟩ : ∃ R : Int, R = (r : Int) := ⟨_, rfl⟩
          have hV0 : 0 ≤ V := by omega
          have hV1 : V < 10000000000 := by omega
          rw [← hRr] at hr48 hr57 hnx
          rw [← hVv]
          have HR := hid (show 10 * V + (R - 48) = ((v * 10 + (r - 48) : Nat) : Int) by omega)
          replace hVv := hid hVv
          replace hRr := hid hRr
          clear hcase hd hd2 hdig hV hA hv hr
          go_wp2_with fail
          go_roundw
          case rel => exact ⟨v * 10 + (r - 48), pos + 1, by rw [← HR.out], hlt, hV2, hA2, hI2, hb2⟩
          case measure =>
            rw [hip, hip2]
            omega
        · have hdig' : digB d[pos] = false := by simpa using hdig
          have hN := hid (HNone.out (digF_none (fun h => by rw [digs_not hlt hdig'] at h; simp at h)))
          have hr2 : r < 48 ∨ 57 < r := by
            have hnd : ¬ (48 ≤ d[pos].toNat ∧ d[pos].toNat ≤ 57) := fun h => hdig (decide_eq_true h)
            rcases hcase with ⟨h1, h2, h3⟩ | ⟨h1, h2⟩
            · omega
            · omega
          clear hcase hd hdig hdig' hV hA
          rcases hr2 with hr2 | hr2
          · have hr48 : (r : Int) < 48 := by omega
            go_wp2_with fail
            go_ret2
            exact ⟨by rw [hN.out]; rfl, by first | exact hb2 | (rw [hgI]; exact hb2)⟩
          · have hr48 : ¬ (r : Int) < 48 := by omega
            have hr57 : (57 : Int) < (r : Int) := by omega
            go_wp2_with fail
            go_ret2
            exact ⟨by rw [hN.out]; rfl, by first | exact hb2 | (rw [hgI]; exact hb2)⟩
      · have hnx := fun ty => next_over hI ty hlt
        have hpe : pos = d.length := by omega
        have hT : d.take pos = d := List.take_of_length_le (by omega)
        have hD := hid (digF_some ⟨hl1, h1, by rw [← hT]; exact hA.out⟩)
        have hv : v < 10000000000 := by rw [hV.out]; exact val_small d pos h1 hA.out
        have hX := hid (show valF 0 d = v by rw [hV.out, hT])
        have hvI : (v : Int) < 10000000000 := by omega
        clear hT hpe hV hA
        cases b
        · have hN : numF s = some (v : Int) := by rw [HN.out, hD.out, hX.out]; rfl
          have hNh := hid hN
          clear hN
          go_wp2_with fail
          go_ret2
          exact ⟨by rw [hNh.out]; rfl, by first | exact hb | (rw [hgI]; exact hb)⟩
        · have hN : numF s = some (-(v : Int)) := by rw [HN.out, hD.out, hX.out]; rfl
          have hNh := hid hN
          clear hN
          have hw : IntKind.i64.wrap (-(v : Int)) = -(v : Int) := by rw [IntKind.wrap_i64]; omega
          go_wp2_with fail
          go_ret2
          exact ⟨by rw [hNh.out]; rfl, by first | exact hb | (rw [hgI]; exact hb)⟩
  · have hN := hid (HNone.out (digF_none (fun h => h1 h.2.1)))
    have h1I : ¬ (d.length : Int) ≤ 10 := by omega
    have h1J : (10 : Int) < (d.length : Int) := by omega
    go_enter Try.func46, Try.ntmps46
    go_wp2_with fail
    refine (HC.out _).mono ?_
    rintro e w' ⟨rfl, rfl⟩
    go_wp2_with fail
    go_ret2
    exact ⟨by rw [hN.out]; rfl, Below.refl _ _⟩
end Go.Proofs.Ytmcnohndgnaagaa
