/- 'b[E:]' of bytes, wherever it may point, and 'b[:E:E]'. -/
import Derived.Test.YtdhdlpoopehmlaaLib
namespace Go.Proofs.Ytdhdlpoopehmlaa
open Go.RowKit Go.Proofs
set_option linter.unusedVariables false
set_option linter.unusedSimpArgs false

theorem size_u8 (w : World) : (sizeOf 5).run Try.prog w = .ok 1 w := by
  obtain ⟨i0, hi, hz0, hz1, hz2⟩ := info_parts info_u8
  simp [sizeOf, typeInfo, hi, hz1]

theorem slice_from {w : World} {v : Value} {L : List UInt8} (hB : Bytes w v L) (E : Nat) (hE : E ≤ L.length) :
    ∃ v', (∀ w', (Instr.sliceAt 22 v (some (.int .i64 (E : Int))) none none).run Try.prog w' = .ok v' w') ∧ Bytes w v' (L.drop E) := by
  obtain ⟨p, cap, rfl, hc, hm, hat⟩ := hB
  have hu := Try.underlying22
  refine ⟨sliced p E L.length cap 1, fun w' => ?_, ?_⟩
  · rw [run_sliceAt_slice w' 22 _ _ _ _ hu, run_slice_l w' 22 p L.length cap hu .i64 (E : Int) (by omega) (by omega)]
    show ((sizeOf 5).run Try.prog w').andThen _ = _
    rw [size_u8]
    rfl
  · have hl : (L.drop E).length = L.length - E := List.length_drop
    refine ⟨_, cap - E, by rw [hl]; rfl, by omega, by omega, ?_⟩
    by_cases he : E = L.length
    · exact .inl (List.drop_eq_nil_of_le (by omega))
    · obtain ⟨b, off, rfl, hlt, hcell⟩ := hat.pos (by omega)
      rw [if_neg (by omega)]
      refine .inr ⟨b, off + E, by show some (Addr.add _ _) = _; rw [Nat.mul_one, Addr.add_plain], hlt, fun i hi => ?_⟩
      rw [List.getElem_drop, Nat.add_assoc]
      exact hcell (E + i) (by omega)

theorem wpList_slice_from {w : World} {ops : Array Oper} {rest : List Oper} {o : Oper} {a : Act} {Q : Exit → Act → World → Prop} (hgd : o.guard = none) (x lo : Operand)
    (ho : o.op = .slice 22 x (some lo) none none) (w0 : World) (v : Value) (L : List UInt8) (E : Nat) (hx : a.eval x = v) (hlo : a.eval lo = .int .i64 (E : Int)) (hB : Bytes w0 v L) (hE : E ≤ L.length)
    (h : ∀ v', Bytes w0 v' (L.drop E) → wpList Try.prog ops Q rest (a.put o.dst v') w) : wpList Try.prog ops Q (o :: rest) a w :=
  wpList_plain hgd fun K hK => by
    obtain ⟨v', hr, h1⟩ := slice_from hB E hE
    unfold Oper.wp execOp
    simp only [ho, Sem.run_bind, Sem.run_pure, hx, hlo, Option.map_some, Option.map_none, hr w, Result.andThen_ok]
    exact hK _ _ (h v' h1)

/-- 'b[:E]'. -/
theorem slice_upto {w : World} {v : Value} {L : List UInt8} (hB : Bytes w v L) (E : Nat) (hE : E ≤ L.length) :
    ∃ v', (∀ w', (Instr.sliceAt 22 v none (some (.int .i64 (E : Int))) none).run Try.prog w' = .ok v' w') ∧ Bytes w v' (L.take E) := by
  obtain ⟨p, cap, rfl, hc, hm, hat⟩ := hB
  have hu := Try.underlying22
  refine ⟨sliced p 0 E cap 1, fun w' => ?_, ?_⟩
  · rw [run_sliceAt_slice w' 22 _ _ _ _ hu, run_slice_h w' 22 p L.length cap hu .i64 (E : Int) (by omega) (by omega)]
    show ((sizeOf 5).run Try.prog w').andThen _ = _
    rw [size_u8]
    rfl
  · have hl : (L.take E).length = E := by rw [List.length_take]; omega
    refine ⟨_, cap, by rw [hl]; rfl, by omega, hm, ?_⟩
    by_cases he : E = 0
    · exact .inl (by rw [he, List.take_zero])
    · obtain ⟨b, off, rfl, hlt, hcell⟩ := hat.pos (by omega)
      rw [if_neg (by omega)]
      refine .inr ⟨b, off, by show some (Addr.add _ _) = _; rw [Nat.zero_mul, Addr.add_plain, Nat.add_zero], hlt, fun i hi => ?_⟩
      rw [List.getElem_take]
      exact hcell i (by omega)

theorem wpList_slice_upto {w : World} {ops : Array Oper} {rest : List Oper} {o : Oper} {a : Act} {Q : Exit → Act → World → Prop} (hgd : o.guard = none) (x hi : Operand)
    (ho : o.op = .slice 22 x none (some hi) none) (w0 : World) (v : Value) (L : List UInt8) (E : Nat) (hx : a.eval x = v) (hhi : a.eval hi = .int .i64 (E : Int)) (hB : Bytes w0 v L) (hE : E ≤ L.length)
    (h : ∀ v', Bytes w0 v' (L.take E) → wpList Try.prog ops Q rest (a.put o.dst v') w) : wpList Try.prog ops Q (o :: rest) a w :=
  wpList_plain hgd fun K hK => by
    obtain ⟨v', hr, h1⟩ := slice_upto hB E hE
    unfold Oper.wp execOp
    simp only [ho, Sem.run_bind, Sem.run_pure, hx, hhi, Option.map_some, Option.map_none, hr w, Result.andThen_ok]
    exact hK _ _ (h v' h1)
end Go.Proofs.Ytdhdlpoopehmlaa
