/- A long region that draws its order: operations that turn nothing, taken as the text has them, checked at once. -/
import Derived.Test.YtmcnohndgnaagaaChain
namespace Go.Proofs.Ytmcnohndgnaagaa
open Go.RowKit Go.Proofs
set_option maxRecDepth 50000
set_option linter.unusedVariables false
set_option linter.unusedSimpArgs false

/-- Operations one behind the other, each yields a value in whatever world, and turns nothing. -/
def runsL (P : Program) (ops : Array Oper) : List Oper → Act → Act → Prop
  | [], a, a' => a = a'
  | o :: rest, a, a' => ∃ v, Region.wanted o (yielded ops a.tmps) = true ∧ (∀ w, (execOp a.eval o).run P w = .ok (.value v) w) ∧ runsL P ops rest (a.put o.dst v) a'

theorem runs_cons {P : Program} {ops : Array Oper} {o : Oper} {rest : List Oper} {a a' : Act} (v : Value) (hw : Region.wanted o (yielded ops a.tmps) = true) (h : ∀ w, (execOp a.eval o).run P w = .ok (.value v) w)
    (hr : runsL P ops rest (a.put o.dst v) a') : runsL P ops (o :: rest) a a' := ⟨v, hw, h, hr⟩
theorem runs_nil {P : Program} {ops : Array Oper} {a a' : Act} (h : a = a') : runsL P ops [] a a' := h

/-- The first n may be taken in the text's order. -/
def freeU (md : Region.Mode) (ops : Array Oper) (N n : Nat) : Bool := (List.range n).all fun k => Region.free md ops (upto k (N - k)) k && (Region.ready md ops (upto k (N - k))).contains k

theorem wpAnyH_runs {P : Program} {ops : Array Oper} {Q : Exit → Act → World → Prop} {md : Region.Mode} (N n : Nat) (hs : Region.noSelect ops = true) (hf : freeU md ops N n = true)
    (hQ : ∀ d v c a w, Q (.panic c) (Act.put a d v) w → Q (.panic c) a w) :
    ∀ (pre : List Oper) (i : Nat) (a a' : Act) (w : World), i + pre.length = n → n ≤ N → (∃ tl, ops.toList.drop i = pre ++ tl) → runsL P ops pre a a' →
      wpAnyH P md ops Q (fun _ => True) (N - n) (upto n (N - n)) a' w → wpAnyH P md ops Q (fun _ => True) (N - i) (upto i (N - i)) a w
  | [], i, a, a', w, hi, _, _, hr, h => by
    obtain rfl : i = n := by simpa using hi
    obtain rfl : a = a' := hr
    exact h
  | o :: rest, i, a, a', w, hi, hN, ⟨tl, htl⟩, ⟨v, hw, hv, hr⟩, h => by
    have hlt : i < n := by rw [← hi, List.length_cons]; omega
    have hoi : ops[i]? = some o := by
      rw [← Array.getElem?_toList, ← List.head?_drop, htl]
      rfl
    have hfi := List.all_eq_true.1 hf i (List.mem_range.2 hlt)
    rw [Bool.and_eq_true] at hfi
    have htl2 : ops.toList.drop (i + 1) = rest ++ tl := by
      rw [← List.drop_drop, htl]
      rfl
    have ih := wpAnyH_runs (P := P) (Q := Q) N n hs hf hQ rest (i + 1) (a.put o.dst v) a' w (by rw [← hi, List.length_cons]; omega) hN ⟨tl, htl2⟩ hr h
    obtain ⟨m, hm⟩ : ∃ m, N - i = m + 1 := ⟨N - i - 1, by omega⟩
    have hm2 : N - (i + 1) = m := by omega
    rw [hm] at hfi ⊢
    rw [hm2] at ih
    rw [← upto_set] at ih
    exact wpAnyH_take hoi hs hfi.1 hfi.2 (hQ o.dst v) (.inl ⟨hw, fun w _ => hv w⟩) trivial ih

theorem wp_region_runs {P : Program} {ops : Array Oper} {Q : Exit → Act → World → Prop} {id : Nat} {a : Act} {w : World} (n : Nat) (hm : P.follows .mixedOrders = true) (hs : Region.noSelect ops = true) (hn : n ≤ ops.size) (hf : freeU .any ops ops.size n = true)
    (hQ : ∀ d v c a w, Q (.panic c) (Act.put a d v) w → Q (.panic c) a w) (a' : Act) (hr : runsL P ops (ops.toList.take n) a a')
    (h : wpAnyH P .any ops Q (fun _ => True) (ops.size - n) (upto n (ops.size - n)) a' w.drew) : (Code.region id ops true).wp P Q a w := by
  refine wp_region_held (S := fun _ => True) hm ?_
  have hlen : (ops.toList.take n).length = n := by rw [List.length_take, Array.length_toList]; omega
  have := wpAnyH_runs (P := P) (Q := Q) ops.size n hs hf hQ (ops.toList.take n) 0 a a' w.drew (by rw [hlen]; omega) hn ⟨ops.toList.drop n, by rw [List.drop_zero, List.take_append_drop]⟩ hr h
  rw [Nat.sub_zero] at this
  have e : upto 0 ops.size = Array.replicate ops.size false := by
    unfold upto
    simp
  rw [e] at this
  exact this

/-- What an operation that turns nothing leaves, by evaluation. -/
def stepV (P : Program) (ρ : Operand → Value) (o : Oper) : Option Value :=
  match o.op with
  | .move x => some (ρ x)
  | .nilCheck x => match ρ x with | .pointer (some p) => some (.pointer (some p)) | _ => none
  | .fieldAddr s x f => match P.underlying s, ρ x with
    | some (.struct fields), .pointer (some p) => match fields[f]? with
      | some fd => match P.info? fd.type with
        | some it => if it.size = 0 then none else some (.pointer (some (p.add fd.offset)))
        | none => none
      | none => none
    | _, _ => none
  | .build t parts => match P.built t (parts.map fun (i, x) => (i, ρ x)).toList with | some cs => some (.agg cs) | none => none
  | _ => none

theorem stepV_run {P : Program} {ρ : Operand → Value} {o : Oper} {v : Value} (h : stepV P ρ o = some v) (w : World) : (execOp ρ o).run P w = .ok (.value v) w := by
  unfold stepV at h
  unfold execOp
  cases ho : o.op <;> simp only [ho] at h ⊢ <;> try (cases h; done)
  case move x => cases h; rfl
  case nilCheck x =>
    split at h
    · rename_i p hp
      cases h
      rw [hp]
      rfl
    · cases h
  case fieldAddr s x f =>
    split at h
    · rename_i fields p hu hp
      split at h
      · rename_i fd hf
        split at h
        · rename_i it hi
          split at h
          · cases h
          · rename_i hz
            cases h
            have ht : (typeInfo fd.type).run P w = .ok it w := by simp [typeInfo, program, Sem.run_bind, Sem.run, hi, Result.andThen]
            simp [Instr.fieldAt, Instr.sureAddr, fieldPlace, underlying, sizeOf, Sem.run_bind, hu, hp, hf, ht, hz]
        · cases h
      · cases h
    · cases h
  case build t parts =>
    split at h
    · rename_i cs hb
      cases h
      simp only [Sem.run_bind, run_build w t _ cs hb, Result.andThen_ok, Sem.run_pure]
    · cases h

def runV (P : Program) : List Oper → Act → Option Act
  | [], a => some a
  | o :: rest, a => match o.guard with
    | none => match stepV P a.eval o with
      | some v => runV P rest (a.put o.dst v)
      | none => none
    | some _ => none

theorem runV_runs {P : Program} {ops : Array Oper} : ∀ (l : List Oper) {a a' : Act}, runV P l a = some a' → runsL P ops l a a'
  | [], a, a', h => by cases h; exact rfl
  | o :: rest, a, a', h => by
    unfold runV at h
    split at h
    · rename_i hg
      split at h
      · rename_i v hv
        exact ⟨v, by unfold Region.wanted; rw [hg], fun w => stepV_run hv w, runV_runs rest h⟩
      · cases h
    · cases h
end Go.Proofs.Ytmcnohndgnaagaa
