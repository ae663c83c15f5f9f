/- A scope in which the run jumps at most once (wp_scope_hop; stands in XBodyGet2 too). -/
import Derived.Test.YtehnhkjeijbliaaBase
namespace Go.Proofs.Ytehnhkjeijbliaa
open Go.RowKit Go.Proofs
set_option maxRecDepth 50000
set_option linter.unusedVariables false

/-- A scope in which the run jumps at most once. -/
theorem wp_scope_hop {P : Program} {c : Code} {a : Act} {w : World} {Q : Exit → Act → World → Prop}
    (h : ∀ Q' : Exit → Act → World → Prop, (∀ a w, Q .ret a w → Q' .ret a w) → (∀ l rest a w, findLabel c l = some rest → rest.wp P (Exit.noGoto Q) a w → Q' (.goto l) a w) → c.wp P Q' a w) : (Code.scope c).wp P Q a w := by
  intro b k cs
  have h1 := h (fun e a w => match e with | .goto l => ∃ rest, findLabel c l = some rest ∧ rest.wp P (Exit.noGoto Q) a w | e => Q e a w) (fun _ _ h => h) (fun l rest a w hf hr => ⟨rest, hf, hr⟩)
  obtain ⟨e, a₁, w₁, hq, harr⟩ := h1 b (.inScope c :: k) cs
  cases e with
  | normal => exact ⟨.normal, a₁, w₁, hq, .head step_scope (Steps.trans harr (.one step_inScope))⟩
  | exit id => exact ⟨.exit id, a₁, w₁, hq, fun k' hk => .head step_scope (harr k' (by simp [exitTo, hk]))⟩
  | goto l =>
    obtain ⟨rest, hf, hr⟩ := hq
    have hg : gotoIn l (.inScope c :: k) = some (.code rest :: .inScope c :: k) := by simp [gotoIn, hf]
    obtain ⟨e₂, a₂, w₂, hq₂, harr₂⟩ := hr b (.inScope c :: k) cs
    have key : ∃ e a' w', Q e a' w' ∧ Arrives P (lone (b.at a₁ (.code rest :: .inScope c :: k)) cs w₁) b k cs e a' w' := by
      cases e₂ with
      | normal => exact ⟨.normal, a₂, w₂, hq₂, Steps.trans harr₂ (.one step_inScope)⟩
      | exit id => exact ⟨.exit id, a₂, w₂, hq₂, fun k' hk => harr₂ k' (by simp [exitTo, hk])⟩
      | goto l => exact hq₂.elim
      | ret => exact ⟨_, a₂, w₂, hq₂, harr₂⟩
      | panic ch => exact ⟨_, a₂, w₂, hq₂, harr₂⟩
      | outgrown => exact ⟨_, a₂, w₂, hq₂, harr₂⟩
    obtain ⟨e₃, a₃, w₃, hq₃, harr₃⟩ := key
    exact ⟨e₃, a₃, w₃, hq₃, .of_steps (.head step_scope (harr _ hg)) harr₃⟩
  | ret => exact ⟨_, a₁, w₁, hq, .of_steps (.one step_scope) harr⟩
  | panic ch => exact ⟨_, a₁, w₁, hq, .of_steps (.one step_scope) harr⟩
  | outgrown => exact ⟨_, a₁, w₁, hq, .of_steps (.one step_scope) harr⟩

/-- .. and the post at a panic is what it was ahead of it (regions that draw want to know). -/
theorem wp_scope_hop2 {P : Program} {c : Code} {a : Act} {w : World} {Q : Exit → Act → World → Prop}
    (hpan : ∀ ch a d v w, Q (.panic ch) (Act.put a d v) w → Q (.panic ch) a w)
    (h : ∀ Q' : Exit → Act → World → Prop, (∀ a w, Q .ret a w → Q' .ret a w) → (∀ l rest a w, findLabel c l = some rest → rest.wp P (Exit.noGoto Q) a w → Q' (.goto l) a w) → (∀ ch a d v w, Q' (.panic ch) (Act.put a d v) w → Q' (.panic ch) a w) → c.wp P Q' a w) : (Code.scope c).wp P Q a w := by
  intro b k cs
  have h1 := h (fun e a w => match e with | .goto l => ∃ rest, findLabel c l = some rest ∧ rest.wp P (Exit.noGoto Q) a w | e => Q e a w) (fun _ _ h => h) (fun l rest a w hf hr => ⟨rest, hf, hr⟩) hpan
  obtain ⟨e, a₁, w₁, hq, harr⟩ := h1 b (.inScope c :: k) cs
  cases e with
  | normal => exact ⟨.normal, a₁, w₁, hq, .head step_scope (Steps.trans harr (.one step_inScope))⟩
  | exit id => exact ⟨.exit id, a₁, w₁, hq, fun k' hk => .head step_scope (harr k' (by simp [exitTo, hk]))⟩
  | goto l =>
    obtain ⟨rest, hf, hr⟩ := hq
    have hg : gotoIn l (.inScope c :: k) = some (.code rest :: .inScope c :: k) := by simp [gotoIn, hf]
    obtain ⟨e₂, a₂, w₂, hq₂, harr₂⟩ := hr b (.inScope c :: k) cs
    have key : ∃ e a' w', Q e a' w' ∧ Arrives P (lone (b.at a₁ (.code rest :: .inScope c :: k)) cs w₁) b k cs e a' w' := by
      cases e₂ with
      | normal => exact ⟨.normal, a₂, w₂, hq₂, Steps.trans harr₂ (.one step_inScope)⟩
      | exit id => exact ⟨.exit id, a₂, w₂, hq₂, fun k' hk => harr₂ k' (by simp [exitTo, hk])⟩
      | goto l => exact hq₂.elim
      | ret => exact ⟨_, a₂, w₂, hq₂, harr₂⟩
      | panic ch => exact ⟨_, a₂, w₂, hq₂, harr₂⟩
      | outgrown => exact ⟨_, a₂, w₂, hq₂, harr₂⟩
    obtain ⟨e₃, a₃, w₃, hq₃, harr₃⟩ := key
    exact ⟨e₃, a₃, w₃, hq₃, .of_steps (.head step_scope (harr _ hg)) harr₃⟩
  | ret => exact ⟨_, a₁, w₁, hq, .of_steps (.one step_scope) harr⟩
  | panic ch => exact ⟨_, a₁, w₁, hq, .of_steps (.one step_scope) harr⟩
  | outgrown => exact ⟨_, a₁, w₁, hq, .of_steps (.one step_scope) harr⟩

/-- .. and the scope's end may be reached without a jump. -/
theorem wp_scope_hop3 {P : Program} {c : Code} {a : Act} {w : World} {Q : Exit → Act → World → Prop}
    (h : ∀ Q' : Exit → Act → World → Prop, (∀ a w, Q .ret a w → Q' .ret a w) → (∀ l rest a w, findLabel c l = some rest → rest.wp P (Exit.noGoto Q) a w → Q' (.goto l) a w) → (∀ a w, Q .normal a w → Q' .normal a w) → c.wp P Q' a w) : (Code.scope c).wp P Q a w := by
  intro b k cs
  have h1 := h (fun e a w => match e with | .goto l => ∃ rest, findLabel c l = some rest ∧ rest.wp P (Exit.noGoto Q) a w | e => Q e a w) (fun _ _ h => h) (fun l rest a w hf hr => ⟨rest, hf, hr⟩) (fun _ _ h => h)
  obtain ⟨e, a₁, w₁, hq, harr⟩ := h1 b (.inScope c :: k) cs
  cases e with
  | normal => exact ⟨.normal, a₁, w₁, hq, .head step_scope (Steps.trans harr (.one step_inScope))⟩
  | exit id => exact ⟨.exit id, a₁, w₁, hq, fun k' hk => .head step_scope (harr k' (by simp [exitTo, hk]))⟩
  | goto l =>
    obtain ⟨rest, hf, hr⟩ := hq
    have hg : gotoIn l (.inScope c :: k) = some (.code rest :: .inScope c :: k) := by simp [gotoIn, hf]
    obtain ⟨e₂, a₂, w₂, hq₂, harr₂⟩ := hr b (.inScope c :: k) cs
    have key : ∃ e a' w', Q e a' w' ∧ Arrives P (lone (b.at a₁ (.code rest :: .inScope c :: k)) cs w₁) b k cs e a' w' := by
      cases e₂ with
      | normal => exact ⟨.normal, a₂, w₂, hq₂, Steps.trans harr₂ (.one step_inScope)⟩
      | exit id => exact ⟨.exit id, a₂, w₂, hq₂, fun k' hk => harr₂ k' (by simp [exitTo, hk])⟩
      | goto l => exact hq₂.elim
      | ret => exact ⟨_, a₂, w₂, hq₂, harr₂⟩
      | panic ch => exact ⟨_, a₂, w₂, hq₂, harr₂⟩
      | outgrown => exact ⟨_, a₂, w₂, hq₂, harr₂⟩
    obtain ⟨e₃, a₃, w₃, hq₃, harr₃⟩ := key
    exact ⟨e₃, a₃, w₃, hq₃, .of_steps (.head step_scope (harr _ hg)) harr₃⟩
  | ret => exact ⟨_, a₁, w₁, hq, .of_steps (.one step_scope) harr⟩
  | panic ch => exact ⟨_, a₁, w₁, hq, .of_steps (.one step_scope) harr⟩
  | outgrown => exact ⟨_, a₁, w₁, hq, .of_steps (.one step_scope) harr⟩

end Go.Proofs.Ytehnhkjeijbliaa
