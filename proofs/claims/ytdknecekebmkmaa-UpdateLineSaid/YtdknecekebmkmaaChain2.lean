/- What ways share, of two things; an append that leaves other blocks alone. -/
import Derived.Test.YtdknecekebmkmaaChain
namespace Go.Proofs.Ytdknecekebmkmaa
open Go.RowKit Go.Proofs
set_option maxRecDepth 50000
set_option linter.unusedVariables false

theorem share2 {α β : Type} {P : α → β → Prop} {G : α → β → Prop} {R : Prop} (h1 : (∀ x y, P x y → G x y) → R) (h2 : ∀ x y, P x y → G x y) : R := h1 h2

theorem share4 {α β γ δ : Type} {P : α → β → Prop} {G : α → β → γ → δ → Prop} {R : Prop} (h1 : (∀ x y z u, P x y → G x y z u) → R) (h2 : ∀ x y z u, P x y → G x y z u) : R := h1 h2

theorem Box.grown {w w' : World} {g : Nat} {xs : List Value} {t : TypeId} {row : Option Nat} (h : Box w g xs t) (hg : w.grownBy w' row) (hne : some g ≠ row) : Box w' g xs t := by
  unfold Box
  rw [hg.block g h.lt hne]
  exact h
end Go.Proofs.Ytdknecekebmkmaa
