/- A vector of an announcer, plainly: who is better (chapter 11; gen_vec.py). -/
import Derived.Test.YtgjffmhlehcoiaaBase
import Derived.Test.YtgjffmhlehcoiaaCmp
namespace Go.Proofs.Ytgjffmhlehcoiaa
open Go.RowKit Go.Proofs
set_option maxRecDepth 50000
set_option linter.unusedVariables false
set_option linter.unusedSimpArgs false

/-- Numbers held against each other, the first that differs says it. -/
def lexL : List Int → List Int → Int
  | x :: xs, y :: ys => if x < y then -1 else if y < x then 1 else lexL xs ys
  | _, _ => 0

theorem lexL_cons (x y : Int) (xs ys : List Int) : lexL (x :: xs) (y :: ys) = if x < y then -1 else if y < x then 1 else lexL xs ys := rfl
theorem lexL_range (xs ys : List Int) : lexL xs ys = -1 ∨ lexL xs ys = 0 ∨ lexL xs ys = 1 := by
  induction xs generalizing ys with
  | nil => right; left; cases ys <;> rfl
  | cons x xs ih =>
    cases ys with
    | nil => right; left; rfl
    | cons y ys =>
      rw [lexL_cons]
      split
      · left; rfl
      · split
        · right; right; rfl
        · exact ih ys
theorem lexL_back (xs ys : List Int) : lexL ys xs = - lexL xs ys := by
  induction xs generalizing ys with
  | nil => cases ys <;> rfl
  | cons x xs ih =>
    cases ys with
    | nil => rfl
    | cons y ys =>
      have h := ih ys
      rw [lexL_cons, lexL_cons]
      by_cases e1 : x < y
      · have e2 : ¬ y < x := by omega
        simp [e1, e2]
      · by_cases e2 : y < x
        · simp [e1, e2]
        · simp [e1, e2, h]
theorem lexL_same (xs : List Int) : lexL xs xs = 0 := by
  have := lexL_back xs xs
  omega
theorem lexL_eq {xs ys : List Int} (hl : xs.length = ys.length) (h : lexL xs ys = 0) : xs = ys := by
  induction xs generalizing ys with
  | nil => cases ys with
    | nil => rfl
    | cons y ys => cases hl
  | cons x xs ih =>
    cases ys with
    | nil => cases hl
    | cons y ys =>
      rw [lexL_cons] at h
      split at h
      · cases h
      · split at h
        · cases h
        · rw [ih (by simpa using hl) h, show x = y by omega]
theorem lexL_trans {xs ys zs : List Int} (h1 : xs.length = ys.length) (h2 : ys.length = zs.length) (a : lexL xs ys ≤ 0) (b : lexL ys zs ≤ 0) :
    lexL xs zs ≤ 0 ∧ (lexL xs ys < 0 → lexL xs zs < 0) ∧ (lexL ys zs < 0 → lexL xs zs < 0) := by
  induction xs generalizing ys zs with
  | nil =>
    cases ys with
    | nil => cases zs with
      | nil => exact ⟨Int.le_refl _, fun h => h, fun h => h⟩
      | cons z zs => cases h2
    | cons y ys => cases h1
  | cons x xs ih =>
    cases ys with
    | nil => cases h1
    | cons y ys =>
      cases zs with
      | nil => cases h2
      | cons z zs =>
        have ih := @ih ys zs (by simpa using h1) (by simpa using h2)
        rw [lexL_cons] at a b ⊢
        rw [lexL_cons, lexL_cons]
        by_cases e1 : x < y
        · rw [if_pos e1]
          by_cases e2 : y < z
          · rw [if_pos (by omega : x < z)]; omega
          · rw [if_neg e2] at b
            by_cases e3 : z < y
            · rw [if_pos e3] at b; omega
            · rw [if_pos (by omega : x < z)]; omega
        · rw [if_neg e1] at a ⊢
          by_cases e2 : y < x
          · rw [if_pos e2] at a; omega
          · rw [if_neg e2] at a ⊢
            obtain rfl : x = y := by omega
            by_cases e3 : x < z
            · rw [if_pos e3, if_pos e3]; omega
            · rw [if_neg e3] at b ⊢
              by_cases e4 : z < x
              · rw [if_pos e4] at b; omega
              · rw [if_neg e4] at b ⊢
                rw [if_neg e3, if_neg e4]
                exact ih a b

/-- A vector. -/
structure Vc where
  p1 : Int
  qc : Int
  qa : Int
  qv : Int
  p2 : Int
  gr : Int
  st : Int
  sc : Int
  sp : Int
  rc : Int
  rp : Int

def keyG (a : Vc) : List Int := [a.p1, a.qc, a.qa, a.qv, a.p2, a.gr]
def grandV (a b : Vc) : Int := lexL (keyG a) (keyG b)
def portC (c p c' p' : Int) : Int := lexL [c, p] [c', p']
def longV (a : Vc) : Int := if portC a.rc a.rp a.sc a.sp = -1 then 2 else if portC a.rc a.rp a.sc a.sp = 1 then 1 else 0
def compV (a b : Vc) : Int :=
  if grandV a b ≠ 0 then 2 * grandV a b
  else if b.st + 1 < a.st then 2
  else if a.st + 1 < b.st then -2
  else if b.st < a.st then longV a
  else if a.st < b.st then - longV b
  else lexL [a.sc, a.sp, a.rp] [b.sc, b.sp, b.rp]

theorem grand_back (a b : Vc) : grandV b a = - grandV a b := lexL_back _ _
theorem grand_range (a b : Vc) : grandV a b = -1 ∨ grandV a b = 0 ∨ grandV a b = 1 := lexL_range _ _
theorem grand_same (a : Vc) : grandV a a = 0 := lexL_same _
theorem grand_trans {a b c : Vc} (h1 : grandV a b ≤ 0) (h2 : grandV b c ≤ 0) : grandV a c ≤ 0 ∧ (grandV a b < 0 → grandV a c < 0) ∧ (grandV b c < 0 → grandV a c < 0) := lexL_trans rfl rfl h1 h2
theorem long_range (a : Vc) : longV a = 0 ∨ longV a = 1 ∨ longV a = 2 := by
  unfold longV
  split
  · right; right; rfl
  · split
    · right; left; rfl
    · left; rfl
theorem comp_range (a b : Vc) : -2 ≤ compV a b ∧ compV a b ≤ 2 := by
  have h1 := grand_range a b
  have h2 := long_range a
  have h3 := long_range b
  have h4 := lexL_range [a.sc, a.sp, a.rp] [b.sc, b.sp, b.rp]
  unfold compV
  repeat' split
  all_goals omega
theorem comp_back (a b : Vc) : compV b a = - compV a b := by
  have h1 := grand_back a b
  have h4 := lexL_back [a.sc, a.sp, a.rp] [b.sc, b.sp, b.rp]
  unfold compV
  repeat' split
  all_goals omega
theorem comp_same (a : Vc) : compV a a = 0 := by
  have := comp_back a a
  omega
theorem comp_grand {a b : Vc} (h : grandV a b ≠ 0) : compV a b = 2 * grandV a b := if_pos h

end Go.Proofs.Ytgjffmhlehcoiaa
