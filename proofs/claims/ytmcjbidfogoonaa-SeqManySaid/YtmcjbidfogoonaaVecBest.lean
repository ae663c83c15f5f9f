/- The best of vectors, plainly: of unlike Grands it is better than each other one. -/
import Derived.Test.YtmcjbidfogoonaaVec
namespace Go.Proofs.Ytmcjbidfogoonaa
open Go.RowKit Go.Proofs
set_option maxRecDepth 50000
set_option linter.unusedVariables false
set_option linter.unusedSimpArgs false

def noV : Vc := ⟨0, 0, 0, 0, 0, 0, 0, 0, 0, 0, 0⟩
def vat (l : List Vc) (i : Int) : Vc := l.getD i.toNat noV
theorem vat_get (l : List Vc) (i : Nat) (h : i < l.length) : vat l (i : Int) = l[i] := by
  unfold vat
  rw [Int.toNat_natCast, List.getD_eq_getElem?_getD, List.getElem?_eq_getElem h]
  rfl

/-- The place of the best one of the first n. -/
def bestG (l : List Vc) : Nat → Int
  | 0 => -1
  | n + 1 => if bestG l n < 0 then n else if 0 < compV (vat l (bestG l n)) (vat l n) then n else bestG l n
theorem bestG_first (l : List Vc) (n : Nat) (h : bestG l n < 0) : bestG l (n + 1) = n := if_pos h
theorem bestG_later (l : List Vc) (n : Nat) (h : ¬ bestG l n < 0) (h2 : 0 < compV (vat l (bestG l n)) (vat l n)) : bestG l (n + 1) = n := by
  show (if bestG l n < 0 then (n : Int) else if 0 < compV (vat l (bestG l n)) (vat l n) then n else bestG l n) = n
  rw [if_neg h, if_pos h2]
theorem bestG_stays (l : List Vc) (n : Nat) (h : ¬ bestG l n < 0) (h2 : ¬ 0 < compV (vat l (bestG l n)) (vat l n)) : bestG l (n + 1) = bestG l n := by
  show (if bestG l n < 0 then (n : Int) else if 0 < compV (vat l (bestG l n)) (vat l n) then n else bestG l n) = bestG l n
  rw [if_neg h, if_neg h2]
theorem bestG_range (l : List Vc) : ∀ n, (n = 0 ∧ bestG l n = -1) ∨ (0 ≤ bestG l n ∧ bestG l n < n)
  | 0 => .inl ⟨rfl, rfl⟩
  | n + 1 => by
    have ih := bestG_range l n
    unfold bestG
    split
    · omega
    · split
      · omega
      · omega

theorem comp_better {a b : Vc} (h : grandV a b < 0) : compV a b = -2 := by
  have hr := grand_range a b
  have hg : grandV a b = -1 := by omega
  rw [comp_grand (by omega), hg]
  rfl
theorem grand_of_comp {a b : Vc} (h0 : grandV a b ≠ 0) (h : compV a b = -2) : grandV a b < 0 := by
  have := comp_grand h0
  omega

/-- Of unlike Grands the best one is better than each other one. -/
theorem bestG_wins (l : List Vc) (hu : ∀ i j : Nat, i < l.length → j < l.length → i ≠ j → grandV (vat l i) (vat l j) ≠ 0) :
    ∀ n, 0 < n → n ≤ l.length → ∀ i : Nat, i < n → (i : Int) ≠ bestG l n → compV (vat l (bestG l n)) (vat l i) = -2 := by
  intro n
  induction n with
  | zero => intro h; omega
  | succ n ih =>
    intro _ hn i hi hne
    rcases bestG_range l n with ⟨h0, h1⟩ | ⟨h0, h1⟩
    · subst h0
      have e := bestG_first l 0 (by rw [h1]; decide)
      rw [e] at hne
      omega
    · obtain ⟨b, hb⟩ : ∃ b : Nat, bestG l n = (b : Int) := ⟨(bestG l n).toNat, by omega⟩
      have hbn : b < n := by omega
      have hbl : b < l.length := by omega
      have hnl : n < l.length := hn
      have ih := ih (by omega) (by omega)
      rw [hb] at ih
      have hbn0 := hu b n hbl hnl (by omega)
      by_cases hc : 0 < compV (vat l (bestG l n)) (vat l n)
      · have e := bestG_later l n (by omega) hc
        rw [e] at hne ⊢
        rw [hb] at hc
        have hcb := comp_grand hbn0
        have hnb : grandV (vat l n) (vat l b) < 0 := by rw [grand_back (vat l b) (vat l n)]; omega
        by_cases hib : i = b
        · subst hib
          exact comp_better hnb
        · have h2 := ih i (by omega) (by omega)
          have h3 := grand_of_comp (hu b i hbl (by omega) (by omega)) h2
          exact comp_better ((grand_trans (Int.le_of_lt hnb) (Int.le_of_lt h3)).2.1 hnb)
      · have e := bestG_stays l n (by omega) hc
        rw [e, hb] at hne ⊢
        by_cases hin : i = n
        · subst hin
          rw [hb] at hc
          have hcb := comp_grand hbn0
          have hr := grand_range (vat l b) (vat l i)
          exact comp_better (by omega)
        · exact ih i (by omega) hne

/-- Identities that are shifted, each with its place behind: unlike. -/
theorem shifted_unlike (x y : Int) (i j : Nat) (hi : i < 256) (hj : j < 256) (hij : i ≠ j) : (x * 256 + i) % 18446744073709551616 ≠ (y * 256 + j) % 18446744073709551616 := by omega
theorem grand_unlike {a b : Vc} (h : a.gr ≠ b.gr) : grandV a b ≠ 0 := by
  intro h0
  have := lexL_eq (xs := keyG a) (ys := keyG b) rfl h0
  unfold keyG at this
  simp only [List.cons.injEq] at this
  exact h this.2.2.2.2.2.1
end Go.Proofs.Ytmcjbidfogoonaa
