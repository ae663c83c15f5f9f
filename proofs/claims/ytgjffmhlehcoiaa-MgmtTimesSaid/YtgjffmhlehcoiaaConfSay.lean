/- What texts say, plainly: lines that say nothing, lines behind a text, lines that are none. -/
import Derived.Test.YtgjffmhlehcoiaaConf
namespace Go.Proofs.Ytgjffmhlehcoiaa
open Go.RowKit Go.Proofs
set_option maxRecDepth 50000
set_option linter.unusedVariables false
set_option linter.unusedSimpArgs false

/-- A text up to where a line begins. -/
theorem split_at {A : List UInt8} (h : A = [] ∨ A.getLast? = some 10) : ∃ P : List (List UInt8), P.length = A.count 10 ∧ ∀ X, splitF (A ++ X) = P ++ splitF X := by
  rcases h with rfl | h
  · exact ⟨[], rfl, fun X => rfl⟩
  · obtain ⟨A', rfl⟩ := List.getLast?_eq_some_iff.1 h
    refine ⟨splitF A', ?_, fun X => ?_⟩
    · rw [splitF_length, List.count_append]
      rfl
    · rw [List.append_assoc, show [(10 : UInt8)] ++ X = 10 :: X from rfl, splitF_ten]

theorem parseE_of {cl cl' : Int} {t t' : List UInt8} (h : (parseF cl t).1 = (parseF cl' t').1 ∧ ((parseF cl t).2 = 0 ↔ (parseF cl' t').2 = 0)) : parseE cl t = parseE cl' t' ∧ parseC cl t = parseC cl' t' := by
  have e : parseE cl t = parseE cl' t' := by
    unfold parseE
    rw [h.1]
    by_cases h0 : (parseF cl t).2 = 0
    · rw [if_neg (by simp [h0]), if_neg (by simp [h.2.1 h0])]
    · rw [if_pos h0, if_pos (fun h1 => h0 (h.2.2 h1))]
  refine ⟨e, ?_⟩
  unfold parseC
  rw [e, h.1]

/-- An empty line and a remark say nothing. -/
theorem hop_says {A B : List UInt8} (cl : Int) (h : A = [] ∨ A.getLast? = some 10) : parseE cl (A ++ ([10, 35, 32, 104, 111, 112, 10] ++ B)) = parseE cl (A ++ B) ∧ parseC cl (A ++ ([10, 35, 32, 104, 111, 112, 10] ++ B)) = parseC cl (A ++ B) := by
  obtain ⟨P, hP, hS⟩ := split_at h
  refine parseE_of ?_
  unfold parseF
  have e : splitF ([10, 35, 32, 104, 111, 112, 10] ++ B) = [] :: [35, 32, 104, 111, 112] :: splitF B := by
    rw [show ([10, 35, 32, 104, 111, 112, 10] ++ B : List UInt8) = [] ++ 10 :: ([35, 32, 104, 111, 112] ++ 10 :: B) from rfl, splitF_ten, splitF_ten]
    rfl
  rw [hS, hS, e, runF_append _ _ _ _ (by decide), runF_append _ _ _ _ (by decide)]
  by_cases h0 : (runF (defC cl) 1 P).2 = 0
  · rw [if_pos h0, if_pos h0, runF_some (line_empty _), runF_some (line_hash _ _)]
    exact runF_two _ _ _ _ (by omega) (by omega)
  · rw [if_neg h0, if_neg h0]
    exact ⟨rfl, Iff.rfl⟩

theorem parse_ok {cl : Int} {t : List UInt8} (h : parseE cl t = 0) : (parseF cl t).2 = 0 ∧ CfOk (parseF cl t).1 ∧ parseC cl t = (parseF cl t).1 := by
  have hc : parseC cl t = (parseF cl t).1 := if_pos h
  unfold parseE at h
  split at h
  · cases h
  · rename_i h0
    refine ⟨by simpa using h0, ?_, hc⟩
    unfold checkE at h
    split at h
    · assumption
    · cases h

/-- A line that is none, where one begins. -/
theorem none_says {A B s : List UInt8} (cl : Int) (h : A = [] ∨ A.getLast? = some 10) (hs : ∀ b ∈ s, b ≠ 10) (hn : ∀ c, lineF c s = none) (hok : parseE cl (A ++ B) = 0) :
    parseE cl (A ++ (s ++ 10 :: B)) = 4 ∧ parseN cl (A ++ (s ++ 10 :: B)) = 1 + A.count 10 := by
  obtain ⟨P, hP, hS⟩ := split_at h
  obtain ⟨h0, -, -⟩ := parse_ok hok
  unfold parseF at h0
  rw [hS, runF_append _ _ _ _ (by decide)] at h0
  have h1 : (runF (defC cl) 1 P).2 = 0 := by
    by_cases h1 : (runF (defC cl) 1 P).2 = 0
    · exact h1
    · rw [if_neg h1] at h0
      exact absurd h0 h1
  have e : parseF cl (A ++ (s ++ 10 :: B)) = (zeroC, 1 + A.count 10) := by
    unfold parseF
    rw [hS, splitF_ten, splitF_one hs, runF_append _ _ _ _ (by decide), if_pos h1, List.singleton_append, runF_none (hn _), hP]
  unfold parseE parseN
  rw [e]
  exact ⟨if_pos (by show ¬ 1 + A.count 10 = 0; omega), rfl⟩

/-- Two lines behind a text. -/
theorem two_says {cl : Int} {t s s' : List UInt8} {c c' c'' : Cf} (hok : parseE cl t = 0) (hc : parseC cl t = c) (hs : ∀ b ∈ s, b ≠ 10) (hs' : ∀ b ∈ s', b ≠ 10) (h1 : lineF c s = some c') (h2 : lineF c' s' = some c'') (hc'' : CfOk c'') :
    parseE cl (t ++ 10 :: (s ++ 10 :: s')) = 0 ∧ parseC cl (t ++ 10 :: (s ++ 10 :: s')) = c'' := by
  obtain ⟨h0, -, hp⟩ := parse_ok hok
  have e : parseF cl (t ++ 10 :: (s ++ 10 :: s')) = (c'', 0) := by
    have h0' : (runF (defC cl) 1 (splitF t)).2 = 0 := h0
    have hp' : (runF (defC cl) 1 (splitF t)).1 = c := hp.symm.trans hc
    unfold parseF
    rw [splitF_ten, splitF_ten, splitF_one hs, splitF_one hs', runF_append _ _ _ _ (by decide), if_pos h0', hp', List.singleton_append, runF_some h1, runF_some h2]
    rfl
  have hE : parseE cl (t ++ 10 :: (s ++ 10 :: s')) = 0 := by
    unfold parseE
    rw [e, if_neg (by simp)]
    exact if_pos hc''
  exact ⟨hE, by unfold parseC; rw [if_pos hE, e]⟩

/-- A remark and one line. -/
theorem one_says {cl : Int} {s r : List UInt8} {c : Cf} (hr : ∀ b ∈ r, b ≠ 10) (hs : ∀ b ∈ s, b ≠ 10) (h1 : lineF (defC cl) s = some c) (hc : CfOk c) :
    parseE cl ((35 :: r) ++ 10 :: (s ++ 10 :: [])) = 0 ∧ parseC cl ((35 :: r) ++ 10 :: (s ++ 10 :: [])) = c ∧ parseN cl ((35 :: r) ++ 10 :: (s ++ 10 :: [])) = 0 := by
  have e : parseF cl ((35 :: r) ++ 10 :: (s ++ 10 :: [])) = (c, 0) := by
    unfold parseF
    rw [splitF_ten, splitF_ten, splitF_one hs, splitF_one (t := 35 :: r) (fun b hb => by
      rcases List.mem_cons.1 hb with rfl | hb
      · decide
      · exact hr b hb), List.singleton_append, List.singleton_append, runF_some (line_hash _ _), runF_some h1]
    show runF c (1 + 1 + 1) [[]] = _
    rw [runF_some (line_empty _)]
    rfl
  have hE : parseE cl ((35 :: r) ++ 10 :: (s ++ 10 :: [])) = 0 := by
    unfold parseE
    rw [e, if_neg (by simp)]
    exact if_pos hc
  exact ⟨hE, by unfold parseC; rw [if_pos hE, e], by unfold parseN; rw [e]⟩

/-- Whose it is stays. -/
theorem setC_cl (i : Nat) (v : Int) (c : Cf) : (setC i v c).cl = c.cl := by
  unfold setC
  split <;> rfl
theorem line_cl {c c' : Cf} {s : List UInt8} (h : lineF c s = some c') : c'.cl = c.cl := by
  unfold lineF at h
  split at h
  · cases h; rfl
  · split at h
    · cases h
    · split at h
      · unfold putC at h
        split at h
        · cases h
        · cases h
          exact setC_cl _ _ _
      · cases h
theorem run_cl (P : List (List UInt8)) : ∀ (c : Cf) (n : Nat), 0 < n → (runF c n P).2 = 0 → (runF c n P).1.cl = c.cl := by
  induction P with
  | nil => intro c n _ _; rfl
  | cons s P ih =>
    intro c n hn h
    cases hl : lineF c s with
    | none =>
      rw [runF_none hl] at h
      have h' : n = 0 := h
      omega
    | some c' =>
      rw [runF_some hl] at h ⊢
      rw [ih c' (n + 1) (by omega) h, line_cl hl]
theorem parse_cl {cl : Int} {t : List UInt8} {c : Cf} (h : parseF cl t = (c, 0)) : c.cl = cl := by
  have h2 := run_cl (splitF t) (defC cl) 1 (by decide) (by show (parseF cl t).2 = 0; rw [h])
  have h3 : (runF (defC cl) 1 (splitF t)).1 = c := by show (parseF cl t).1 = c; rw [h]
  rw [h3] at h2
  exact h2
theorem parse_good {cl : Int} {t : List UInt8} {c : Cf} (h : parseF cl t = (c, 0)) : parseE cl t = checkE c ∧ parseN cl t = 0 ∧ (parseC cl t = if checkE c = 0 then c else zeroC) := by
  have e : parseE cl t = checkE c := by
    unfold parseE
    rw [h]
    exact if_neg (by simp)
  refine ⟨e, by unfold parseN; rw [h], ?_⟩
  unfold parseC
  rw [e, h]

theorem hop_none (c : Cf) : lineF c [104, 111, 112, 32, 49] = none := line_other c _ (by decide) (by decide) (by decide)

/-- priority1 and a number of it. -/
theorem line_p1 (c : Cf) {v : Nat} (hv : v < 10000000000) : lineF c ([112, 114, 105, 111, 114, 105, 116, 121, 49, 32] ++ decS v) = some { c with p1 := (v : Int) } := by
  rw [show ([112, 114, 105, 111, 114, 105, 116, 121, 49, 32] ++ decS v : List UInt8) = [112, 114, 105, 111, 114, 105, 116, 121, 49] ++ 32 :: decS v from rfl]
  rw [line_set c _ _ 2 v (by decide) (by decide) (by decide) (by decide) (decS_num hv)]
  rfl
theorem line_p2 (c : Cf) {v : Nat} (hv : v < 10000000000) : lineF c ([112, 114, 105, 111, 114, 105, 116, 121, 50, 32] ++ decS v) = some { c with p2 := (v : Int) } := by
  rw [show ([112, 114, 105, 111, 114, 105, 116, 121, 50, 32] ++ decS v : List UInt8) = [112, 114, 105, 111, 114, 105, 116, 121, 50] ++ 32 :: decS v from rfl]
  rw [line_set c _ _ 3 v (by decide) (by decide) (by decide) (by decide) (decS_num hv)]
  rfl
theorem line_tm (c : Cf) {v : Nat} (hv : v < 10000000000) : lineF c ([116, 105, 109, 101, 111, 117, 116, 32] ++ decS v) = some { c with tm := (v : Int) } := by
  rw [show ([116, 105, 109, 101, 111, 117, 116, 32] ++ decS v : List UInt8) = [116, 105, 109, 101, 111, 117, 116] ++ 32 :: decS v from rfl]
  rw [line_set c _ _ 11 v (by decide) (by decide) (by decide) (by decide) (decS_num hv)]
  rfl
theorem line_st (c : Cf) {v : Nat} (hv : v < 10000000000) : lineF c ([115, 116, 101, 112, 32] ++ decS v) = some { c with st := (v : Int) } := by
  rw [show ([115, 116, 101, 112, 32] ++ decS v : List UInt8) = [115, 116, 101, 112] ++ 32 :: decS v from rfl]
  rw [line_set c _ _ 17 v (by decide) (by decide) (by decide) (by decide) (decS_num hv)]
  rfl

theorem no_ten {a : List UInt8} (ha : ∀ b ∈ a, b ≠ 10) (v : Nat) : ∀ b ∈ a ++ decS v, b ≠ 10 := fun b hb => by
  rcases List.mem_append.1 hb with h | h
  · exact ha b h
  · exact decS_ne v b h
end Go.Proofs.Ytgjffmhlehcoiaa
