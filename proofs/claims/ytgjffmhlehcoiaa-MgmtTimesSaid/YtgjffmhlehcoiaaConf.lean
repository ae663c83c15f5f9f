/- A configuration, plainly: its cells, its lines, what a text says (chapter 10; gen_conf.py). -/
import Derived.Test.YtgjffmhlehcoiaaBase
namespace Go.Proofs.Ytgjffmhlehcoiaa
open Go.RowKit Go.Proofs
set_option maxRecDepth 50000
set_option linter.unusedVariables false
set_option linter.unusedSimpArgs false

/-- A configuration. -/
structure Cf where
  cl : Int
  po : Int
  dm : Int
  p1 : Int
  p2 : Int
  qc : Int
  qa : Int
  qv : Int
  so : Bool
  la : Int
  ls : Int
  ld : Int
  tm : Int
  pe : Bool
  os : Bool
  md : Int
  kp : Int
  ki : Int
  st : Int
  ut : Int
  fl : Int
  og : Int
  tr : Bool

theorem Cf.ext' {a b : Cf} (h_cl : a.cl = b.cl) (h_po : a.po = b.po) (h_dm : a.dm = b.dm) (h_p1 : a.p1 = b.p1) (h_p2 : a.p2 = b.p2) (h_qc : a.qc = b.qc) (h_qa : a.qa = b.qa) (h_qv : a.qv = b.qv) (h_so : a.so = b.so) (h_la : a.la = b.la) (h_ls : a.ls = b.ls) (h_ld : a.ld = b.ld) (h_tm : a.tm = b.tm) (h_pe : a.pe = b.pe) (h_os : a.os = b.os) (h_md : a.md = b.md) (h_kp : a.kp = b.kp) (h_ki : a.ki = b.ki) (h_st : a.st = b.st) (h_ut : a.ut = b.ut) (h_fl : a.fl = b.fl) (h_og : a.og = b.og) (h_tr : a.tr = b.tr) : a = b := by
  cases a; cases b
  simp only at *
  simp [h_cl, h_po, h_dm, h_p1, h_p2, h_qc, h_qa, h_qv, h_so, h_la, h_ls, h_ld, h_tm, h_pe, h_os, h_md, h_kp, h_ki, h_st, h_ut, h_fl, h_og, h_tr]

/-- Its cells. -/
def cfL (c : Cf) : List Value := [.int .u64 c.cl, .int .i64 c.po, .int .i64 c.dm, .int .i64 c.p1, .int .i64 c.p2, .int .i64 c.qc, .int .i64 c.qa, .int .i64 c.qv, .bool c.so, .int .i64 c.la, .int .i64 c.ls, .int .i64 c.ld, .int .i64 c.tm, .bool c.pe, .bool c.os, .int .i64 c.md, .int .i64 c.kp, .int .i64 c.ki, .int .i64 c.st, .int .i64 c.ut, .int .i64 c.fl, .int .i64 c.og, .bool c.tr]

theorem cfL_length (c : Cf) : (cfL c).length = 23 := rfl
theorem cfL_one (c : Cf) : ∀ v ∈ cfL c, v.oneCell' = true := by
  intro v hv
  unfold cfL at hv
  simp only [List.mem_cons, List.mem_nil_iff, or_false] at hv
  rcases hv with rfl | rfl | rfl | rfl | rfl | rfl | rfl | rfl | rfl | rfl | rfl | rfl | rfl | rfl | rfl | rfl | rfl | rfl | rfl | rfl | rfl | rfl | rfl <;> rfl

/-- As most are set up; one that is all zero. -/
def defC (cl : Int) : Cf := ⟨cl, 1, 0, 128, 128, 248, 254, 65535, false, 1, 0, 0, 3, false, false, 5, 700, 300, 20000, 37, 8, 160, false⟩
def zeroC : Cf := ⟨0, 0, 0, 0, 0, 0, 0, 0, false, 0, 0, 0, 0, false, false, 0, 0, 0, 0, 0, 0, 0, false⟩

/-- Whether it may be. -/
def CfOk (c : Cf) : Prop :=
  c.cl ≠ 0 ∧ c.cl ≠ 18446744073709551615 ∧ (1 ≤ c.po ∧ c.po ≤ 8) ∧ (0 ≤ c.dm ∧ c.dm ≤ 127) ∧ (0 ≤ c.p1 ∧ c.p1 ≤ 255) ∧ (0 ≤ c.p2 ∧ c.p2 ≤ 255) ∧ (0 ≤ c.qc ∧ c.qc ≤ 255) ∧ (0 ≤ c.qa ∧ c.qa ≤ 255) ∧ (0 ≤ c.qv ∧ c.qv ≤ 65535) ∧ (-3 ≤ c.la ∧ c.la ≤ 4) ∧ (-3 ≤ c.ls ∧ c.ls ≤ 4) ∧ (-3 ≤ c.ld ∧ c.ld ≤ 4) ∧ (2 ≤ c.tm ∧ c.tm ≤ 10) ∧ (1 ≤ c.md ∧ c.md ≤ 15) ∧ (0 ≤ c.kp ∧ c.kp ≤ 2000) ∧ (0 ≤ c.ki ∧ c.ki ≤ 2000) ∧ (0 ≤ c.st ∧ c.st ≤ 1000000000) ∧ (-32768 ≤ c.ut ∧ c.ut ≤ 32767) ∧ (0 ≤ c.fl ∧ c.fl ≤ 63) ∧ (0 ≤ c.og ∧ c.og ≤ 255) ∧ (c.so = true → c.po = 1 ∧ c.qc = 255)

instance (c : Cf) : Decidable (CfOk c) := by unfold CfOk; exact inferInstance

def checkE (c : Cf) : Int := if CfOk c then 0 else 15

/-- One member by its name's place; whether that one is a truth. -/
def setC (i : Nat) (v : Int) (c : Cf) : Cf :=
  match i with
  | 0 => { c with po := v }
  | 1 => { c with dm := v }
  | 2 => { c with p1 := v }
  | 3 => { c with p2 := v }
  | 4 => { c with qc := v }
  | 5 => { c with qa := v }
  | 6 => { c with qv := v }
  | 7 => { c with so := decide (v = 1) }
  | 8 => { c with la := v }
  | 9 => { c with ls := v }
  | 10 => { c with ld := v }
  | 11 => { c with tm := v }
  | 12 => { c with pe := decide (v = 1) }
  | 13 => { c with os := decide (v = 1) }
  | 14 => { c with md := v }
  | 15 => { c with kp := v }
  | 16 => { c with ki := v }
  | 17 => { c with st := v }
  | 18 => { c with ut := v }
  | 19 => { c with fl := v }
  | 20 => { c with og := v }
  | 21 => { c with tr := decide (v = 1) }
  | _ => c

def flagI (i : Nat) : Bool := i == 7 || i == 12 || i == 13 || i == 21

/-- The names. -/
def names : List (List UInt8) := [[112, 111, 114, 116, 115],
  [100, 111, 109, 97, 105, 110],
  [112, 114, 105, 111, 114, 105, 116, 121, 49],
  [112, 114, 105, 111, 114, 105, 116, 121, 50],
  [99, 108, 97, 115, 115],
  [97, 99, 99, 117, 114, 97, 99, 121],
  [118, 97, 114, 105, 97, 110, 99, 101],
  [115, 108, 97, 118, 101],
  [97, 110, 110, 111, 117, 110, 99, 101],
  [115, 121, 110, 99],
  [100, 101, 108, 97, 121],
  [116, 105, 109, 101, 111, 117, 116],
  [112, 101, 101, 114],
  [111, 110, 101, 115, 116, 101, 112],
  [109, 101, 100, 105, 97, 110],
  [107, 112],
  [107, 105],
  [115, 116, 101, 112],
  [117, 116, 99],
  [102, 108, 97, 103, 115],
  [111, 114, 105, 103, 105, 110],
  [116, 114, 97, 99, 101]]

def nameI (s : List UInt8) : Option Nat := names.findIdx? (fun x => x == s)

def putC (i : Nat) (v : Int) (c : Cf) : Option Cf := if flagI i = true ∧ ¬ (v = 0 ∨ v = 1) then none else some (setC i v c)

/-- What digits say. -/
def digB (b : UInt8) : Bool := decide (48 ≤ b.toNat ∧ b.toNat ≤ 57)
def valF (v : Nat) : List UInt8 → Nat
  | [] => v
  | b :: t => valF (v * 10 + (b.toNat - 48)) t
def digF (s : List UInt8) : Option Nat := if 1 ≤ s.length ∧ s.length ≤ 10 ∧ s.all digB = true then some (valF 0 s) else none
def numF (s : List UInt8) : Option Int := if s.head? = some 45 then (digF s.tail).map (fun v => -(v : Int)) else (digF s).map (fun v => (v : Int))

/-- A line: what a configuration becomes by it; none: it is none. -/
def nmF (s : List UInt8) : List UInt8 := s.takeWhile (fun b => b != 32)
def lineF (c : Cf) (s : List UInt8) : Option Cf :=
  if s = [] ∨ s.head? = some 35 then some c
  else if (nmF s).length = s.length then none
  else match numF (s.drop ((nmF s).length + 1)), nameI (nmF s) with
    | some v, some i => putC i v c
    | _, _ => none

/-- A text's lines. -/
def splitF : List UInt8 → List (List UInt8)
  | [] => [[]]
  | b :: t => if b = 10 then [] :: splitF t else match splitF t with
    | [] => [[b]]
    | h :: r => (b :: h) :: r

/-- Line by line: what it becomes, and the number of the first line that is none (0: all are some). -/
def runF (c : Cf) (n : Nat) : List (List UInt8) → Cf × Nat
  | [] => (c, 0)
  | s :: r => match lineF c s with
    | some c' => runF c' (n + 1) r
    | none => (zeroC, n)

/-- The configuration that a text is, its number, its error. -/
def parseF (cl : Int) (t : List UInt8) : Cf × Nat := runF (defC cl) 1 (splitF t)
def parseE (cl : Int) (t : List UInt8) : Int := if (parseF cl t).2 ≠ 0 then 4 else checkE (parseF cl t).1
def parseC (cl : Int) (t : List UInt8) : Cf := if parseE cl t = 0 then (parseF cl t).1 else zeroC
def parseN (cl : Int) (t : List UInt8) : Nat := (parseF cl t).2

theorem splitF_ne (t : List UInt8) : splitF t ≠ [] := by
  cases t with
  | nil => simp [splitF]
  | cons b t =>
    unfold splitF
    split
    · simp
    · split <;> simp

theorem splitF_ten (A B : List UInt8) : splitF (A ++ 10 :: B) = splitF A ++ splitF B := by
  induction A with
  | nil => simp [splitF]
  | cons a t ih =>
    by_cases h : a = 10
    · subst h
      simp [splitF, ih]
    · have hne := splitF_ne t
      simp only [List.cons_append, splitF, if_neg h, ih]
      cases hs : splitF t with
      | nil => exact absurd hs hne
      | cons x r => simp

theorem splitF_length (t : List UInt8) : (splitF t).length = t.count 10 + 1 := by
  induction t with
  | nil => rfl
  | cons a t ih =>
    by_cases h : a = 10
    · subst h
      simp [splitF, ih]
    · have hne := splitF_ne t
      have hc : (a :: t).count 10 = t.count 10 := List.count_cons_of_ne h
      simp only [splitF, if_neg h]
      rw [hc, ← ih]
      cases hs : splitF t with
      | nil => exact absurd hs hne
      | cons x r => simp

/-- No byte 10 in it: one line. -/
theorem splitF_one {t : List UInt8} (h : ∀ b ∈ t, b ≠ 10) : splitF t = [t] := by
  induction t with
  | nil => rfl
  | cons a t ih =>
    have h1 : a ≠ 10 := h a (by simp)
    have h2 := ih fun b hb => h b (by simp [hb])
    simp [splitF, h1, h2]

theorem runF_none {c : Cf} {s : List UInt8} (h : lineF c s = none) (n : Nat) (P : List (List UInt8)) : runF c n (s :: P) = (zeroC, n) := by simp only [runF, h]
theorem runF_some {c c' : Cf} {s : List UInt8} (h : lineF c s = some c') (n : Nat) (P : List (List UInt8)) : runF c n (s :: P) = runF c' (n + 1) P := by simp only [runF, h]

theorem runF_append (P Q : List (List UInt8)) : ∀ (c : Cf) (n : Nat), 0 < n → runF c n (P ++ Q) = if (runF c n P).2 = 0 then runF (runF c n P).1 (n + P.length) Q else runF c n P := by
  induction P with
  | nil => intro c n hn; simp [runF]
  | cons s P ih =>
    intro c n hn
    rw [List.cons_append]
    cases h : lineF c s with
    | none =>
      rw [runF_none h, runF_none h, if_neg]
      show ¬ n = 0
      omega
    | some c' =>
      rw [runF_some h, runF_some h, ih c' (n + 1) (by omega), show n + 1 + P.length = n + (s :: P).length by rw [List.length_cons]; omega]

theorem runF_two (P : List (List UInt8)) (c : Cf) (n m : Nat) (hn : 0 < n) (hm : 0 < m) : (runF c n P).1 = (runF c m P).1 ∧ ((runF c n P).2 = 0 ↔ (runF c m P).2 = 0) := by
  induction P generalizing c n m with
  | nil => simp [runF]
  | cons s P ih =>
    cases h : lineF c s with
    | none =>
      rw [runF_none h, runF_none h]
      exact ⟨rfl, by show n = 0 ↔ m = 0; omega⟩
    | some c' =>
      rw [runF_some h, runF_some h]
      exact ih c' (n + 1) (m + 1) (by omega) (by omega)

theorem line_empty (c : Cf) : lineF c [] = some c := by simp [lineF]
theorem line_hash (c : Cf) (t : List UInt8) : lineF c (35 :: t) = some c := by simp [lineF]

/-- A name that is none. -/
theorem line_other (c : Cf) (s : List UInt8) (h0 : s ≠ []) (h1 : s.head? ≠ some 35) (h2 : nameI (nmF s) = none) : lineF c s = none := by
  unfold lineF
  rw [if_neg (by simp [h0, h1]), h2]
  split
  · rfl
  · cases numF (s.drop ((nmF s).length + 1)) <;> rfl

/-- A name that is one, a blank, a number. -/
theorem line_set (c : Cf) (nm d : List UInt8) (i : Nat) (v : Int) (hn : nameI nm = some i) (h0 : nm ≠ []) (h1 : nm.head? ≠ some 35) (hb : ∀ b ∈ nm, b ≠ 32) (hd : numF d = some v) : lineF c (nm ++ 32 :: d) = putC i v c := by
  have hnm : nmF (nm ++ 32 :: d) = nm := by
    unfold nmF
    rw [List.takeWhile_append_of_pos (by simpa using hb)]
    simp
  have hne : nm ++ 32 :: d ≠ [] := by simp
  have hhd : (nm ++ 32 :: d).head? ≠ some 35 := by
    cases nm with
    | nil => exact absurd rfl h0
    | cons a t => simpa using h1
  unfold lineF
  rw [if_neg (by simp only [hne, hhd, or_self, not_false_eq_true]), hnm, if_neg (by simp), hn]
  have : (nm ++ 32 :: d).drop (nm.length + 1) = d := by
    rw [show nm.length + 1 = nm.length + 1 from rfl, List.drop_append]
    simp
  rw [this, hd]

/-- A number's digits. -/
def decS (v : Nat) : List UInt8 := if h : v < 10 then [UInt8.ofNat (48 + v)] else decS (v / 10) ++ [UInt8.ofNat (48 + v % 10)]
termination_by v

theorem decS_small {v : Nat} (h : v < 10) : decS v = [UInt8.ofNat (48 + v)] := by
  unfold decS
  rw [dif_pos h]
theorem decS_more {v : Nat} (h : ¬ v < 10) : decS v = decS (v / 10) ++ [UInt8.ofNat (48 + v % 10)] := by
  rw [decS, dif_neg h]

theorem dig_of {k : Nat} (h : k < 10) : (UInt8.ofNat (48 + k)).toNat = 48 + k := by
  rw [UInt8.toNat_ofNat']
  omega

theorem valF_append (a : List UInt8) (b : UInt8) : ∀ v, valF v (a ++ [b]) = valF v a * 10 + (b.toNat - 48) := by
  induction a with
  | nil => intro v; rfl
  | cons x t ih => intro v; exact ih _

theorem decS_val (v : Nat) : valF 0 (decS v) = v ∧ (decS v).all digB = true ∧ 1 ≤ (decS v).length ∧ ∀ k, v < 10 ^ (k + 1) → (decS v).length ≤ k + 1 := by
  induction v using Nat.strongRecOn with
  | ind v ih =>
    by_cases h : v < 10
    · rw [decS_small h]
      have hd := dig_of h
      refine ⟨?_, ?_, by simp, fun k _ => by simp⟩
      · show 0 * 10 + ((UInt8.ofNat (48 + v)).toNat - 48) = v
        rw [hd]
        omega
      · simp only [List.all_cons, List.all_nil, Bool.and_true, digB, hd, decide_eq_true_eq]
        omega
    · rw [decS_more h]
      obtain ⟨h1, h2, h3, h4⟩ := ih (v / 10) (by omega)
      have hd := dig_of (show v % 10 < 10 by omega)
      refine ⟨?_, ?_, by simp, fun k hk => ?_⟩
      · rw [valF_append, h1, hd]
        omega
      · rw [List.all_append, h2]
        simp only [List.all_cons, List.all_nil, Bool.and_true, digB, hd, Bool.true_and, decide_eq_true_eq]
        omega
      · rw [List.length_append]
        cases k with
        | zero => omega
        | succ k =>
          have := h4 k (by rw [Nat.pow_succ] at hk; omega)
          simp only [List.length_cons, List.length_nil]
          omega

theorem decS_num {v : Nat} (h : v < 10000000000) : numF (decS v) = some (v : Int) := by
  obtain ⟨h1, h2, h3, h4⟩ := decS_val v
  have h5 := h4 9 (by omega)
  have hd : digF (decS v) = some v := by
    unfold digF
    rw [if_pos ⟨h3, by omega, h2⟩, h1]
  unfold numF
  rw [if_neg, hd]
  · rfl
  · intro e
    cases hs : decS v with
    | nil => rw [hs] at e; cases e
    | cons b t =>
      rw [hs] at e h2
      simp only [List.head?_cons, Option.some.injEq] at e
      subst e
      simp [digB] at h2

theorem decS_lt {v : Nat} (h : v < 10000000000) : (decS v).length ≤ 10 := (decS_val v).2.2.2 9 (by omega)

theorem decS_ne (v : Nat) : ∀ b ∈ decS v, b ≠ 10 := by
  obtain ⟨-, h2, -⟩ := decS_val v
  intro b hb e
  subst e
  have := List.all_eq_true.1 h2 _ hb
  simp [digB] at this

end Go.Proofs.Ytgjffmhlehcoiaa
