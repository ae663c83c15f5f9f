/- A region that draws its order, from where on nothing is left to draw: the plain list. -/
import Derived.Test.YtehnhkjeijbliaaPerm
import Derived.Test.YtehnhkjeijbliaaApp
namespace Go.Proofs.Ytehnhkjeijbliaa
open Go.RowKit Go.Proofs
set_option maxRecDepth 50000
set_option linter.unusedVariables false

/-- What two ways share is shown once. -/
theorem share {α : Type} {P : α → Prop} {G : α → Prop} {R : Prop} (h1 : (∀ x, P x → G x) → R) (h2 : ∀ x, P x → G x) : R := h1 h2

/-- The first n have come up, of m more none. -/
def upto (n m : Nat) : Array Bool := (List.replicate n true ++ List.replicate m false).toArray

theorem upto_getD (n m k : Nat) (d : Bool) : (upto n m).getD k d = if k < n then true else if k < n + m then false else d := by
  unfold upto
  rw [Array.getD_eq_getD_getElem?, List.getElem?_toArray]
  by_cases h : k < n
  · rw [if_pos h, List.getElem?_append_left (by simpa using h), List.getElem?_replicate, if_pos h]
    rfl
  · rw [if_neg h, List.getElem?_append_right (by simp; omega), List.length_replicate, List.getElem?_replicate]
    by_cases h2 : k < n + m
    · rw [if_pos h2, if_pos (by omega)]
      rfl
    · rw [if_neg h2, if_neg (by omega)]
      rfl

theorem upto_set (n m : Nat) : (upto n (m + 1)).setIfInBounds n true = upto (n + 1) m := by
  unfold upto
  rw [List.setIfInBounds_toArray]
  congr 1
  rw [List.set_append_right _ _ (by simp), List.length_replicate, Nat.sub_self, List.replicate_succ, List.set_cons_zero, List.replicate_succ', List.append_assoc]
  rfl

/-- Each waits for the one ahead of it, and for none behind it. -/
def seqL (md : Region.Mode) : Nat → List Oper → Bool
  | _, [] => true
  | j, o :: rest => o.after.toList.all (fun e => !Region.binds md e || decide (e.on < j)) && o.after.toList.any (fun e => Region.binds md e && e.on + 1 == j) && seqL md (j + 1) rest

def seqB (md : Region.Mode) (i : Nat) : List Oper → Bool
  | [] => true
  | o :: rest => o.after.toList.all (fun e => !Region.binds md e || decide (e.on < i)) && seqL md (i + 1) rest

theorem seqL_at {md : Region.Mode} : ∀ (l : List Oper) (j k : Nat) (o : Oper), seqL md j l = true → l[k]? = some o → ∃ e ∈ o.after, Region.binds md e = true ∧ e.on + 1 = j + k
  | [], _, _, _, _, h => by simp at h
  | x :: rest, j, k, o, hs, h => by
    simp only [seqL, Bool.and_eq_true] at hs
    obtain ⟨⟨h1, h2⟩, h3⟩ := hs
    cases k with
    | zero =>
      cases h
      obtain ⟨e, he, hb⟩ := List.any_eq_true.1 h2
      simp only [Bool.and_eq_true, beq_iff_eq] at hb
      exact ⟨e, by simpa using he, hb.1, hb.2⟩
    | succ k =>
      obtain ⟨e, he, hb, hk⟩ := seqL_at rest (j + 1) k o h3 h
      exact ⟨e, he, hb, by omega⟩

theorem seqL_seqB {md : Region.Mode} {i : Nat} {l : List Oper} (h : seqL md i l = true) : seqB md i l = true := by
  cases l with
  | nil => rfl
  | cons o rest =>
    simp only [seqL, seqB, Bool.and_eq_true] at h ⊢
    exact ⟨h.1.1, h.2⟩

theorem wpAnyH_seq {P : Program} {ops : Array Oper} {Q : Exit → Act → World → Prop} {md : Region.Mode} :
    ∀ (rest : List Oper) (i : Nat) (a : Act) (w : World), ops.toList.drop i = rest → seqB md i rest = true →
      wpList P ops Q rest a w → wpAnyH P md ops Q (fun _ => True) rest.length (upto i rest.length) a w
  | [], i, a, w, hr, hc, h => by
    refine ⟨List.eq_nil_iff_forall_not_mem.2 fun j hj => ?_, h⟩
    have h1 := (mem_ready.1 hj).1
    rw [upto_getD] at h1
    simp only [List.length_nil] at h1
    split at h1
    · cases h1
    · rw [if_neg (by omega)] at h1
      cases h1
  | o :: rest, i, a, w, hr, hc, h => by
    simp only [seqB, Bool.and_eq_true] at hc
    obtain ⟨h1, h2⟩ := hc
    have hi : ops[i]? = some o := by
      rw [← Array.getElem?_toList, ← List.head?_drop, hr]
      rfl
    have hr' : ops.toList.drop (i + 1) = rest := by
      rw [← List.drop_drop, hr]
      rfl
    have ih := fun a w => wpAnyH_seq (P := P) (Q := Q) rest (i + 1) a w hr' (seqL_seqB h2)
    have hmem : i ∈ Region.ready md ops (upto i (rest.length + 1)) := by
      refine mem_ready.2 ⟨?_, o, hi, fun e he hb => ?_⟩
      · rw [upto_getD, if_neg (by omega), if_pos (by omega)]
      · have h3 := List.all_eq_true.1 h1 e (by simpa using he)
        rw [hb] at h3
        have h4 : e.on < i := by simpa using h3
        rw [upto_getD, if_pos h4]
    refine ⟨fun h => (by rw [List.length_cons] at h; rw [h] at hmem; cases hmem), fun j hj => ?_⟩
    have hji : j = i := by
      obtain ⟨h3, oj, hoj, hall⟩ := mem_ready.1 hj
      rw [upto_getD] at h3
      split at h3
      · cases h3
      · rename_i hlt
        rcases Nat.lt_or_ge i j with hij | hij
        · have hk : rest[j - (i + 1)]? = some oj := by
            rw [← hr', List.getElem?_drop, Array.getElem?_toList, show i + 1 + (j - (i + 1)) = j by omega]
            exact hoj
          obtain ⟨e, he, hb, hk2⟩ := seqL_at rest (i + 1) (j - (i + 1)) oj h2 hk
          have h5 := hall e he hb
          rw [upto_getD, if_neg (by omega)] at h5
          split at h5 <;> cases h5
        · omega
    subst hji
    unfold wpOp
    simp only [hi]
    rw [List.length_cons, upto_set]
    unfold wpList at h
    split
    · rename_i hw
      rw [if_pos hw] at h
      exact h.imp (Oper.wp_mono fun a w h => ⟨trivial, ih a w h⟩) id
    · rename_i hw
      rw [if_neg hw] at h
      exact ⟨trivial, ih _ _ h⟩

/-- From number i on there is one order. -/
theorem rchain {P : Program} {ops : Array Oper} {Q : Exit → Act → World → Prop} {md : Region.Mode} (rest : List Oper) (i n : Nat) {listed : Array Bool} {a : Act} {w : World}
    (hr : ops.toList.drop i = rest) (hf : rest.length = n) (hl : listed = upto i n) (hc : seqB md i rest = true) (h : wpList P ops Q rest a w) : wpAnyH P md ops Q (fun _ => True) n listed a w := by
  subst hf hl
  exact wpAnyH_seq rest i a w hr hc h

/-- A region that draws its order, and has but one. -/
theorem rwhole {P : Program} {ops : Array Oper} {Q : Exit → Act → World → Prop} {id : Nat} {a : Act} {w : World} (hm : P.follows .mixedOrders = true)
    (h : wpAnyH P .any ops Q (fun _ => True) ops.size (Array.replicate ops.size false) a w.drew) : (Code.region id ops true).wp P Q a w :=
  wp_region_held hm h

/-- Which have come up, told anew. -/
theorem rlisted {P : Program} {ops : Array Oper} {Q : Exit → Act → World → Prop} {md : Region.Mode} {S : World → Prop} {fuel : Nat} {l : Array Bool} {a : Act} {w : World} (l' : Array Bool) (e : l = l')
    (h : wpAnyH P md ops Q S fuel l' a w) : wpAnyH P md ops Q S fuel l a w := e ▸ h

/-- What is known of some slots. -/
def known? (env : List (Nat × Bool)) (s : Nat) : Option Bool := (env.find? fun x => x.1 == s).map (·.2)

def EnvOk (env : List (Nat × Bool)) (t : Array Value) : Prop := ∀ s b, known? env s = some b → t.getD s undef = .bool b

theorem envNil {t : Array Value} : EnvOk [] t := fun _ _ h => by cases h

theorem envCons {env : List (Nat × Bool)} {t : Array Value} {s : Nat} {b : Bool} (h : t.getD s undef = .bool b) (he : EnvOk env t) : EnvOk ((s, b) :: env) t := by
  intro s' b' h'
  unfold known? at h'
  rw [List.find?_cons] at h'
  by_cases hs : s = s'
  · subst hs
    simp only [beq_self_eq_true] at h'
    cases h'
    exact h
  · have hb : ((s, b).1 == s') = false := beq_false_of_ne hs
    rw [hb] at h'
    exact he s' b' h'

theorem EnvOk.put {env : List (Nat × Bool)} {t : Array Value} {d : Nat} {v : Value} (he : EnvOk env t) (hd : known? env d = none) : EnvOk env (t.setIfInBounds d v) := by
  intro s b h
  have hne : d ≠ s := fun e => by subst e; rw [hd] at h; cases h
  have := he s b h
  rw [Array.getD_eq_getD_getElem?] at this ⊢
  rw [Array.getElem?_setIfInBounds_ne hne]
  exact this

theorem getD_put {t : Array Value} {d : Nat} {v : Value} (hd : d < t.size) : (t.setIfInBounds d v).getD d undef = v := by
  rw [Array.getD_eq_getD_getElem?, Array.getElem?_setIfInBounds_self_of_lt hd]
  rfl

def opK (env : List (Nat × Bool)) : Operand → Option Bool
  | .tmp s => known? env s
  | .const (.bool b) => some b
  | _ => none

theorem opK_eval {env : List (Nat × Bool)} {a : Act} {x : Operand} {b : Bool} (he : EnvOk env a.tmps) (h : opK env x = some b) : a.eval x = .bool b := by
  unfold opK at h
  split at h
  · exact he _ _ h
  · cases h; rfl
  · cases h

/-- Whether an operation is passed over, as far as is known. -/
def offB (ops : Array Oper) (env : List (Nat × Bool)) (o : Oper) : Bool :=
  match o.guard with
  | some (j, b) => match (ops[j]?).bind (·.dst) with
    | some s => known? env s == some (!b)
    | none => false
  | none => false

theorem offB_wanted {ops : Array Oper} {env : List (Nat × Bool)} {t : Array Value} {o : Oper} (he : EnvOk env t) (h : offB ops env o = true) : Region.wanted o (yielded ops t) = false := by
  unfold offB at h
  unfold Region.wanted
  split at h
  · rename_i j b hg
    rw [hg]
    split at h
    · rename_i s hs
      have h2 := he s _ (eq_of_beq h)
      have h3 : t[s]? = some (.bool (!b)) := by
        rw [Array.getD_eq_getD_getElem?] at h2
        cases h4 : t[s]? with
        | none => rw [h4] at h2; cases h2
        | some v => rw [h4] at h2; exact congrArg some h2
      have h5 : yielded ops t j = some (!b) := by
        unfold yielded
        rw [hs]
        simp only [Option.bind_some, h3]
      simp only [h5]
      cases b <;> rfl
    · cases h
  · cases h

/-- An operation that is passed over, or that moves what is known (n slots). -/
def offStep (n : Nat) (ops : Array Oper) (o : Oper) (env : List (Nat × Bool)) : Option (List (Nat × Bool)) :=
  match o.dst with
  | none => none
  | some d =>
    if d < n ∧ (known? env d).isNone = true then
      if offB ops env o = true then some env
      else if o.guard = none then
        match o.op with
        | .move x => (opK env x).map fun b => (d, b) :: env
        | .assign x => (opK env x).map fun b => (d, b) :: env
        | .pick c x y => (opK env c).bind fun b => (opK env (if b then x else y)).map fun b => (d, b) :: env
        | _ => none
      else none
    else none

def offRun (n : Nat) (ops : Array Oper) : List Oper → List (Nat × Bool) → Option (List (Nat × Bool))
  | [], env => some env
  | o :: rest, env => (offStep n ops o env).bind (offRun n ops rest)

theorem wpList_off {P : Program} {n : Nat} {ops : Array Oper} {Q : Exit → Act → World → Prop} {w : World} : ∀ (rest : List Oper) (a : Act) (env env' : List (Nat × Bool)), a.tmps.size = n → EnvOk env a.tmps →
    offRun n ops rest env = some env' → (∀ t' : Array Value, EnvOk env' t' → Q .normal { tmps := t', defers := a.defers } w) → wpList P ops Q rest a w
  | [], a, env, env', hn, he, h, hq => by
    cases h
    exact hq _ he
  | o :: rest, a, env, env', hn, he, h, hq => by
    unfold offRun at h
    obtain ⟨env1, h1, h2⟩ := Option.bind_eq_some_iff.1 h
    clear h
    unfold offStep at h1
    split at h1
    · cases h1
    rename_i d hd
    split at h1
    · rename_i hk
      have hkn : known? env d = none := Option.isNone_iff_eq_none.1 hk.2
      have hput : ∀ v, (a.put o.dst v).tmps = a.tmps.setIfInBounds d v := fun v => by rw [hd]; rfl
      have hdef : ∀ v, (a.put o.dst v).defers = a.defers := fun v => by rw [hd]; rfl
      have go : ∀ (v : Value) (env1 : List (Nat × Bool)), EnvOk env1 (a.tmps.setIfInBounds d v) → offRun n ops rest env1 = some env' → wpList P ops Q rest (a.put o.dst v) w := fun v env1 he1 hr =>
        wpList_off (P := P) rest (a.put o.dst v) env1 env' (by rw [hput, Array.size_setIfInBounds, hn]) (by rw [hput]; exact he1) hr (fun t' ht => by rw [hdef]; exact hq t' ht)
      have new : ∀ b, EnvOk ((d, b) :: env) (a.tmps.setIfInBounds d (.bool b)) := fun b => envCons (getD_put (by rw [hn]; exact hk.1)) (he.put hkn)
      split at h1
      · rename_i hoff
        cases h1
        unfold wpList
        rw [offB_wanted he hoff]
        exact go undef env (he.put hkn) h2
      · split at h1
        · rename_i hg
          have hw : Region.wanted o (yielded ops a.tmps) = true := by unfold Region.wanted; rw [hg]
          unfold wpList
          rw [if_pos hw]
          refine .inl ?_
          split at h1
          · rename_i x hx
            obtain ⟨b, hb, rfl⟩ := Option.map_eq_some_iff.1 h1
            simp only [Oper.wp, execOp, hx, Sem.run_pure, Oper.upon_value, opK_eval he hb]
            exact go _ _ (new b) h2
          · rename_i x hx
            obtain ⟨b, hb, rfl⟩ := Option.map_eq_some_iff.1 h1
            simp only [Oper.wp, execOp, hx, Sem.run_pure, Oper.upon_value, opK_eval he hb]
            exact go _ _ (new b) h2
          · rename_i c x y hx
            obtain ⟨b, hb, h3⟩ := Option.bind_eq_some_iff.1 h1
            obtain ⟨b2, hb2, rfl⟩ := Option.map_eq_some_iff.1 h3
            have hv : (if b = true then a.eval x else a.eval y) = .bool b2 := by
              cases b
              · exact opK_eval he hb2
              · exact opK_eval he hb2
            simp only [Oper.wp, execOp, hx, opK_eval he hb, asBool, Sem.run_bind, Result.andThen_ok, Sem.run_pure, Oper.upon_value, hv]
            exact go _ _ (new b2) h2
          · cases h1
        · cases h1
    · cases h1

/-- Of what is left of a region all is passed over, or moves what is known: what is then known of slot k. -/
theorem wpList_tail {P : Program} {ops : Array Oper} {Q : Exit → Act → World → Prop} {w : World} {rest : List Oper} {a : Act} (n : Nat) (k : Tmp) (b : Bool) (env : List (Nat × Bool)) (hn : a.tmps.size = n) (he : EnvOk env a.tmps)
    (h : (offRun n ops rest env).bind (known? · k) = some b) (hq : ∀ t' : Array Value, t'.getD k undef = .bool b → Q .normal { tmps := t', defers := a.defers } w) : wpList P ops Q rest a w := by
  obtain ⟨env', h1, h2⟩ := Option.bind_eq_some_iff.1 h
  exact wpList_off rest a env env' hn he h1 fun t' ht => hq t' (ht _ _ h2)

theorem goK {Pre K : Act → World → Prop} {a : Act} {w : World} (h : ∀ a w, Pre a w → K a w) (hp : Pre a w) : K a w := h _ _ hp
end Go.Proofs.Ytehnhkjeijbliaa
