/- conf.obey: what a line turns, of the program's own. -/
import Derived.Test.YtmcnohndgnaagaaConfSet
import Derived.Test.YtmcnohndgnaagaaConfNum
namespace Go.Proofs.Ytmcnohndgnaagaa
open Go.RowKit Go.Proofs
set_option maxRecDepth 50000
set_option linter.unusedVariables false
set_option linter.unusedSimpArgs false

def okS (k : Nat) (v : Int) : Bool := !(flagI k) || decide (v = 0 ∨ v = 1)
theorem putC_ok (k : Nat) (v : Int) (c : Cf) : putC k v c = if okS k v = true then some (setC k v c) else none := by
  unfold putC okS
  cases h : flagI k
  · simp
  · by_cases h2 : v = 0 ∨ v = 1
    · simp [h2]
    · simp [h2]
/-- One cell turned. -/
theorem set_cfL (k : Nat) (hk : k < 22) (v : Int) (c : Cf) : (cfL c).set (k + 1) (if flagI k = true then .bool (decide (v = 1)) else .int .i64 v) = cfL (setC k v c) := by
  rcases k with _ | _ | _ | _ | _ | _ | _ | _ | _ | _ | _ | _ | _ | _ | _ | _ | _ | _ | _ | _ | _ | _ | k
  all_goals first | rfl | omega
theorem cfL_some (c : Cf) (k : Nat) (hk : k < 23) : ∃ u, (cfL c)[k]? = some u := ⟨(cfL c)[k]'hk, List.getElem?_eq_getElem hk⟩

set_option maxRecDepth 100000 in
set_option maxHeartbeats 4000000 in
theorem setOne_any (k : Nat) (hk : k < 22) (nm : List UInt8) (v : Int) (g : Nat) (c : Cf) (w : World) (B : Box w g (cfL c) 29) :
    Calls Try.prog 49 #[.agg #[sv nm, .pointer (if flagI k = true then none else some ⟨g, k + 1, none⟩), .pointer (if flagI k = true then some ⟨g, k + 1, none⟩ else none)], .int .i64 v] w
      fun e w' => e = .returned (.bool (okS k v)) ∧ Box w' g (cfL (setC k v c)) 29 ∧ Only g w w' := by
  have hset := set_cfL k hk v c
  obtain ⟨u, hu⟩ := cfL_some c (k + 1) (by omega)
  unfold okS
  cases hf : flagI k
  · simp only [hf, Bool.false_eq_true, if_false] at hset ⊢
    have hb := bnew w (Obj.cells #[sv nm, .pointer (some ⟨g, k + 1, none⟩), .pointer none] 51)
    have c1 := boxC w #[sv nm, .pointer (some ⟨g, k + 1, none⟩), .pointer none] 51 1 _ rfl
    have B2 := B.below hb
    go_enter Try.func49, Try.ntmps49
    go_upto_region 1 with fail
    generalize w.alloc (Obj.cells #[sv nm, .pointer (some ⟨g, k + 1, none⟩), .pointer none] 51) = W at *
    have hc := B2.cell _ _ hu
    have hfr := B2.free (k + 1)
    have B3 := B2.set (k + 1) (.int .i64 v)
    rw [hset] at B3
    have ho := (Only.of_below g hb).cell (k + 1) (.int .i64 v)
    go_wp2_with fail
    go_ret
    exact ⟨rfl, B3, ho⟩
  · simp only [hf, if_true] at hset ⊢
    have hb := bnew w (Obj.cells #[sv nm, .pointer none, .pointer (some ⟨g, k + 1, none⟩)] 51)
    have c1 := boxC w #[sv nm, .pointer none, .pointer (some ⟨g, k + 1, none⟩)] 51 1 _ rfl
    have c2 := boxC w #[sv nm, .pointer none, .pointer (some ⟨g, k + 1, none⟩)] 51 2 _ rfl
    have B2 := B.below hb
    go_enter Try.func49, Try.ntmps49
    go_upto_region 1 with fail
    generalize w.alloc (Obj.cells #[sv nm, .pointer none, .pointer (some ⟨g, k + 1, none⟩)] 51) = W at *
    have hc := B2.cell _ _ hu
    have hfr := B2.free (k + 1)
    have B3 := B2.set (k + 1) (.bool (decide (v = 1)))
    rw [hset] at B3
    have ho := (Only.of_below g hb).cell (k + 1) (.bool (decide (v = 1)))
    have hv : (v == 1) = decide (v = 1) := by rw [Bool.eq_iff_iff]; simp
    go_upto_region 5 with fail
    try simp only [hv]
    generalize W.setCell ⟨g, k + 1, none⟩ (.bool (decide (v = 1))) = W2 at *
    go_wp2_with fail
    refine (within_1 0 1 v _).mono ?_
    rintro e w3 ⟨rfl, b3⟩
    go_wp2_with fail
    go_ret
    refine ⟨?_, B3.below b3, ho.next b3⟩
    show Ending.returned (.bool (inR 0 1 [v])) = _
    rw [inR_one]
    refine ret_bool ?_
    rw [Bool.eq_iff_iff]
    simp
    omega

theorem line_gen (c : Cf) (s : List UInt8) (h0 : s ≠ []) (h1 : s.head? ≠ some 35) : lineF c s = match numF (cutD s) with | some v => (match nameI (cutN s) with | some i => putC i v c | none => none) | none => none := by
  unfold lineF
  rw [if_neg (by simp [h0, h1])]
  by_cases h : (nmF s).length = s.length
  · rw [if_pos h]
    have h2 := (cut_none h).2.1
    rw [h2]
    rfl
  · rw [if_neg h]
    show (match numF (cutD s), nameI (cutN s) with | some v, some i => putC i v c | _, _ => none) = _
    cases numF (cutD s) with
    | none => rfl
    | some v =>
      cases nameI (cutN s) with
      | none => rfl
      | some i => rfl

set_option maxRecDepth 100000 in
set_option maxHeartbeats 8000000 in
theorem obey_any (g a : Nat) (c : Cf) (s : List UInt8) (w : World) (B : Box w g (cfL c) 29) (hS : Box w a (setsL g) 51) (hag : a ≠ g) (hl : s.length ≤ 5000) :
    Calls Try.prog 42 #[.slice (some ⟨a, 0, none⟩) 22 22, sv s] w
      fun e w' => ∃ c', Box w' g (cfL c') 29 ∧ Only g w w' ∧ ((lineF c s = some c' ∧ e = .returned (.bool true)) ∨ (lineF c s = none ∧ e = .returned (.bool false))) := by
  cases s with
  | nil =>
    have hL := hid (line_empty c)
    go_enter Try.func42, Try.ntmps42
    go_wp2_with fail
    go_ret
    exact ⟨c, B, Only.refl _ _, .inl ⟨hL.out, rfl⟩⟩
  | cons b t =>
    have hlI : ((b :: t).length : Int) = (t.length : Int) + 1 := by simp
    have ht0 : (0 : Int) ≤ (t.length : Int) := by omega
    have e1 : ((⟨(b :: t).toArray⟩ : ByteArray) == ⟨#[]⟩) = false := str_ne (b := []) (by simp)
    have hg0 : (⟨(b :: t).toArray⟩ : ByteArray)[0]'(by show 0 < (b :: t).length; simp) = b := rfl
    by_cases hb : b = 35
    · subst hb
      have hL := hid (line_hash c t)
      go_enter Try.func42, Try.ntmps42
      go_wp2_with fail
      go_ret
      exact ⟨c, B, Only.refl _ _, .inl ⟨hL.out, rfl⟩⟩
    · have hbI : ¬ (b.toNat : Int) = 35 := by
        intro h
        apply hb
        rw [← UInt8.toNat_inj]
        show b.toNat = 35
        omega
      have hbB : ((b.toNat : Int) == 35) = false := beq_false_of_ne hbI
      have hL := hid (line_gen c (b :: t) (by simp) (by simp [hb]))
      have hcut := fun wx => cut_any (b :: t) wx hl
      have hDl : (cutD (b :: t)).length ≤ 5000 := by unfold cutD; rw [List.length_drop]; omega
      go_enter Try.func42, Try.ntmps42
      go_wp2_with fail
      refine (hcut _).mono ?_
      rintro e w1 ⟨rfl, b1⟩
      clear hcut e1 hg0
      generalize cutD (b :: t) = D at *
      generalize cutN (b :: t) = N at *
      generalize cutB (b :: t) = P at *
      replace B := B.below b1
      replace hS := hS.below b1
      have o1 := Only.of_below g b1
      have nb : ∃ W2 : World, W2 = w1.alloc (Obj.cells #[.string ⟨N.toArray⟩] 9) ∧ Below w1.heap.size w1 W2 ∧ W2.cell? ⟨w1.heap.size, 0, none⟩ = some (sv N) ∧ w1.heap.size < W2.heap.size := by
        have N1 := Box.new w1 [sv N] 9
        exact ⟨_, rfl, bnew w1 _, N1.cell 0 _ rfl, N1.lt⟩
      obtain ⟨W2, hW2, bW, hc5, hlt5⟩ := nb
      replace B := B.below bW
      replace hS := hS.below bW
      replace o1 := o1.next bW
      go_upto_region 4 with fail
      rw [← hW2]
      clear hW2 bW
      generalize w1.heap.size = g5 at *
      go_wp2_with fail
      refine (number_any D _ hDl).mono ?_
      rintro e w3 ⟨rfl, b3⟩
      replace B := B.below b3
      replace hS := hS.below b3
      replace o1 := o1.next b3
      have hc5' : w3.cell? ⟨g5, 0, none⟩ = some (sv N) := by rw [b3.cell (p := ⟨g5, 0, none⟩) hlt5]; exact hc5
      have hlt5' : g5 < w3.heap.size := Nat.lt_of_lt_of_le hlt5 b3.size
      clear hc5 hlt5 b3
      cases hnum : numF D with
      | none =>
        have hLn := hid (show lineF c (b :: t) = none from hL.out.trans (by rw [hnum]))
        go_wp2_with fail
        go_ret
        exact ⟨c, B, o1, .inr ⟨hLn.out, rfl⟩⟩
      | some v =>
        have hix := fun wx h1 h2 h3 => indexFunc_any N a g g5 wx h1 h2 h3
        unfold ixI at hix
        cases hnm : nameI N with
        | none =>
          rw [hnm] at hix
          have hLn := hid (show lineF c (b :: t) = none from hL.out.trans (by rw [hnum, hnm]))
          clear hnum hnm
          go_wp2_with fail
          refine (hix _ hS hc5' hlt5').mono ?_
          rintro e w4 ⟨rfl, b4⟩
          go_wp2_with fail
          go_ret
          exact ⟨c, B.below b4, o1.next b4, .inr ⟨hLn.out, rfl⟩⟩
        | some k =>
          rw [hnm] at hix
          have hk := nameI_lt hnm
          have hLn := hid (show lineF c (b :: t) = if okS k v = true then some (setC k v c) else none from hL.out.trans (by rw [hnum, hnm]; exact putC_ok k v c))
          clear hnum hnm
          go_wp2_with fail
          refine (hix _ hS hc5' hlt5').mono ?_
          rintro e w4 ⟨rfl, b4⟩
          replace B := B.below b4
          replace hS := hS.below b4
          replace o1 := o1.next b4
          clear b4
          obtain ⟨s0, s1, s2⟩ := setsL_at g k hk
          have d0 := hS.cell _ _ s0
          have d1 := hS.cell _ _ s1
          have d2 := hS.cell _ _ s2
          clear s0 s1 s2
          have hset := fun wx hx => setOne_any k hk (names.getD k []) v g c wx hx
          generalize names.getD k [] = S at *
          generalize (if flagI k = true then none else some ({ block := g, off := k + 1, spot := none } : Addr)) = p at *
          generalize (if flagI k = true then some ({ block := g, off := k + 1, spot := none } : Addr) else none) = q at *
          have hkI : (k : Int) < 22 := by omega
          go_wp2_with fail
          refine (hset _ B).mono ?_
          rintro e w5 ⟨rfl, B5, o5⟩
          have o6 := o1.trans o5
          cases hok : okS k v
          · have hLm := hid (show lineF c (b :: t) = none from hLn.out.trans (by rw [hok]; rfl))
            go_wp2_with fail
            go_ret
            exact ⟨_, B5, o6, .inr ⟨hLm.out, rfl⟩⟩
          · have hLm := hid (show lineF c (b :: t) = some (setC k v c) from hLn.out.trans (by rw [hok]; rfl))
            go_wp2_with fail
            go_ret
            exact ⟨_, B5, o6, .inl ⟨hLm.out, rfl⟩⟩
end Go.Proofs.Ytmcnohndgnaagaa
