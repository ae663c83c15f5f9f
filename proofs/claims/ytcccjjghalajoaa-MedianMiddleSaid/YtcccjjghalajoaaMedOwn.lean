/- The program's own filter of chapter 19: an array of fifteen, the first ones count (gen_medown.py). -/
import Derived.Test.YtcccjjghalajoaaMedRef
import Derived.Test.YtcccjjghalajoaaCopyK
import Derived.Test.YtcccjjghalajoaaHop
import Derived.BigQuiet
namespace Go.Proofs.Ytcccjjghalajoaa
open Go.RowKit Go.Proofs
set_option maxRecDepth 50000
set_option linter.unusedVariables false
set_option linter.unusedSimpArgs false

def mI (rs : List Int) : List Value := rs.map fun z => Value.int .i64 z
theorem mI_length (rs : List Int) : (mI rs).length = rs.length := by unfold mI; rw [List.length_map]
theorem mI_append (a b : List Int) : mI (a ++ b) = mI a ++ mI b := by unfold mI; rw [List.map_append]
theorem mI_at (rs : List Int) (i : Nat) (h : i < rs.length) : (mI rs)[i]? = some (.int .i64 rs[i]) := by
  unfold mI
  rw [List.getElem?_map, List.getElem?_eq_getElem h]
  rfl
theorem mI_set (rs : List Int) (i : Nat) (v : Int) : (mI rs).set i (.int .i64 v) = mI (rs.set i v) := by
  unfold mI
  rw [List.map_set]
theorem mI_cells (rs : List Int) : inK.cells rs = mI rs := inK_cells rs
theorem mI_one (rs : List Int) : ∀ u ∈ mI rs, u.oneCell' = true := by
  rw [← mI_cells]
  exact inK.cells_one rs
def medL (n : Int) (rs : List Int) (k : Int) : List Value := .int .i64 n :: (mI rs ++ [.int .i64 k])
theorem medL_length {n k : Int} {rs : List Int} (h : rs.length = 15) : (medL n rs k).length = 17 := by
  unfold medL
  rw [List.length_cons, List.length_append, mI_length, h]
  rfl
theorem med_val {n k : Int} {rs : List Int} (i : Nat) (hi : i < rs.length) : (medL n rs k)[1 + i]? = some (.int .i64 rs[i]) := by
  unfold medL
  rw [Nat.add_comm, List.getElem?_cons_succ, List.getElem?_append_left (by rw [mI_length]; exact hi), mI_at rs i hi]
theorem med_count {n k : Int} {rs : List Int} (h : rs.length = 15) : (medL n rs k)[16]? = some (.int .i64 k) := by
  unfold medL
  rw [show 16 = 15 + 1 from rfl, List.getElem?_cons_succ, List.getElem?_append_right (by rw [mI_length, h]; decide), mI_length, h]
  rfl
theorem med_setc {n k : Int} {rs : List Int} (h : rs.length = 15) (m : Int) : (medL n rs k).set 16 (.int .i64 m) = medL n rs m := by
  unfold medL
  rw [show 16 = 15 + 1 from rfl, List.set_cons_succ, List.set_append_right _ _ (by rw [mI_length, h]; decide), mI_length, h]
  rfl
theorem med_setv {n k : Int} {rs : List Int} (i : Nat) (hi : i < rs.length) (v : Int) : (medL n rs k).set (1 + i) (.int .i64 v) = medL n (rs.set i v) k := by
  unfold medL
  rw [Nat.add_comm, List.set_cons_succ, List.set_append_left _ _ (by rw [mI_length]; exact hi), mI_set]
def MedR (xs : List Value) (s : Nat × List Int) : Prop := ∃ rs : List Int, rs.length = 15 ∧ xs = medL s.1 rs s.2.length ∧ rs.take s.2.length = s.2
theorem med_open {w : World} {g n : Nat} {l : List Int} (h : ObAt 43 MedR w g (n, l)) : ∃ rs : List Int, rs.length = 15 ∧ Box w g (medL n rs l.length) 43 ∧ rs.take l.length = l := by
  obtain ⟨xs, hB, rs, h1, rfl, h2⟩ := h
  exact ⟨rs, h1, hB, h2⟩
theorem med_shut {w : World} {g n : Nat} {l rs : List Int} (h1 : rs.length = 15) (hB : Box w g (medL n rs l.length) 43) (h2 : rs.take l.length = l) : ObAt 43 MedR w g (n, l) := ⟨_, hB, rs, h1, rfl, h2⟩
/-- The first ones of an array read as a row. -/
theorem Box.rowI {w : World} {g : Nat} {t : TypeId} (pre rs : List Int) (xs : List Value) (off : Nat) (hB : Box w g xs t) (hx : ∀ i (h : i < rs.length), xs[off + i]? = some (.int .i64 rs[i])) (m cap : Nat) (hm : m ≤ rs.length) (hc : m ≤ cap) (hcm : cap ≤ maxLen) :
    inK.Reads w (.slice (some ⟨g, off, none⟩) (rs.take m).length cap) (rs.take m) := by
  refine ⟨_, cap, rfl, by rw [List.length_take]; omega, hcm, .inr ⟨g, off, rfl, hB.lt, fun j v hj => ?_⟩⟩
  rw [mI_cells] at hj
  have hjl := (List.getElem?_eq_some_iff.1 hj).1
  rw [mI_length] at hjl
  rw [mI_at _ j hjl] at hj
  rw [List.length_take] at hjl
  cases hj
  rw [List.getElem_take]
  exact hB.cell _ _ (hx j (by omega))
theorem zeros15 : (mI [0, 0, 0, 0, 0, 0, 0, 0, 0, 0, 0, 0, 0, 0, 0]).length = 15 := rfl

/-! slices.BinarySearch -/
set_option maxHeartbeats 1000000 in
theorem nanS_any (x : Int) (w : World) : Calls Try.prog 22 #[.int .i64 x] w fun e w' => e = .returned (.bool false) ∧ w = w' := by
  go_enter Try.func22, Try.ntmps22
  go_wp2
  go_ret
  exact ⟨by simp, rfl⟩
set_option maxHeartbeats 1000000 in
theorem nanC_any (x : Int) (w : World) : Calls Try.prog 23 #[.int .i64 x] w fun e w' => e = .returned (.bool false) ∧ w = w' := by
  go_enter Try.func23, Try.ntmps23
  go_wp2
  go_ret
  exact ⟨by simp, rfl⟩
set_option maxHeartbeats 1000000 in
theorem less_any (x y : Int) (w : World) : Calls Try.prog 21 #[.int .i64 x, .int .i64 y] w fun e w' => e = .returned (.bool (decide (x < y))) ∧ w = w' := by
  go_enter Try.func21, Try.ntmps21
  go_wp2_with fail
  refine (nanC_any _ _).mono ?_
  rintro e w' ⟨rfl, rfl⟩
  go_wp2_with fail
  go_ret
  exact ⟨rfl, rfl⟩

theorem below_at {s : List Int} (hs : s.Pairwise (· ≤ ·)) (a b : Nat) (hab : a ≤ b) (hb : b < s.length) : s[a]'(by omega) ≤ s[b] := by
  rcases Nat.lt_or_ge a b with h | h
  · exact List.pairwise_iff_getElem.1 hs a b (by omega) hb h
  · obtain rfl : a = b := by omega
    exact Int.le_refl _

set_option maxRecDepth 100000 in
set_option maxHeartbeats 4000000 in
theorem search_any (g off cap n : Nat) (s : List Int) (x : Int) (w : World) (hn : s.length = n) (hl : n ≤ 15) (hc : ∀ i (h : i < s.length), w.cell? ⟨g, off + i, none⟩ = some (.int .i64 s[i])) (hs : s.Pairwise (· ≤ ·)) :
    Calls Try.prog 20 #[.slice (some ⟨g, off, none⟩) n cap, .int .i64 x] w fun e w' => ∃ (p : Nat) (b : Bool), e = .returned (.tuple #[.int .i64 (p : Int), .bool b]) ∧ p ≤ n ∧ (∀ a ∈ s.take p, a ≤ x) ∧ (∀ a ∈ s.drop p, x ≤ a) ∧ w = w' := by
  have HC := hid hc
  have HS := hid fun a b hab hb => below_at hs a b hab hb
  have HN := hid hn
  clear hc hs hn
  go_enter Try.func20, Try.ntmps20
  go_wp2_with fail
  go_loopw [7, 8] (fun iv jv wr => ∃ (i j : Nat), iv = .int .i64 (i : Int) ∧ jv = .int .i64 (j : Int) ∧ i ≤ j ∧ j ≤ n ∧ Hid ((∀ k (h : k < s.length), k < i → s[k] < x) ∧ (∀ k (h : k < s.length), j ≤ k → x ≤ s[k])) ∧ wr = w) (fun iv jv _ => (intOf jv).toNat - (intOf iv).toNat)
  case atStart => exact ⟨0, n, rfl, rfl, Nat.zero_le _, Nat.le_refl _, hid ⟨fun k h hk => absurd hk (Nat.not_lt_zero _), fun k h hk => by have := HN.out; omega⟩, rfl⟩
  case round =>
    obtain ⟨i, j, rfl, rfl, hij, hjn, HIJ, rfl⟩ := hrel
    by_cases hlt : i < j
    · have hh : (i + j) / 2 < s.length := by have := HN.out; omega
      have cm := HC.out ((i + j) / 2) hh
      obtain ⟨y, hy⟩ : ∃ y, s[(i + j) / 2] = y := ⟨_, rfl⟩
      rw [hy] at cm
      have HY := hid hy
      have HH := hid hh
      clear hy
      by_cases hyx : y < x
      · go_wp2_with fail
        refine (less_any _ _ _).mono ?_
        rintro e w' ⟨rfl, rfl⟩
        go_wp2_with fail
        go_roundw
        case rel =>
          refine ⟨(i + j) / 2 + 1, j, by go_num, rfl, by omega, hjn, hid ⟨fun k h hk => ?_, HIJ.out.2⟩, by first | rfl | trivial⟩
          have h1 := HS.out k ((i + j) / 2) (by omega) HH.out
          rw [HY.out] at h1
          omega
        case measure => (simp [intOf] <;> omega)
      · go_wp2_with fail
        refine (less_any _ _ _).mono ?_
        rintro e w' ⟨rfl, rfl⟩
        go_wp2_with fail
        go_roundw
        case rel =>
          refine ⟨i, (i + j) / 2, rfl, by go_num, by omega, by omega, hid ⟨HIJ.out.1, fun k h hk => ?_⟩, by first | rfl | trivial⟩
          have h1 := HS.out ((i + j) / 2) k hk h
          rw [HY.out] at h1
          omega
        case measure => (simp [intOf] <;> omega)
    · obtain rfl : i = j := by omega
      have HE : Hid ((∀ a ∈ s.take i, a ≤ x) ∧ ∀ a ∈ s.drop i, x ≤ a) := hid (by
        obtain ⟨h1, h2⟩ := HIJ.out
        refine ⟨fun a ha => ?_, fun a ha => ?_⟩
        · obtain ⟨k, hk, rfl⟩ := List.mem_iff_getElem.1 ha
          rw [List.length_take] at hk
          rw [List.getElem_take]
          exact Int.le_of_lt (h1 k (by omega) (by omega))
        · obtain ⟨k, hk, rfl⟩ := List.mem_iff_getElem.1 ha
          rw [List.length_drop] at hk
          rw [List.getElem_drop]
          exact h2 (i + k) (by omega) (by omega))
      clear HIJ hlt hij
      by_cases hin : i < n
      · have cl := HC.out i (by have := HN.out; omega)
        obtain ⟨y, hy⟩ : ∃ y, s[i]'(by have := HN.out; omega) = y := ⟨_, rfl⟩
        rw [hy] at cl
        clear hy
        by_cases hyx : y = x
        · have hyb : (y == x) = true := beq_iff_eq.2 hyx
          go_wp2_with fail
          go_ret2
          exact ⟨i, _, rfl, hjn, HE.out.1, HE.out.2, rfl⟩
        · have hyb : (y == x) = false := beq_false_of_ne hyx
          go_wp2_with fail
          refine (nanS_any _ _).mono ?_
          rintro e w' ⟨rfl, rfl⟩
          go_wp2_with fail
          go_ret2
          exact ⟨i, _, rfl, hjn, HE.out.1, HE.out.2, rfl⟩
      · go_wp2_with fail
        go_ret2
        exact ⟨i, _, rfl, hjn, HE.out.1, HE.out.2, rfl⟩

theorem mid_copied {w : World} {b : Nat} {t : TypeId} (pre old post ys : List Int) (o : Nat) (ho : o = pre.length) (hl : ys.length = old.length) (hB : Box w b (mI (pre ++ old ++ post)) t) : Box (w.setCells b o (inK.cells ys)) b (mI (pre ++ ys ++ post)) t := by
  subst ho
  rw [mI_append, mI_append] at hB ⊢
  rw [mI_cells]
  have h := Box.mid (mI ys) (mI old) (mI pre) (mI post) w (by rw [mI_length, mI_length, hl]) hB
  rw [mI_length] at h
  exact h
theorem mid_src {E : List Int} {p m j : Nat} {v : Value} (hj : (mI ((E.drop p).take m))[j]? = some v) : (mI E)[p + j]? = some v := by
  unfold mI at hj ⊢
  rw [List.getElem?_map] at hj ⊢
  rw [List.getElem?_take] at hj
  split at hj
  · rw [List.getElem?_drop] at hj
    exact hj
  · cases hj
theorem ins_row {E : List Int} (hE : E.length = 15) {p k : Nat} (hpk : p ≤ k) (hk : k < 15) (z : Int) :
    (E.take (p + 1) ++ (E.drop p).take (k - p) ++ E.drop (k + 1)).length = 15 ∧ ((E.take (p + 1) ++ (E.drop p).take (k - p) ++ E.drop (k + 1)).set p z).take (k + 1) = (E.take k).take p ++ z :: (E.take k).drop p := by
  have hpE : p < E.length := by omega
  have hB : ((E.drop p).take (k - p)).length = k - p := by rw [List.length_take, List.length_drop]; omega
  have hA : (E.take p).length = p := by rw [List.length_take]; omega
  have e2 : (E.take k).drop p = (E.drop p).take (k - p) := List.drop_take
  refine ⟨by rw [List.length_append, List.length_append, hB, List.length_take, List.length_drop]; omega, ?_⟩
  rw [List.take_take, show min p k = p by omega, e2, take_snoc E p hpE]
  generalize E[p] = y
  generalize (E.drop p).take (k - p) = B at *
  generalize E.take p = A at *
  rw [List.append_assoc, List.append_assoc, List.set_append_right _ _ (by omega), hA, Nat.sub_self, List.singleton_append, List.set_cons_zero]
  rw [show A ++ z :: (B ++ E.drop (k + 1)) = (A ++ z :: B) ++ E.drop (k + 1) by simp]
  exact List.take_left' (by rw [List.length_append, List.length_cons, hA, hB]; omega)
theorem ins_copied {w w0 : World} {b p k : Nat} {t : TypeId} {E : List Int} (hE : E.length = 15) (hpk : p ≤ k) (hk : k < 15) (hL : Box w b (mI E) t) (hb : Below w0.heap.size w0 w) (hlow : w0.heap.size ≤ b) :
    ∃ W1, W1 = w.setCells b (p + 1) (inK.cells ((E.drop p).take (k - p))) ∧ Box W1 b (mI (E.take (p + 1) ++ (E.drop p).take (k - p) ++ E.drop (k + 1))) t ∧ Below w0.heap.size w0 W1 ∧ ∀ g xs t', g ≠ b → Box w g xs t' → Box W1 g xs t' := by
  refine ⟨_, rfl, ?_, below_cells hlow _ _ _ hb, fun g xs t' hg hB => Box.cells_other hg _ _ _ hB⟩
  have e : E = E.take (p + 1) ++ (E.drop (p + 1)).take (k - p) ++ E.drop (k + 1) := by
    have h1 : (E.drop (p + 1)).take (k - p) = (E.take (k + 1)).drop (p + 1) := by rw [List.drop_take, show k + 1 - (p + 1) = k - p by omega]
    have h2 : E.take (p + 1) = (E.take (k + 1)).take (p + 1) := by rw [List.take_take, show min (p + 1) (k + 1) = p + 1 by omega]
    rw [h1, h2, List.take_append_drop, List.take_append_drop]
  refine mid_copied (E.take (p + 1)) ((E.drop (p + 1)).take (k - p)) (E.drop (k + 1)) ((E.drop p).take (k - p)) (p + 1) (by rw [List.length_take]; omega) (by rw [List.length_take, List.length_take, List.length_drop, List.length_drop]; omega) ?_
  rw [← e]
  exact hL

abbrev A15 := {l : List Int // l.length = 15}
def arrK : RowK A15 := ⟨fun a => mI a.1, 15, by decide, fun a => by rw [mI_length, a.2], fun a => mI_one a.1⟩
theorem arrT : StrT arrK 41 := ⟨⟨_, Try.underlying41, rfl⟩, by kernel_rfl⟩
set_option maxRecDepth 100000 in
set_option maxHeartbeats 8000000 in
theorem ordered_any (g n : Nat) (l : List Int) (w : World) (FA : ObAt 43 MedR w g (n, l)) (hl : l.length ≤ 15) :
    Calls Try.prog 19 #[.pointer (some ⟨g, 0, none⟩)] w fun e w' => ∃ E : List Int, e = .returned (.agg (mI E).toArray) ∧ E.length = 15 ∧ (E.take l.length).Perm l ∧ (E.take l.length).Pairwise (· ≤ ·) ∧ Below w.heap.size w w' := by
  obtain ⟨rs, h15, hB, ht⟩ := med_open FA
  have H15 := hid h15
  have hrg : Hid (∀ k (h : k < l.length) (h2 : k < rs.length), rs[k] = l[k]) := hid fun k h h2 => by
    have e := congrArg (fun x : List Int => x[k]?) ht
    rw [List.getElem?_take_of_lt h, List.getElem?_eq_getElem h2, List.getElem?_eq_getElem h] at e
    exact Option.some.inj e
  clear FA ht
  obtain ⟨c, hc⟩ : ∃ c, l.length = c := ⟨_, rfl⟩
  rw [hc] at hB hl
  have HC := hid hc
  clear hc h15
  have hgl := hB.lt
  have z0 := bnew w (Obj.cells (mI [0, 0, 0, 0, 0, 0, 0, 0, 0, 0, 0, 0, 0, 0, 0]).toArray 41)
  have hR := Box.new w (mI [0, 0, 0, 0, 0, 0, 0, 0, 0, 0, 0, 0, 0, 0, 0]) 41
  have z1 := bnew (w.alloc (Obj.cells (mI [0, 0, 0, 0, 0, 0, 0, 0, 0, 0, 0, 0, 0, 0, 0]).toArray 41)) (Obj.cells (mI [0, 0, 0, 0, 0, 0, 0, 0, 0, 0, 0, 0, 0, 0, 0]).toArray 41)
  have hL := Box.new (w.alloc (Obj.cells (mI [0, 0, 0, 0, 0, 0, 0, 0, 0, 0, 0, 0, 0, 0, 0]).toArray 41)) (mI [0, 0, 0, 0, 0, 0, 0, 0, 0, 0, 0, 0, 0, 0, 0]) 41
  replace hR := hR.below z1
  have hb := z0
  replace hb := bnext hb z1
  clear z0
  clear z1
  have s1 : (w.alloc (Obj.cells (mI [0, 0, 0, 0, 0, 0, 0, 0, 0, 0, 0, 0, 0, 0, 0]).toArray 41)).heap.size = w.heap.size + 1 := by simp
  rw [s1] at hL
  go_enter Try.func19, Try.ntmps19
  go_upto_region 2 with fail
  change Code.wp Try.prog _ _ _ ((w.alloc (Obj.cells (mI [0, 0, 0, 0, 0, 0, 0, 0, 0, 0, 0, 0, 0, 0, 0]).toArray 41)).alloc (Obj.cells (mI [0, 0, 0, 0, 0, 0, 0, 0, 0, 0, 0, 0, 0, 0, 0]).toArray 41))
  generalize ((w.alloc (Obj.cells (mI [0, 0, 0, 0, 0, 0, 0, 0, 0, 0, 0, 0, 0, 0, 0]).toArray 41)).alloc (Obj.cells (mI [0, 0, 0, 0, 0, 0, 0, 0, 0, 0, 0, 0, 0, 0, 0]).toArray 41)) = W at *
  clear s1
  generalize hG : w.heap.size = G at *
  rw [← hG] at hb
  have l_hR : w.heap.size ≤ G := by omega
  have l_hL : w.heap.size ≤ G + 1 := by omega
  have n_hR_hL : G ≠ G + 1 := by omega
  replace hB := hB.below hb
  have hcc := hB.cell 16 _ (med_count H15.out)
  have hc0 : (0 : Int) ≤ (c : Int) := by omega
  have hc15 : (c : Int) ≤ 15 := by omega
  have hgG : g < G := by omega
  go_quiet (fail)
  have hd := drewM_below W nq
  replace hB := hB.below hd
  replace hR := hR.below hd
  replace hL := hL.below hd
  replace hb := bnext hb hd
  generalize W.drewN nq = W2 at *
  clear hd hcc hgl
  go_wp2_with fail
  go_loopw [17] (fun iv wr => ∃ (k : Nat) (E : List Int), k ≤ c ∧ iv = .int .i64 (k : Int) ∧ E.length = 15 ∧ Hid ((E.take k).Perm (l.take k) ∧ (E.take k).Pairwise (· ≤ ·)) ∧ Box wr g (medL n rs c) 43 ∧ Box wr G (mI [0, 0, 0, 0, 0, 0, 0, 0, 0, 0, 0, 0, 0, 0, 0]) 41 ∧ Box wr (G + 1) (mI E) 41 ∧ Below w.heap.size w wr) (fun iv _ => c - (intOf iv).toNat)
  case atStart => exact ⟨0, [0, 0, 0, 0, 0, 0, 0, 0, 0, 0, 0, 0, 0, 0, 0], Nat.zero_le _, rfl, rfl, hid ⟨List.Perm.refl _, List.Pairwise.nil⟩, hB, hR, hL, hb⟩
  case round =>
    clear hB hR hL hb
    obtain ⟨k, E, hkc, rfl, hE15, HE, hB, hR, hL, hb⟩ := hrel
    by_cases hk : k < c
    · have hkI : (k : Int) < (c : Int) := by omega
      have hkr : k < rs.length := by have := H15.out; omega
      obtain ⟨z, hz⟩ : ∃ z, rs[k] = z := ⟨_, rfl⟩
      have hcell := hB.cell (1 + k) _ (med_val k hkr)
      rw [hz] at hcell
      have HZ : Hid (∃ h : k < l.length, l[k] = z) := hid ⟨by have := HC.out; omega, by rw [← hrg.out k (by have := HC.out; omega) hkr]; exact hz⟩
      have hk0 : (0 : Int) ≤ (k : Int) := by omega
      have hk15 : (k : Int) ≤ 15 := by omega
      clear hz hkr
      go_wp2_with fail
      refine (search_any (G + 1) 0 15 k (E.take k) z wr (by rw [List.length_take]; omega) (by omega) (fun i hi => by rw [List.length_take] at hi; rw [Nat.zero_add, List.getElem_take]; exact hL.cell i _ (mI_at E i (by omega))) HE.out.2).mono ?_
      rintro e w9 ⟨p, b, rfl, hpk, hlo, hhi, rfl⟩
      have HIN : Hid ((((E.take k).take p ++ z :: (E.take k).drop p).Perm (l.take (k + 1))) ∧ ((E.take k).take p ++ z :: (E.take k).drop p).Pairwise (· ≤ ·)) := hid (by
        obtain ⟨h1, h2⟩ := HE.out
        obtain ⟨h3, h4⟩ := HZ.out
        refine ⟨?_, sorted_in (by rw [List.take_append_drop]; exact h2) hlo hhi⟩
        rw [take_snoc l k h3, h4]
        exact List.perm_middle.trans ((List.Perm.cons z (by rw [List.take_append_drop]; exact h1)).trans (List.perm_append_singleton z (l.take k)).symm))
      obtain ⟨e1, e2⟩ := ins_row hE15 hpk (show k < 15 by omega) z
      have HE1 := hid e1
      rw [← e2] at HIN
      have HK := hid hk
      have hk15n : k < 15 := by omega
      have HP := hid (show p ≤ k ∧ k < 15 ∧ E.length = 15 from ⟨hpk, hk15n, hE15⟩)
      have hp15 : (p : Int) < 15 := by omega
      have hp15e : (p : Int) ≤ 15 := by omega
      have hp0 : (0 : Int) ≤ (p : Int) := by omega
      have hpkI : (p : Int) ≤ (k : Int) := by omega
      have hw1 : wrap64 ((p : Int) + 1) = (p : Int) + 1 := by unfold wrap64; omega
      have hw2 : IntKind.i64.wrap ((p : Int) + 1) = (p : Int) + 1 := by rw [IntKind.wrap_i64]; omega
      have hq0 : (0 : Int) ≤ (p : Int) + 1 := by omega
      have hq5 : (p : Int) + 1 ≤ 15 := by omega
      have hto : ((p : Int) + 1).toNat = p + 1 := by omega
      have hpn : ¬ p = 15 := by omega
      have hpn2 : ¬ 15 = p := by omega
      clear hlo hhi hcell HZ e1 e2 hkI hE15 hk hpk hk15n HE
      go_upto_region 6 with fail
      refine wp_region_held_drew (S := fun w' => True) (by kernel_rfl) True.intro ?_
      intro hS
      have hbd := Below.drew (Below.refl wr.heap.size wr)
      replace hB := hB.below hbd
      replace hR := hR.below hbd
      replace hL := hL.below hbd
      replace hb := bnext hb hbd
      clear hbd
      generalize wr.drew = WD at *
      refine rtake 0 rfl (by rfl) (by kernel_rfl) (by kernel_rfl) (by kernel_rfl) (fun _ _ _ h => h) hS (fun wx hwx => by go_simp; try with_reducible rfl) ?_
      try simp only [Act.put, List.setIfInBounds_toArray, List.set_cons_zero, List.set_cons_succ]
      refine rtake 1 rfl (by rfl) (by kernel_rfl) (by kernel_rfl) (by kernel_rfl) (fun _ _ _ h => h) hS (fun wx hwx => by go_simp; try with_reducible rfl) ?_
      try simp only [Act.put, List.setIfInBounds_toArray, List.set_cons_zero, List.set_cons_succ]
      refine rtake 3 rfl (by rfl) (by kernel_rfl) (by kernel_rfl) (by kernel_rfl) (fun _ _ _ h => h) hS (fun wx hwx => by go_simp; try with_reducible rfl) ?_
      try simp only [Act.put, List.setIfInBounds_toArray, List.set_cons_zero, List.set_cons_succ]
      refine rtake 4 rfl (by rfl) (by kernel_rfl) (by kernel_rfl) (by kernel_rfl) (fun _ _ _ h => h) hS (fun wx hwx => by go_simp; try with_reducible rfl) ?_
      try simp only [Act.put, List.setIfInBounds_toArray, List.set_cons_zero, List.set_cons_succ]
      refine rtake 5 rfl (by rfl) (by kernel_rfl) (by kernel_rfl) (by kernel_rfl) (fun _ _ _ h => h) hS (fun wx hwx => by go_simp; try with_reducible rfl) ?_
      try simp only [Act.put, List.setIfInBounds_toArray, List.set_cons_zero, List.set_cons_succ]
      by_cases hp14 : p = 14
      · subst hp14
        refine rtake 2 rfl (by rfl) (by kernel_rfl) (by kernel_rfl) (by kernel_rfl) (fun _ _ _ h => h) hS (fun wx hwx => by go_simp; try with_reducible rfl) ?_
        try simp only [Act.put, List.setIfInBounds_toArray, List.set_cons_zero, List.set_cons_succ]
        refine rcall 6 rfl (by kernel_rfl) (by rfl) (fun K' hK => ?_)
        refine RowK.op_copy (K := inK) _ _ _ _ 3 rfl (G + 1) _ _ _ _ _ _ [] (by rfl) (by rfl) Try.underlying22 (by kernel_rfl) (by show 0 = min _ _; omega) (fun j v hj => by cases hj) (fun j hj => absurd hj (Nat.not_lt_zero _)) ?_
        refine hK.out _ _ True.intro ?_
        clear hK K' hS
        change wpAnyH _ _ _ _ _ _ _ _ WD
        have hL1 : Box WD (G + 1) (mI (E.take (14 + 1) ++ (E.drop 14).take (k - 14) ++ E.drop (k + 1))) 41 := by
          have h := HP.out
          obtain rfl : k = 14 := by omega
          have e : E.take (14 + 1) ++ (E.drop 14).take (14 - 14) ++ E.drop (14 + 1) = E := by
            rw [Nat.sub_self, List.take_zero, List.append_nil, List.take_append_drop]
          rw [e]
          exact hL
        obtain ⟨W1, hW1⟩ : ∃ W1, WD = W1 := ⟨_, rfl⟩
        rw [hW1] at hL1 hB hR hb ⊢
        clear hW1 hL
        rename Box W1 g _ _ => hB1
        rename Box W1 G _ _ => hR1
        rename Below w.heap.size w W1 => hb1
        obtain ⟨F, hF⟩ : ∃ F, E.take (14 + 1) ++ (E.drop 14).take (k - 14) ++ E.drop (k + 1) = F := ⟨_, rfl⟩
        rw [hF] at hL1 HIN HE1
        clear hF
        try simp only [Act.put, List.setIfInBounds_toArray, List.set_cons_zero, List.set_cons_succ]
        refine wpAnyH_done (by kernel_rfl) ?_ _
        have hpF : 14 < F.length := by have h1 := HP.out; have h2 := HE1.out; omega
        obtain ⟨y, hy⟩ : ∃ y, F[14] = y := ⟨_, rfl⟩
        have hc9 := hL1.cell 14 _ (mI_at F 14 hpF)
        rw [hy] at hc9
        have hf9 := hL1.free 14
        clear hy hpF
        have hL2 := hL1.set 14 (.int .i64 z)
        rw [mI_set] at hL2
        have hB2 := hB1.other (show g ≠ G + 1 by omega) 14 (.int .i64 z)
        have hR2 := hR1.other (show G ≠ G + 1 by omega) 14 (.int .i64 z)
        have hb2 := hb1.setCell (p := ⟨G + 1, 14, none⟩) (show w.heap.size ≤ G + 1 by omega) (.int .i64 z)
        go_upto_region 8 with fail
        generalize W1.setCell ⟨G + 1, 14, none⟩ (.int .i64 z) = W3 at *
        clear hc9 hf9 hB1 hR1 hL1 hb1
        have HL := hid (show (F.set 14 z).length = 15 by rw [List.length_set]; exact HE1.out)
        generalize F.set 14 z = F2 at *
        go_wp2_with fail
        go_roundw
        case rel => exact ⟨k + 1, F2, HK.out, by go_num, HL.out, HIN, hB2, hR2, hL2, hb2⟩
        case measure => (have := HK.out; simp [intOf] <;> omega)
      · have hp14n : ¬ p + 1 = 15 := by omega
        have hp14b : ¬ 15 = p + 1 := by omega
        have hp14c : ¬ (p : Int) + 1 = 15 := by omega
        refine rtake 2 rfl (by rfl) (by kernel_rfl) (by kernel_rfl) (by kernel_rfl) (fun _ _ _ h => h) hS (fun wx hwx => by go_simp; try with_reducible rfl) ?_
        try simp only [Act.put, List.setIfInBounds_toArray, List.set_cons_zero, List.set_cons_succ]
        refine rcall 6 rfl (by kernel_rfl) (by rfl) (fun K' hK => ?_)
        refine RowK.op_copy (K := inK) _ _ _ _ 3 rfl (G + 1) (p + 1) (14 - p) (14 - p) ⟨G + 1, p, none⟩ (k - p) (15 - p) ((E.drop p).take (k - p)) (by rfl) (by rfl) Try.underlying22 (by kernel_rfl) (by have := HP.out; rw [List.length_take, List.length_drop]; show _ = min _ _; omega) (fun j v hj => by rw [mI_cells] at hj; rw [Addr.add_plain]; exact hL.cell _ _ (mid_src hj)) (hL.there _ _ (by have := HP.out; rw [mI_cells, mI_length, mI_length, List.length_take, List.length_drop]; omega)) ?_
        obtain ⟨W1, hW1, hL1, hb1, hO⟩ := ins_copied HP.out.2.2 HP.out.1 HP.out.2.1 hL hb (by omega)
        rw [← hW1]
        have hB1 := hO g _ _ (by omega) hB
        have hR1 := hO G _ _ (by omega) hR
        refine hK.out _ _ True.intro ?_
        clear hK K' hS hW1 hL hb hB hR hO
        obtain ⟨F, hF⟩ : ∃ F, E.take (p + 1) ++ (E.drop p).take (k - p) ++ E.drop (k + 1) = F := ⟨_, rfl⟩
        rw [hF] at hL1 HIN HE1
        clear hF
        try simp only [Act.put, List.setIfInBounds_toArray, List.set_cons_zero, List.set_cons_succ]
        refine wpAnyH_done (by kernel_rfl) ?_ _
        have hpF : p < F.length := by have h1 := HP.out; have h2 := HE1.out; omega
        obtain ⟨y, hy⟩ : ∃ y, F[p] = y := ⟨_, rfl⟩
        have hc9 := hL1.cell p _ (mI_at F p hpF)
        rw [hy] at hc9
        have hf9 := hL1.free p
        clear hy hpF
        have hL2 := hL1.set p (.int .i64 z)
        rw [mI_set] at hL2
        have hB2 := hB1.other (show g ≠ G + 1 by omega) p (.int .i64 z)
        have hR2 := hR1.other (show G ≠ G + 1 by omega) p (.int .i64 z)
        have hb2 := hb1.setCell (p := ⟨G + 1, p, none⟩) (show w.heap.size ≤ G + 1 by omega) (.int .i64 z)
        go_upto_region 8 with fail
        generalize W1.setCell ⟨G + 1, p, none⟩ (.int .i64 z) = W3 at *
        clear hc9 hf9 hB1 hR1 hL1 hb1
        have HL := hid (show (F.set p z).length = 15 by rw [List.length_set]; exact HE1.out)
        generalize F.set p z = F2 at *
        go_wp2_with fail
        go_roundw
        case rel => exact ⟨k + 1, F2, HK.out, by go_num, HL.out, HIN, hB2, hR2, hL2, hb2⟩
        case measure => (have := HK.out; simp [intOf] <;> omega)
    · obtain rfl : k = c := by omega
      have hEl : Hid ((E.take l.length).Perm l ∧ (E.take l.length).Pairwise (· ≤ ·)) := hid (by
        have := HE.out
        rw [HC.out]
        rw [show l.take k = l from List.take_of_length_le (by have := HC.out; omega)] at this
        exact this)
      go_wp2_with (first | (guard_target =~ wpList _ _ _ (⟨some 40, _, _, _, _, _⟩ :: _) _ _; refine arrT.load (op := ⟨some 40, .load _ _, _, _, _, _⟩) (by rfl) _ (by rfl) (G + 1) 0 (by rfl) ⟨E, hE15⟩ hL.rangeK ?_) | (guard_target =~ wpList _ _ _ (⟨none, _, _, _, _, _⟩ :: _) _ _; refine arrT.store (op := ⟨none, .store _ _ _, _, _, _, _⟩) (by rfl) _ _ (by rfl) G ⟨E, hE15⟩ ⟨[0, 0, 0, 0, 0, 0, 0, 0, 0, 0, 0, 0, 0, 0, 0], rfl⟩ _ (by rfl) (by rfl) hR ?_))
      exact bodyPost_ret (v := .agg (mI E).toArray) (arrT.result rfl _ _ G _ ⟨E, hE15⟩ rfl (hR.rowK _)) rfl ⟨E, rfl, hE15, hEl.out.1, hEl.out.2, below_setRow hb (by omega) _⟩
end Go.Proofs.Ytcccjjghalajoaa
