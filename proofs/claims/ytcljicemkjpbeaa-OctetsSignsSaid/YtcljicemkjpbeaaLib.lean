/- Words of my own: bytes in memory, kept facts, results. -/
import Derived.Test.YtcljicemkjpbeaaProg
import Derived.WalkKit
import Derived.WalkLawsBesides
import Derived.WalkSpells
import Derived.Laws.CopyOwn
import Derived.Deep.RegionHeld3
import Derived.Deep.DeepCutAuto
namespace Go.Proofs.Ytcljicemkjpbeaa
open Go.RowKit Go.Proofs
set_option linter.unusedVariables false

theorem hid {p : Prop} (h : p) : Hid p := h

/-- A scope in which the run jumps back to one label: the walk ahead of the label ends at the label, with J. -/
theorem wp_scope_loop {P : Program} {a : Act} {w : World} {Q : Exit → Act → World → Prop} {c X : Code} (l : Nat) (J : Act → World → Prop) (μ : Act → World → Nat) (hf : findLabel c l = some (.seq .skip X))
    (pass : ∀ a w, J a w → X.wp P (Exit.jump l (fun a' w' => J a' w' ∧ μ a' w' < μ a w) Q) a w)
    (first : ∀ Q', Hid (Q' = Exit.jump l J Q) → (∀ a w, J a w → X.wp P Q' a w) → c.wp P Q' a w) : (Code.scope c).wp P Q a w := by
  have hm : ∀ a w, J a w → X.wp P (Exit.jump l J Q) a w := by
    intro a w hJ
    refine wp_mono (pass a w hJ) ?_
    intro e a' w' h
    cases e <;> first | exact h | exact ⟨h.1, h.2.1⟩
  exact wp_scope_jumps l J μ hf (first _ rfl hm) fun a w hJ => wp_seq (wp_skip (pass a w hJ))

/-- The walk stands at the label: what holds there lets it go on. -/
theorem at_label {P : Program} {l : Nat} {X : Code} {K : Act → World → Prop} {Q' : Exit → Act → World → Prop} {J : Act → World → Prop} {a : Act} {w : World}
    (hpass : ∀ a w, J a w → X.wp P Q' a w) (hK : ∀ a w, X.wp P Q' a w → K a w) (hJ : J a w) : (Code.label l).wp P (Exit.then K Q') a w :=
  wp_label (hK _ _ (hpass _ _ hJ))

theorem ret_int {k : IntKind} {a b : Int} (h : a = b) : Ending.returned (.int k a) = .returned (.int k b) := by rw [h]

abbrev bv (c : UInt8) : Value := .int .u8 (c.toNat : Int)

theorem ret_int_bool {k : IntKind} {a b : Int} {x y : Bool} (h : a = b) (h' : x = y) : Ending.returned (.tuple #[.int k a, .bool x]) = .returned (.tuple #[.int k b, .bool y]) := by rw [h, h']
theorem ret_bool {a b : Bool} (h : a = b) : Ending.returned (.bool a) = .returned (.bool b) := by rw [h]

/-- p leads to the bytes l. -/
def BytesAt (w : World) (p : Option Addr) (l : List UInt8) : Prop :=
  l = [] ∨ ∃ b off, p = some ⟨b, off, none⟩ ∧ b < w.heap.size ∧ ∀ i (h : i < l.length), w.cell? ⟨b, off + i, none⟩ = some (bv l[i])

/-- The slice value v reads as the bytes l. -/
def Bytes (w : World) (v : Value) (l : List UInt8) : Prop :=
  ∃ p cap, v = .slice p l.length cap ∧ l.length ≤ cap ∧ cap ≤ maxLen ∧ BytesAt w p l

theorem Bytes.nil (w : World) : Bytes w (.slice none 0 0) [] := ⟨none, 0, rfl, Nat.le_refl _, Nat.zero_le _, .inl rfl⟩

theorem BytesAt.pos {w : World} {p : Option Addr} {l : List UInt8} (h : BytesAt w p l) (hl : 0 < l.length) :
    ∃ b off, p = some ⟨b, off, none⟩ ∧ b < w.heap.size ∧ ∀ i (h : i < l.length), w.cell? ⟨b, off + i, none⟩ = some (bv l[i]) := by
  rcases h with rfl | h
  · simp at hl
  · exact h

theorem BytesAt.below {w w' : World} {p : Option Addr} {l : List UInt8} (h : BytesAt w p l) (hb : Below w.heap.size w w') : BytesAt w' p l := by
  rcases h with h | ⟨b, off, rfl, hlt, hc⟩
  · exact .inl h
  · exact .inr ⟨b, off, rfl, Nat.lt_of_lt_of_le hlt hb.size, fun i hi => by rw [hb.cell (p := ⟨b, off + i, none⟩) hlt]; exact hc i hi⟩

theorem Bytes.below {w w' : World} {v : Value} {l : List UInt8} (h : Bytes w v l) (hb : Below w.heap.size w w') : Bytes w' v l := by
  obtain ⟨p, cap, rfl, h1, h2, h3⟩ := h
  exact ⟨p, cap, rfl, h1, h2, h3.below hb⟩

/-- A piece of bytes. -/
theorem Bytes.cut {w : World} {b off cap : Nat} {l : List UInt8} (A m c : Nat) (hlt : b < w.heap.size) (hc : ∀ i (h : i < l.length), w.cell? ⟨b, off + i, none⟩ = some (bv l[i])) (hfit : A + m ≤ l.length) (hcap : l.length ≤ cap) (hmax : cap ≤ maxLen) (hcc : c = cap - A) :
    Bytes w (.slice (some ⟨b, off + A, none⟩) m c) ((l.drop A).take m) := by
  have hlen : ((l.drop A).take m).length = m := by rw [List.length_take, List.length_drop]; omega
  refine ⟨some ⟨b, off + A, none⟩, c, by rw [hlen], by omega, by omega, .inr ⟨b, off + A, rfl, hlt, fun i hi => ?_⟩⟩
  have h := hc (A + i) (by omega)
  rw [← Nat.add_assoc] at h
  rw [h]
  congr 2
  rw [List.getElem_take, List.getElem_drop]

/-- 'string(v)'. -/
theorem Bytes.str {w : World} {v : Value} {l : List UInt8} (h : Bytes w v l) :
    (convert 22 9 v).run Try.prog w = .ok (.string ⟨l.toArray⟩) w := by
  obtain ⟨p, cap, rfl, _, _, hat⟩ := h
  rcases hat with rfl | ⟨b, off, rfl, _, hc⟩
  · cases p with
    | none => exact run_convert_bytes_nil w 22 5 Try.underlying22 Try.underlying5 _ _ _ Try.underlying9
    | some a =>
      have hl : (loadCells a 0).run Try.prog w = .ok #[] w := by simpa using run_loadCells_list (P := Try.prog) w a [] (by simp)
      rw [run_convert_bytes_string w 22 9 5 _ _ _ Try.underlying22 Try.underlying5 Try.underlying9, List.length_nil, run_bytesToString w a 0 cap [] (by simpa using hl)]
      rfl
  · have h := run_convert_bytes_arg (P := Try.prog) w 22 5 Try.underlying22 Try.underlying5 b off l.length cap (l.map fun c => (c.toNat : Int)) (by simp)
      (fun i hi => by rw [hc i hi]; simp [hi]) _ Try.underlying9
    rw [h]
    congr 2
    unfold strOfNums
    congr 1
    rw [List.map_map]
    congr 1
    simp [Function.comp_def]

/-- One call behind the other. -/
theorem bnext {w w1 w2 : World} (h : Below w.heap.size w w1) (k : Below w1.heap.size w1 w2) : Below w.heap.size w w2 := h.trans (k.mono h.size)
theorem bnew (w : World) (o : Obj) : Below w.heap.size w (w.alloc o) := (Below.refl _ _).alloc (Nat.le_refl _) _

/-- .. in every later world. -/
theorem Bytes.strs {w : World} {v : Value} {l : List UInt8} (h : Bytes w v l) :
    ∀ w', Below w.heap.size w w' → (convert 22 9 v).run Try.prog w' = .ok (.string ⟨l.toArray⟩) w' := fun _ hb => (h.below hb).str

theorem bdrew {w w1 : World} (h : Below w.drew.heap.size w.drew w1) : Below w.heap.size w w1 := (Below.drew (Below.refl _ _)).trans h

/-- The slice value v reads as the numbers zs. -/
def IntsAt (w : World) (p : Option Addr) (zs : List Int) : Prop :=
  zs = [] ∨ ∃ b off, p = some ⟨b, off, none⟩ ∧ b < w.heap.size ∧ ∀ i (h : i < zs.length), w.cell? ⟨b, off + i, none⟩ = some (.int .i64 zs[i])
def Ints (w : World) (v : Value) (zs : List Int) : Prop :=
  ∃ p cap, v = .slice p zs.length cap ∧ zs.length ≤ cap ∧ cap ≤ maxLen ∧ IntsAt w p zs

theorem IntsAt.pos {w : World} {p : Option Addr} {zs : List Int} (h : IntsAt w p zs) (hl : 0 < zs.length) :
    ∃ b off, p = some ⟨b, off, none⟩ ∧ b < w.heap.size ∧ ∀ i (h : i < zs.length), w.cell? ⟨b, off + i, none⟩ = some (.int .i64 zs[i]) := by
  rcases h with rfl | h
  · simp at hl
  · exact h

theorem IntsAt.below {w w' : World} {p : Option Addr} {zs : List Int} (h : IntsAt w p zs) (hb : Below w.heap.size w w') : IntsAt w' p zs := by
  rcases h with h | ⟨b, off, rfl, hlt, hc⟩
  · exact .inl h
  · exact .inr ⟨b, off, rfl, Nat.lt_of_lt_of_le hlt hb.size, fun i hi => by rw [hb.cell (p := ⟨b, off + i, none⟩) hlt]; exact hc i hi⟩

theorem IntsAt.take {w : World} {p : Option Addr} {zs : List Int} (h : IntsAt w p zs) (n : Nat) : IntsAt w p (zs.take n) := by
  rcases h with rfl | ⟨b, off, rfl, hlt, hc⟩
  · exact .inl (by simp)
  · exact .inr ⟨b, off, rfl, hlt, fun i hi => by rw [List.getElem_take]; exact hc i (by rw [List.length_take] at hi; omega)⟩

/-- What is shown under a stronger condition on the worlds holds under a weaker one. -/
theorem wpAnyH_mono {P : Program} {ops : Array Oper} {Q : Exit → Act → World → Prop} {md : Region.Mode} {S S' : World → Prop} (hS : ∀ w, S' w → S w) :
    ∀ (fuel : Nat) (listed : Array Bool) (a : Act) (w : World), wpAnyH P md ops Q S' fuel listed a w → wpAnyH P md ops Q S fuel listed a w
  | 0, _, _, _, h => h
  | fuel + 1, listed, a, w, h => ⟨h.1, fun i hi => wpOp_mono (fun a' w' hh => ⟨hS w' hh.1, wpAnyH_mono hS fuel _ a' w' hh.2⟩) (h.2 i hi)⟩

/-- Number i of a region is taken. -/
theorem rtake {P : Program} {ops : Array Oper} {Q : Exit → Act → World → Prop} {md : Region.Mode} {S : World → Prop} (i : Nat) {oi : Oper} {v : Value} {fuel : Nat} {listed : Array Bool} {a : Act} {w : World}
    (hi : ops.toList[i]? = some oi) (hw : Region.wanted oi (yielded ops a.tmps) = true)
    (hs : Region.noSelect ops = true) (hf : Region.free md ops listed i = true) (hr : (Region.ready md ops listed).contains i = true)
    (hQ : ∀ c a w, Q (.panic c) (a.put oi.dst v) w → Q (.panic c) a w) (hS : S w)
    (hy : ∀ w, S w → (execOp a.eval oi).run P w = .ok (.value v) w)
    (h : wpAnyH P md ops Q S fuel (listed.setIfInBounds i true) (a.put oi.dst v) w) : wpAnyH P md ops Q S (fuel + 1) listed a w :=
  wpAnyH_take (by rw [← Array.getElem?_toList]; exact hi) hs hf hr hQ (.inl ⟨hw, hy⟩) hS h

/-- Number i of a region, its guard says no, is passed over. -/
theorem rpass {P : Program} {ops : Array Oper} {Q : Exit → Act → World → Prop} {md : Region.Mode} {S : World → Prop} (i : Nat) {oi : Oper} {fuel : Nat} {listed : Array Bool} {a : Act} {w : World}
    (hi : ops.toList[i]? = some oi) (hw : Region.wanted oi (yielded ops a.tmps) = false)
    (hs : Region.noSelect ops = true) (hf : Region.free md ops listed i = true) (hr : (Region.ready md ops listed).contains i = true)
    (hQ : ∀ c a w, Q (.panic c) (a.put oi.dst undef) w → Q (.panic c) a w) (hS : S w)
    (h : wpAnyH P md ops Q S fuel (listed.setIfInBounds i true) (a.put oi.dst undef) w) : wpAnyH P md ops Q S (fuel + 1) listed a w :=
  wpAnyH_take (by rw [← Array.getElem?_toList]; exact hi) hs hf hr hQ (.inr ⟨hw, rfl⟩) hS h

/-- Number i of a region, a call, is the only one that may come up. -/
theorem rcall {P : Program} {ops : Array Oper} {Q : Exit → Act → World → Prop} {md : Region.Mode} {S : World → Prop} (i : Nat) {oi : Oper} {fuel : Nat} {listed : Array Bool} {a : Act} {w : World}
    (hi : ops.toList[i]? = some oi) (hr : Region.ready md ops listed = [i]) (hw : Region.wanted oi (yielded ops a.tmps) = true)
    (h : ∀ K' : Act → World → Prop, Shut (∀ a w, S w → wpAnyH P md ops Q S fuel (listed.setIfInBounds i true) a w → K' a w) → oi.wp P a w K' Q) : wpAnyH P md ops Q S (fuel + 1) listed a w :=
  wpAnyH_ready hr (by simp) (AllReadyH.cons (by rw [← Array.getElem?_toList]; exact hi) (fun K hK => by rw [if_pos hw]; exact h K fun a w hS hh => hK.out a w hS fun _ => hh) AllReadyH.nil)

/-- The cells of a row of bytes; a name of its own, so that no rule takes it apart. -/
def cellsOf (l : List UInt8) : List Value := l.map bv
theorem cellsOf_length (l : List UInt8) : (cellsOf l).length = l.length := by simp [cellsOf]
theorem cellsOf_get (l : List UInt8) (i : Nat) (h : i < l.length) : (cellsOf l)[i]? = some (bv l[i]) := by simp [cellsOf, h]
theorem cellsOf_append (a b : List UInt8) : cellsOf (a ++ b) = cellsOf a ++ cellsOf b := by simp [cellsOf]
theorem cellsOf_set (r : List UInt8) (q : Nat) (c : UInt8) (k : Nat) (h : r.length = k) : (cellsOf (r ++ List.replicate (q + 1) 0)).set k (bv c) = cellsOf (r ++ [c] ++ List.replicate q 0) := by
  subst h
  simp [cellsOf, List.replicate_succ]
theorem bv_div (x q : Nat) : Value.int .u8 ((x : Int) / 2 ^ (8 * q) % 256) = bv (UInt8.ofNat (x / 256 ^ q)) := by
  have h1 : (256 : Nat) ^ q = 2 ^ (8 * q) := by rw [show (256 : Nat) = 2 ^ 8 from rfl, ← Nat.pow_mul]
  have h2 : ((UInt8.ofNat (x / 256 ^ q)).toNat : Int) = (x : Int) / 2 ^ (8 * q) % 256 := by
    rw [UInt8.toNat_ofNat', h1]
    simp [Int.natCast_ediv, Int.natCast_pow]
  unfold bv
  rw [h2]
theorem cellsOf_one (l : List UInt8) : ∀ v ∈ cellsOf l, v.oneCell' = true := by
  intro v hv
  simp only [cellsOf, List.mem_map] at hv
  obtain ⟨c, _, rfl⟩ := hv
  rfl

/-- v is a row of bytes of the call's own (blocks from base on), or nil. -/
def Own (w : World) (base : Nat) (v : Value) (l : List UInt8) : Prop := w.ownsRow base 5 1 v l.length (cellsOf l)

theorem Own.nil (w : World) (base : Nat) : Own w base (.slice none 0 0) [] := World.ownsRow_nil w base _ _

/-- A row of the call's own reads as its bytes. -/
theorem Own.bytes {w : World} {base : Nat} {v : Value} {l : List UInt8} (h : Own w base v l) : Bytes w v l := by
  have hlt := World.ownsRow.lt h
  have hcell := @World.ownsRow.cellAt
  rcases id h with ⟨_, ⟨rfl, hn⟩ | ⟨g, cap, cur, rfl, _, _, h3, h4, _⟩⟩
  · obtain rfl : l = [] := List.eq_nil_of_length_eq_zero hn
    exact Bytes.nil w
  · refine ⟨_, _, rfl, h3, h4, .inr ⟨g, 0, rfl, (hlt g rfl).2, fun i hi => ?_⟩⟩
    rw [Nat.zero_add, World.ownsRow.cellAt h i (by omega)]
    exact cellsOf_get l i hi

theorem Own.mono {w : World} {base base' : Nat} {v : Value} {l : List UInt8} (h : Own w base v l) (hb : base' ≤ base) : Own w base' v l := by
  obtain ⟨h1, h2⟩ := h
  refine ⟨h1, ?_⟩
  rcases h2 with h2 | ⟨g, cap, cur, hv, hg, r⟩
  · exact .inl h2
  · exact .inr ⟨g, cap, cur, hv, Nat.le_trans hb hg, r⟩

theorem Own.below {w w' : World} {base : Nat} {v : Value} {l : List UInt8} (h : Own w base v l) (hb : Below w.heap.size w w') : Own w' base v l := by
  obtain ⟨h1, h2⟩ := h
  refine ⟨h1, ?_⟩
  rcases h2 with h2 | ⟨g, cap, cur, hv, hg, hh, r⟩
  · exact .inl h2
  · exact .inr ⟨g, cap, cur, hv, hg, by rw [hb.block g (Array.getElem?_eq_some_iff.1 hh).1]; exact hh, r⟩

theorem below_setRow {B g : Nat} {w0 w : World} (hb : Below B w0 w) (hBg : B ≤ g) (cs : Array Value) : Below B w0 (w.setRow g cs) :=
  hb.trans ⟨rfl, rfl, rfl, by simp [World.setRow], fun k hk => setRow_other w g k cs (by omega)⟩

theorem ownsRow_of_heap {w : World} {base g : Nat} {e : TypeId} {xs : List Value} (n : Nat) (hb : base ≤ g) (hh : w.heap[g]? = some (.cells xs.toArray e (0, 0))) (hl : xs.length = n) (hm : n ≤ maxLen) :
    w.ownsRow base e 1 (.slice (some ⟨g, 0, none⟩) n n) n xs :=
  ⟨by omega, .inr ⟨g, n, xs.toArray, rfl, hb, hh, Nat.le_refl _, hm, by simp [hl], by simp [← hl]⟩⟩

theorem Addr.add_plain (b off j : Nat) : (⟨b, off, none⟩ : Addr).add j = ⟨b, off + j, none⟩ := by unfold Addr.add; split <;> simp_all

/-- 'copy' of bytes to the head of a row that is known whole. -/
theorem run_copy_bytes {P : Program} (w : World) (dT sT ty elem t : TypeId) (hu : P.underlying dT = some (.slice elem)) (hs : (P.info? elem).map (·.size) = some 1)
    (g dCap : Nat) (p : Option Addr) (cap : Nat) (l cur : List UInt8) (hg : w.heap[g]? = some (.cells (cellsOf cur).toArray t (0, 0))) (hle : l.length ≤ cur.length) (hat : BytesAt w p l) :
    ∃ w2, (Builtin.copy_ #[dT, sT] ty #[.slice (some ⟨g, 0, none⟩) cur.length dCap, .slice p l.length cap]).run P w = .ok (.int .i64 (l.length : Int)) w2 ∧
      w2.heap[g]? = some (.cells (cellsOf (l ++ cur.drop l.length)).toArray t (0, 0)) ∧ Below g w w2 ∧ w2.heap.size = w.heap.size := by
  by_cases h0 : l.length = 0
  · obtain rfl : l = [] := List.eq_nil_of_length_eq_zero h0
    exact ⟨w, run_copy_none w dT sT ty elem _ _ _ _ _ _ hu hs (by simp), by simpa using hg, Below.refl _ _, rfl⟩
  · obtain ⟨b, off, rfl, _, hc⟩ := hat.pos (by omega)
    have h := run_copy_row (P := P) w dT sT ty elem g 0 cur.length dCap ⟨b, off, none⟩ l.length cap (cellsOf cur).toArray t (cellsOf l) hu hs hg (by rw [cellsOf_length]; exact (Nat.min_eq_left hle).symm)
      (fun j v hj => by
        have hjl : j < l.length := by
          rcases Nat.lt_or_ge j l.length with h | h
          · exact h
          · rw [List.getElem?_eq_none (by rw [cellsOf_length]; exact h)] at hj; cases hj
        rw [cellsOf_get l j hjl] at hj
        rw [Addr.add_plain, hc j hjl]
        exact hj) (by simp [cellsOf_length, hle]) (cellsOf_one l)
    refine ⟨_, by rw [h, cellsOf_length]; rfl, ?_, below_setRow (Below.refl _ _) (Nat.le_refl _) _, by simp [World.setRow]⟩
    rw [setRow_heap w g _ _ t _ hg]
    simp [cellsOf, List.map_drop]

/-- A row that is written out. -/
theorem Own.lit (w : World) (l : List UInt8) (hl : l.length ≤ maxLen) : Own (w.alloc (.cells (cellsOf l).toArray 5)) w.heap.size (.slice (some ⟨w.heap.size, 0, none⟩) l.length l.length) l :=
  ownsRow_of_heap _ (Nat.le_refl _) (heap_alloc_new w _) (cellsOf_length l) hl

theorem info_u8 : (Try.prog.info? 5).map (fun i => (i.zero, i.size, i.bytes)) = some (some (.int .u8 0), 1, 1) := by kernel_rfl

/-- 'make([]byte, N)'. -/
theorem make_bytes (N : Nat) (hN : N ≤ 281474976710656) (x y : Int) (hx : x = N) (hy : y = N) (w' : World) :
    (Instr.makeSlice 22 (.int .i64 x) (.int .i64 y)).run Try.prog w' = .ok (.slice (some ⟨w'.heap.size, 0, none⟩) N N) (w'.alloc (.cells (cellsOf (List.replicate N 0)).toArray 5)) := by
  subst hx hy
  obtain ⟨i0, hi, hz0, hz1, hz2⟩ := info_parts info_u8
  have h := run_make (P := Try.prog) w' 22 5 i0 _ Try.underlying22 hi hz0 .i64 .i64 (N : Int) (N : Int) (by omega) (by omega) (by rw [hz2]; omega) (by omega)
  rw [h, hz1]
  have e2 : madeCells (Value.cells (.int .u8 0)) (N * 1) = (cellsOf (List.replicate N 0)).toArray := by
    apply Array.ext'
    rw [Nat.mul_one]
    show (madeCells #[_] _).toList = _
    rw [toList_madeCells_one]
    simp [cellsOf]
  rw [Int.toNat_natCast, e2]

theorem Own.cell {w : World} {base g cap n : Nat} {l : List UInt8} (h : Own w base (.slice (some ⟨g, 0, none⟩) n cap) l) (i : Nat) (hi : i < l.length) : w.cell? ⟨g, i, none⟩ = some (bv l[i]) := by
  obtain ⟨h1, ⟨h2, _⟩ | ⟨g', cap', cur, hv, hr⟩⟩ := id h
  · cases h2
  · simp only [Value.slice.injEq, Option.some.injEq, Addr.mk.injEq, and_true] at hv
    obtain ⟨rfl, rfl, rfl⟩ := hv
    rw [World.ownsRow.cellAt h i (by omega)]
    exact cellsOf_get l i hi

theorem Own.free {w : World} {base g cap n : Nat} {l : List UInt8} (h : Own w base (.slice (some ⟨g, 0, none⟩) n cap) l) (i : Nat) : w.frozen? ⟨g, i, none⟩ = false := by
  obtain ⟨h1, ⟨h2, _⟩ | ⟨g', cap', cur, hv, hr⟩⟩ := id h
  · cases h2
  · simp only [Value.slice.injEq, Option.some.injEq, Addr.mk.injEq, and_true] at hv
    obtain ⟨rfl, rfl, rfl⟩ := hv
    exact World.ownsRow.frozenAt h i

theorem Own.set {w : World} {base g cap n : Nat} {l : List UInt8} (h : Own w base (.slice (some ⟨g, 0, none⟩) n cap) l) (i : Nat) (c : UInt8) : Own (w.setCell ⟨g, i, none⟩ (bv c)) base (.slice (some ⟨g, 0, none⟩) n cap) (l.set i c) := by
  obtain ⟨h1, ⟨h2, _⟩ | ⟨g', cap', cur, hv, hr⟩⟩ := id h
  · cases h2
  · simp only [Value.slice.injEq, Option.some.injEq, Addr.mk.injEq, and_true] at hv
    obtain ⟨rfl, rfl, rfl⟩ := hv
    have hs := (World.ownsRow.stored h i (bv c)).1
    unfold Own
    rw [List.length_set]
    have e : cellsOf (l.set i c) = (cellsOf l).set i (bv c) := by simp [cellsOf, List.map_set]
    rw [e]
    exact hs

theorem cellsOf_upd (l : List UInt8) (i : Nat) (c : UInt8) : (cellsOf l).set i (.int .u8 (c.toNat : Int)) = cellsOf (l.set i c) := by simp [cellsOf, List.map_set]

theorem u8_eq_zero (c : UInt8) : ((c.toNat : Int) == 0) = (c == 0) := by
  rw [Bool.eq_iff_iff, beq_iff_eq, beq_iff_eq, ← UInt8.toNat_inj]
  show _ ↔ c.toNat = 0
  omega

theorem u8_of_wf {a : Int} (h : (Lit.int .u8 a).wf = true) : ∃ c : UInt8, a = (c.toNat : Int) := by
  have h' : 0 ≤ a ∧ a ≤ 255 := by
    simp only [Lit.wf, Bool.and_eq_true, decide_eq_true_eq] at h
    exact h
  refine ⟨UInt8.ofNat a.toNat, ?_⟩
  rw [UInt8.toNat_ofNat']
  omega

theorem World.ownsRow.elim {w : World} {base : Nat} {e : TypeId} {size : Nat} {v : Value} {n : Nat} {xs : List Value} (h : w.ownsRow base e size v n xs) :
    (v = .slice none 0 0 ∧ n = 0) ∨ ∃ g cap cur, v = .slice (some ⟨g, 0, none⟩) n cap ∧ n ≤ cap ∧ w.heap[g]? = some (.cells cur e (0, 0)) := by
  rcases h.2 with h | ⟨g, cap, cur, hv, _, hg, hn, _⟩
  · exact .inl h
  · exact .inr ⟨g, cap, cur, hv, hn, hg⟩

theorem Own.form {w : World} {base : Nat} {v : Value} {l : List UInt8} (h : Own w base v l) (hl : 0 < l.length) : ∃ g cap, v = .slice (some ⟨g, 0, none⟩) l.length cap ∧ l.length ≤ cap ∧ base ≤ g ∧ cap ≤ maxLen ∧ g < w.heap.size := by
  have hlt := World.ownsRow.lt h
  rcases h.2 with ⟨_, h⟩ | ⟨g, cap, cur, hv, hb, hg, hn, hm, _⟩
  · omega
  · exact ⟨g, cap, hv, hn, hb, hm, (Array.getElem?_eq_some_iff.1 hg).1⟩

/-- 'append(v, x...)', v a row of the call's own or nil. -/
theorem append_bytes (w : World) (base : Nat) (v x : Value) (l m : List UInt8) (hv : Own w base v l) (hx : Bytes w x m) (hbytes : l.length + m.length ≤ 140737488355328) (hbase : base ≤ w.heap.size) :
    ∃ v' w', (Builtin.append_ #[22, 22] 22 #[v, x]).run Try.prog w = .ok v' w' ∧ Own w' base v' (l ++ m) ∧ Below base w w' := by
  obtain ⟨p, cap, rfl, _, _, hat⟩ := hx
  obtain ⟨i0, hi, hz0, hz1, hz2⟩ := info_parts info_u8
  have hlen : (l ++ m).length = l.length + m.length := List.length_append
  cases p with
  | none =>
    obtain rfl : m = [] := by
      rcases hat with h | ⟨b, off, h, _⟩
      · exact h
      · cases h
    refine ⟨v, w, ?_, by simpa using hv, Below.refl _ _⟩
    rcases World.ownsRow.elim hv with ⟨rfl, hn⟩ | ⟨g, cap', cur, rfl, hnc, _⟩
    · simp [Builtin.append_, run_underlying Try.underlying22, sizeOf, typeInfo, hi, Builtin.lenOf, Builtin.firstCells]
    · simp [Builtin.append_, run_underlying Try.underlying22, sizeOf, typeInfo, hi, Builtin.lenOf, Builtin.firstCells, hnc, storeCells]
  | some a =>
    have hnews : ∀ j u, (cellsOf m)[j]? = some u → w.cell? (a.add j) = some u := by
      intro j u hu
      have hj : j < m.length := by
        rcases Nat.lt_or_ge j m.length with h | h
        · exact h
        · rw [List.getElem?_eq_none (by rw [cellsOf_length]; exact h)] at hu; cases hu
      obtain ⟨b, off, he, _, hc⟩ := hat.pos (by omega)
      cases he
      rw [cellsOf_get m j hj] at hu
      rw [Addr.add_plain, hc j hj]
      exact hu
    obtain ⟨v', w', hr, hown, hg, _⟩ := run_append_own (P := Try.prog) w base 22 22 5 i0 _ 1 1 Try.underlying22 hi hz0 hz1 hz2 rfl (by decide) v l.length (cellsOf l) hv a m.length cap (cellsOf m) (by rw [cellsOf_length]; omega) hnews (cellsOf_one m) (by unfold maxLen; omega) (by omega) hbase
    refine ⟨v', w', hr, ?_, ?_⟩
    · unfold Own
      rw [hlen, cellsOf_append]
      exact hown
    · exact (Below.refl base w).grown hg hbase (fun k hk => (World.ownsRow.lt hv k hk).1)

theorem wpList_append_bytes {w : World} {ops : Array Oper} {rest : List Oper} {o : Oper} {a : Act} {Q : Exit → Act → World → Prop} (hgd : o.guard = none) (s x : Operand)
    (ho : o.op = .call { callee := .builtin .append, args := #[s, x], argTypes := #[22, 22] }) (hty : o.type = 22)
    (base : Nat) (v x' : Value) (l m : List UInt8) (hs : a.eval s = v) (hx : a.eval x = x') (hv : Own w base v l) (hX : Bytes w x' m) (hbytes : l.length + m.length ≤ 140737488355328) (hbase : base ≤ w.heap.size)
    (h : ∀ v' w', Own w' base v' (l ++ m) → Below base w w' → wpList Try.prog ops Q rest (a.put o.dst v') w') : wpList Try.prog ops Q (o :: rest) a w :=
  wpList_plain hgd fun K hK => by
    obtain ⟨v', w', hr, h1, h2⟩ := append_bytes w base v x' l m hv hX hbytes hbase
    rw [← hty] at hr
    unfold Oper.wp execOp
    simp only [ho, resolve, invoke, builtin, Sem.run_bind, Sem.run_pure, Result.andThen_ok, List.map_toArray, List.map_cons, List.map_nil, hs, hx, hty]
    rw [hty] at hr
    simp only [hr]
    exact hK _ _ (h v' w' h1 h2)

/-- A new row of bytes is handed back; of what there was nothing has turned. -/
def NewBytes (w : World) (l : List UInt8) (e : Ending) (w' : World) : Prop := ∃ v, e = .returned v ∧ Own w' w.heap.size v l ∧ Below w.heap.size w w'

/-- x's n lowest bytes, the highest first. -/
def putN (x : Nat) : Nat → List UInt8
  | 0 => []
  | n + 1 => UInt8.ofNat (x / 256 ^ n) :: putN x n
theorem putN_length (x n : Nat) : (putN x n).length = n := by induction n <;> simp [putN, *]

/-- What all of l says, the highest byte first, as a uint64. -/
def num (l : List UInt8) : Nat := l.foldl (fun v c => (v * 256 + c.toNat) % 18446744073709551616) 0

theorem num_lt (l : List UInt8) : num l < 18446744073709551616 := by
  unfold num
  rcases List.eq_nil_or_concat l with rfl | ⟨l', c, rfl⟩
  · decide
  · rw [List.concat_eq_append, List.foldl_append]; exact Nat.mod_lt _ (by decide)

theorem num_snoc (l : List UInt8) (c : UInt8) : num (l ++ [c]) = (num l * 256 + c.toNat) % 18446744073709551616 := by
  simp [num, List.foldl_append]

theorem num_small (l : List UInt8) : num l < 256 ^ l.length := by
  unfold num
  suffices h : ∀ (l : List UInt8) (v n : Nat), v < 256 ^ n → l.foldl (fun v c => (v * 256 + c.toNat) % 18446744073709551616) v < 256 ^ (n + l.length) by simpa using h l 0 0 (by decide)
  intro l
  induction l with
  | nil => intro v n h; simpa using h
  | cons c l ih =>
    intro v n h
    have hc : c.toNat < 256 := c.toNat_lt
    have h1 : (v * 256 + c.toNat) % 18446744073709551616 < 256 ^ (n + 1) := by
      refine Nat.lt_of_le_of_lt (Nat.mod_le _ _) ?_
      rw [Nat.pow_succ]
      omega
    have := ih _ (n + 1) h1
    rw [List.foldl_cons, List.length_cons]
    rwa [show n + (l.length + 1) = n + 1 + l.length by omega]

theorem num_step (v : Nat) (c : UInt8) :
    bits BinOp.or IntKind.u64 (IntKind.u64.wrap ((v : Int) * 256)) (IntKind.u64.wrap (c.toNat : Int)) = (((v * 256 + c.toNat) % 18446744073709551616 : Nat) : Int) := by
  have hc : c.toNat < 256 := c.toNat_lt
  have e1 : IntKind.u64.wrap ((v : Int) * 256) = ((v * 256 % 18446744073709551616 : Nat) : Int) := by rw [IntKind.wrap_u64]; omega
  have e2 : IntKind.u64.wrap (c.toNat : Int) = (c.toNat : Int) := by rw [IntKind.wrap_u64]; omega
  rw [e1, e2, bits_or_u64_nat _ _ (Nat.mod_lt _ (by decide)) (by omega), nat_join 8 _ _ (by omega) (by omega)]
  omega

theorem sign_shift (x m : Nat) (h1 : 1 ≤ m) (h8 : m ≤ 8) (hx : x < 256 ^ m) :
    wrap64 (IntKind.u64.wrap ((x : Int) * 2 ^ (64 - 8 * m))) / 2 ^ (64 - 8 * m) = if 2 * x < 256 ^ m then (x : Int) else (x : Int) - 256 ^ m := by
  have hm : m = 1 ∨ m = 2 ∨ m = 3 ∨ m = 4 ∨ m = 5 ∨ m = 6 ∨ m = 7 ∨ m = 8 := by omega
  rcases hm with rfl | rfl | rfl | rfl | rfl | rfl | rfl | rfl
  all_goals
    rw [IntKind.wrap_u64]
    unfold wrap64
    simp only [Nat.reduceMul, Nat.reduceSub, Nat.reducePow, Int.reducePow] at hx ⊢
    split <;> omega

theorem take_snoc {α : Type} (l : List α) (k : Nat) (h : k < l.length) : l.take (k + 1) = l.take k ++ [l[k]] := by
  rw [List.take_succ_eq_append_getElem h]

end Go.Proofs.Ytcljicemkjpbeaa
