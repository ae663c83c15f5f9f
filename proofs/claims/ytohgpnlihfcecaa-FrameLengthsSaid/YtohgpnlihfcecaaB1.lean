/- Base, Num, Lib, App, AppZ, Perm, Chain, Chain2, Row, Place, Hop, CutB, StrB, AppS, OwnZ in one. -/
import Derived.Test.YtohgpnlihfcecaaProg
import Derived.WalkKit
import Derived.WalkLawsBesides
import Derived.WalkSpells
import Derived.Laws.CopyOwn
import Derived.Deep.RegionHeld3
import Derived.Deep.DeepCutAuto
import Derived.Lib.AppendZerosOnto
import Derived.OwnWalk
import Derived.Lib.ConvBytes
import Derived.Lib.AppendStr
import Derived.ArgAppend
namespace Go.Proofs.Ytohgpnlihfcecaa
section
open Go.RowKit Go.Proofs
set_option maxRecDepth 50000
set_option linter.unusedVariables false

theorem hid {p : Prop} (h : p) : Hid p := h

/-- A scope in which the run jumps back to one label: the walk ahead of the label ends at the label, with J. -/
theorem wp_scope_loop {P : Program} {a : Act} {w : World} {Q : Exit → Act → World → Prop} {c X : Code} (l : Nat) (J : Act → World → Prop) (μ : Act → World → Nat) (hf : findLabel c l = some (.seq .skip X))
    (pass : ∀ a w, J a w → X.wp P (Exit.jump l (fun a' w' => J a' w' ∧ μ a' w' < μ a w) Q) a w)
    (first : ∀ Q', Hid (Q' = Exit.jump l J Q) → (∀ a w, J a w → X.wp P Q' a w) → c.wp P Q' a w) : (Code.scope c).wp P Q a w := by
  have hm : ∀ a w, J a w → X.wp P (Exit.jump l J Q) a w := by
    intro a w hJ
    refine wp_mono (pass a w hJ) ?_
    intro e a' w' h
    cases e <;> first | exact h | exact ⟨h.1, h.2.1⟩
  exact wp_scope_jumps l J μ hf (first _ rfl hm) fun a w hJ => wp_seq (wp_skip (pass a w hJ))

/-- The walk stands at the label: what holds there lets it go on. -/
theorem at_label {P : Program} {l : Nat} {X : Code} {K : Act → World → Prop} {Q' : Exit → Act → World → Prop} {J : Act → World → Prop} {a : Act} {w : World}
    (hpass : ∀ a w, J a w → X.wp P Q' a w) (hK : ∀ a w, X.wp P Q' a w → K a w) (hJ : J a w) : (Code.label l).wp P (Exit.then K Q') a w :=
  wp_label (hK _ _ (hpass _ _ hJ))

theorem ret_int {k : IntKind} {a b : Int} (h : a = b) : Ending.returned (.int k a) = .returned (.int k b) := by rw [h]

theorem ret_int_bool {k : IntKind} {a b : Int} {x y : Bool} (h : a = b) (h' : x = y) : Ending.returned (.tuple #[.int k a, .bool x]) = .returned (.tuple #[.int k b, .bool y]) := by rw [h, h']

theorem ret_bool {a b : Bool} (h : a = b) : Ending.returned (.bool a) = .returned (.bool b) := by rw [h]

/-- One call behind the other. -/
theorem bnext {w w1 w2 : World} (h : Below w.heap.size w w1) (k : Below w1.heap.size w1 w2) : Below w.heap.size w w2 := h.trans (k.mono h.size)

theorem bnew (w : World) (o : Obj) : Below w.heap.size w (w.alloc o) := (Below.refl _ _).alloc (Nat.le_refl _) _

theorem bdrew {w w1 : World} (h : Below w.drew.heap.size w.drew w1) : Below w.heap.size w w1 := (Below.drew (Below.refl _ _)).trans h

/-- The slice value v reads as the numbers zs. -/
def IntsAt (w : World) (p : Option Addr) (zs : List Int) : Prop :=
  zs = [] ∨ ∃ b off, p = some ⟨b, off, none⟩ ∧ b < w.heap.size ∧ ∀ i (h : i < zs.length), w.cell? ⟨b, off + i, none⟩ = some (.int .i64 zs[i])

def Ints (w : World) (v : Value) (zs : List Int) : Prop :=
  ∃ p cap, v = .slice p zs.length cap ∧ zs.length ≤ cap ∧ cap ≤ maxLen ∧ IntsAt w p zs

theorem IntsAt.pos {w : World} {p : Option Addr} {zs : List Int} (h : IntsAt w p zs) (hl : 0 < zs.length) :
    ∃ b off, p = some ⟨b, off, none⟩ ∧ b < w.heap.size ∧ ∀ i (h : i < zs.length), w.cell? ⟨b, off + i, none⟩ = some (.int .i64 zs[i]) := by
  rcases h with rfl | h
  · simp at hl
  · exact h

theorem IntsAt.below {w w' : World} {p : Option Addr} {zs : List Int} (h : IntsAt w p zs) (hb : Below w.heap.size w w') : IntsAt w' p zs := by
  rcases h with h | ⟨b, off, rfl, hlt, hc⟩
  · exact .inl h
  · exact .inr ⟨b, off, rfl, Nat.lt_of_lt_of_le hlt hb.size, fun i hi => by rw [hb.cell (p := ⟨b, off + i, none⟩) hlt]; exact hc i hi⟩

theorem IntsAt.take {w : World} {p : Option Addr} {zs : List Int} (h : IntsAt w p zs) (n : Nat) : IntsAt w p (zs.take n) := by
  rcases h with rfl | ⟨b, off, rfl, hlt, hc⟩
  · exact .inl (by simp)
  · exact .inr ⟨b, off, rfl, hlt, fun i hi => by rw [List.getElem_take]; exact hc i (by rw [List.length_take] at hi; omega)⟩

/-- What is shown under a stronger condition on the worlds holds under a weaker one. -/
theorem wpAnyH_mono {P : Program} {ops : Array Oper} {Q : Exit → Act → World → Prop} {md : Region.Mode} {S S' : World → Prop} (hS : ∀ w, S' w → S w) :
    ∀ (fuel : Nat) (listed : Array Bool) (a : Act) (w : World), wpAnyH P md ops Q S' fuel listed a w → wpAnyH P md ops Q S fuel listed a w
  | 0, _, _, _, h => h
  | fuel + 1, listed, a, w, h => ⟨h.1, fun i hi => wpOp_mono (fun a' w' hh => ⟨hS w' hh.1, wpAnyH_mono hS fuel _ a' w' hh.2⟩) (h.2 i hi)⟩

/-- Number i of a region is taken. -/
theorem rtake {P : Program} {ops : Array Oper} {Q : Exit → Act → World → Prop} {md : Region.Mode} {S : World → Prop} (i : Nat) {oi : Oper} {v : Value} {fuel : Nat} {listed : Array Bool} {a : Act} {w : World}
    (hi : ops.toList[i]? = some oi) (hw : Region.wanted oi (yielded ops a.tmps) = true)
    (hs : Region.noSelect ops = true) (hf : Region.free md ops listed i = true) (hr : (Region.ready md ops listed).contains i = true)
    (hQ : ∀ c a w, Q (.panic c) (a.put oi.dst v) w → Q (.panic c) a w) (hS : S w)
    (hy : ∀ w, S w → (execOp a.eval oi).run P w = .ok (.value v) w)
    (h : wpAnyH P md ops Q S fuel (listed.setIfInBounds i true) (a.put oi.dst v) w) : wpAnyH P md ops Q S (fuel + 1) listed a w :=
  wpAnyH_take (by rw [← Array.getElem?_toList]; exact hi) hs hf hr hQ (.inl ⟨hw, hy⟩) hS h

/-- Number i of a region, its guard says no, is passed over. -/
theorem rpass {P : Program} {ops : Array Oper} {Q : Exit → Act → World → Prop} {md : Region.Mode} {S : World → Prop} (i : Nat) {oi : Oper} {fuel : Nat} {listed : Array Bool} {a : Act} {w : World}
    (hi : ops.toList[i]? = some oi) (hw : Region.wanted oi (yielded ops a.tmps) = false)
    (hs : Region.noSelect ops = true) (hf : Region.free md ops listed i = true) (hr : (Region.ready md ops listed).contains i = true)
    (hQ : ∀ c a w, Q (.panic c) (a.put oi.dst undef) w → Q (.panic c) a w) (hS : S w)
    (h : wpAnyH P md ops Q S fuel (listed.setIfInBounds i true) (a.put oi.dst undef) w) : wpAnyH P md ops Q S (fuel + 1) listed a w :=
  wpAnyH_take (by rw [← Array.getElem?_toList]; exact hi) hs hf hr hQ (.inr ⟨hw, rfl⟩) hS h

/-- Number i of a region, a call, is the only one that may come up. -/
theorem rcall {P : Program} {ops : Array Oper} {Q : Exit → Act → World → Prop} {md : Region.Mode} {S : World → Prop} (i : Nat) {oi : Oper} {fuel : Nat} {listed : Array Bool} {a : Act} {w : World}
    (hi : ops.toList[i]? = some oi) (hr : Region.ready md ops listed = [i]) (hw : Region.wanted oi (yielded ops a.tmps) = true)
    (h : ∀ K' : Act → World → Prop, Shut (∀ a w, S w → wpAnyH P md ops Q S fuel (listed.setIfInBounds i true) a w → K' a w) → oi.wp P a w K' Q) : wpAnyH P md ops Q S (fuel + 1) listed a w :=
  wpAnyH_ready hr (by simp) (AllReadyH.cons (by rw [← Array.getElem?_toList]; exact hi) (fun K hK => by rw [if_pos hw]; exact h K fun a w hS hh => hK.out a w hS fun _ => hh) AllReadyH.nil)

theorem below_setRow {B g : Nat} {w0 w : World} (hb : Below B w0 w) (hBg : B ≤ g) (cs : Array Value) : Below B w0 (w.setRow g cs) :=
  hb.trans ⟨rfl, rfl, rfl, by simp [World.setRow], fun k hk => setRow_other w g k cs (by omega)⟩

theorem ownsRow_of_heap {w : World} {base g : Nat} {e : TypeId} {xs : List Value} (n : Nat) (hb : base ≤ g) (hh : w.heap[g]? = some (.cells xs.toArray e (0, 0))) (hl : xs.length = n) (hm : n ≤ maxLen) :
    w.ownsRow base e 1 (.slice (some ⟨g, 0, none⟩) n n) n xs :=
  ⟨by omega, .inr ⟨g, n, xs.toArray, rfl, hb, hh, Nat.le_refl _, hm, by simp [hl], by simp [← hl]⟩⟩

theorem Addr.add_plain (b off j : Nat) : (⟨b, off, none⟩ : Addr).add j = ⟨b, off + j, none⟩ := by unfold Addr.add; split <;> simp_all

theorem u8_eq_zero (c : UInt8) : ((c.toNat : Int) == 0) = (c == 0) := by
  rw [Bool.eq_iff_iff, beq_iff_eq, beq_iff_eq, ← UInt8.toNat_inj]
  show _ ↔ c.toNat = 0
  omega

theorem u8_of_wf {a : Int} (h : (Lit.int .u8 a).wf = true) : ∃ c : UInt8, a = (c.toNat : Int) := by
  have h' : 0 ≤ a ∧ a ≤ 255 := by
    simp only [Lit.wf, Bool.and_eq_true, decide_eq_true_eq] at h
    exact h
  refine ⟨UInt8.ofNat a.toNat, ?_⟩
  rw [UInt8.toNat_ofNat']
  omega

theorem World.ownsRow.elim {w : World} {base : Nat} {e : TypeId} {size : Nat} {v : Value} {n : Nat} {xs : List Value} (h : w.ownsRow base e size v n xs) :
    (v = .slice none 0 0 ∧ n = 0) ∨ ∃ g cap cur, v = .slice (some ⟨g, 0, none⟩) n cap ∧ n ≤ cap ∧ w.heap[g]? = some (.cells cur e (0, 0)) := by
  rcases h.2 with h | ⟨g, cap, cur, hv, _, hg, hn, _⟩
  · exact .inl h
  · exact .inr ⟨g, cap, cur, hv, hn, hg⟩

theorem take_snoc {α : Type} (l : List α) (k : Nat) (h : k < l.length) : l.take (k + 1) = l.take k ++ [l[k]] := by
  rw [List.take_succ_eq_append_getElem h]

theorem u64_of_wf {a : Int} (h : (Lit.int .u64 a).wf = true) : 0 ≤ a ∧ a < 18446744073709551616 := by
  have h' : 0 ≤ a ∧ a ≤ 18446744073709551615 := by
    simp only [Lit.wf, Bool.and_eq_true, decide_eq_true_eq] at h
    exact h
  omega

theorem i64_of_wf {a : Int} (h : (Lit.int .i64 a).wf = true) : -9223372036854775808 ≤ a ∧ a ≤ 9223372036854775807 := by
  simp only [Lit.wf, Bool.and_eq_true, decide_eq_true_eq] at h
  exact h

theorem tmod_bounds (v n : Int) (hn : 0 < n) : -n < v.tmod n ∧ v.tmod n < n := by
  have h1 := Int.lt_tmod_of_pos v hn
  have h2 := Int.tmod_lt_of_pos v hn
  exact ⟨h1, h2⟩

theorem tmod_mod (v n : Int) : (v.tmod n) % n = v % n := by
  rw [Int.tmod_def, Int.sub_mul_emod_self_left]

theorem tmod_neg_emod (v n : Int) (hn : 0 < n) (h : v.tmod n < 0) : v.tmod n + n = v % n := by
  have hb := tmod_bounds v n hn
  have h1 : (v.tmod n + n) % n = v % n := by
    rw [Int.add_emod_right, tmod_mod]
  rw [← h1, Int.emod_eq_of_lt (by omega) (by omega)]

theorem tmod_nonneg_emod (v n : Int) (hn : 0 < n) (h : 0 ≤ v.tmod n) : v.tmod n = v % n := by
  have hb := tmod_bounds v n hn
  have h1 : (v.tmod n) % n = v % n := tmod_mod v n
  rw [← h1, Int.emod_eq_of_lt (by omega) (by omega)]
end

section
open Go.RowKit Go.Proofs
set_option maxRecDepth 50000
set_option linter.unusedVariables false

/-- x's n lowest bytes, the highest first. -/
def putN (x : Nat) : Nat → List UInt8
  | 0 => []
  | n + 1 => UInt8.ofNat (x / 256 ^ n) :: putN x n

theorem putN_length (x n : Nat) : (putN x n).length = n := by induction n <;> simp [putN, *]

/-- What all of l says, the highest byte first, as a uint64. -/
def num (l : List UInt8) : Nat := l.foldl (fun v c => (v * 256 + c.toNat) % 18446744073709551616) 0

theorem num_lt (l : List UInt8) : num l < 18446744073709551616 := by
  unfold num
  rcases List.eq_nil_or_concat l with rfl | ⟨l', c, rfl⟩
  · decide
  · rw [List.concat_eq_append, List.foldl_append]; exact Nat.mod_lt _ (by decide)

theorem num_snoc (l : List UInt8) (c : UInt8) : num (l ++ [c]) = (num l * 256 + c.toNat) % 18446744073709551616 := by
  simp [num, List.foldl_append]

theorem num_small (l : List UInt8) : num l < 256 ^ l.length := by
  unfold num
  suffices h : ∀ (l : List UInt8) (v n : Nat), v < 256 ^ n → l.foldl (fun v c => (v * 256 + c.toNat) % 18446744073709551616) v < 256 ^ (n + l.length) by simpa using h l 0 0 (by decide)
  intro l
  induction l with
  | nil => intro v n h; simpa using h
  | cons c l ih =>
    intro v n h
    have hc : c.toNat < 256 := c.toNat_lt
    have h1 : (v * 256 + c.toNat) % 18446744073709551616 < 256 ^ (n + 1) := by
      refine Nat.lt_of_le_of_lt (Nat.mod_le _ _) ?_
      rw [Nat.pow_succ]
      omega
    have := ih _ (n + 1) h1
    rw [List.foldl_cons, List.length_cons]
    rwa [show n + (l.length + 1) = n + 1 + l.length by omega]

theorem num_step (v : Nat) (c : UInt8) :
    bits BinOp.or IntKind.u64 (IntKind.u64.wrap ((v : Int) * 256)) (IntKind.u64.wrap (c.toNat : Int)) = (((v * 256 + c.toNat) % 18446744073709551616 : Nat) : Int) := by
  have hc : c.toNat < 256 := c.toNat_lt
  have e1 : IntKind.u64.wrap ((v : Int) * 256) = ((v * 256 % 18446744073709551616 : Nat) : Int) := by rw [IntKind.wrap_u64]; omega
  have e2 : IntKind.u64.wrap (c.toNat : Int) = (c.toNat : Int) := by rw [IntKind.wrap_u64]; omega
  rw [e1, e2, bits_or_u64_nat _ _ (Nat.mod_lt _ (by decide)) (by omega), nat_join 8 _ _ (by omega) (by omega)]
  omega

theorem sign_shift (x m : Nat) (h1 : 1 ≤ m) (h8 : m ≤ 8) (hx : x < 256 ^ m) :
    wrap64 (IntKind.u64.wrap ((x : Int) * 2 ^ (64 - 8 * m))) / 2 ^ (64 - 8 * m) = if 2 * x < 256 ^ m then (x : Int) else (x : Int) - 256 ^ m := by
  have hm : m = 1 ∨ m = 2 ∨ m = 3 ∨ m = 4 ∨ m = 5 ∨ m = 6 ∨ m = 7 ∨ m = 8 := by omega
  rcases hm with rfl | rfl | rfl | rfl | rfl | rfl | rfl | rfl
  all_goals
    rw [IntKind.wrap_u64]
    unfold wrap64
    simp only [Nat.reduceMul, Nat.reduceSub, Nat.reducePow, Int.reducePow] at hx ⊢
    split <;> omega

/-- The number that the n bytes from at on say. -/
def numAt (l : List UInt8) (at' n : Nat) : Nat := num ((l.drop at').take n)

theorem num_at_lt (l : List UInt8) (A m : Nat) (h : m ≤ 7) : numAt l A m < 72057594037927936 := by
  unfold numAt
  refine Nat.lt_of_lt_of_le (num_small _) ?_
  refine Nat.le_trans (Nat.pow_le_pow_right (by decide) (show _ ≤ 7 from ?_)) (by decide)
  rw [List.length_take]
  omega

theorem u64_wrap_nonneg (x : Int) : 0 ≤ IntKind.u64.wrap x := by rw [IntKind.wrap_u64]; omega

theorem u64_wrap_toNat (x : Int) : (IntKind.u64.wrap x).toNat = (x % 18446744073709551616).toNat := by rw [IntKind.wrap_u64]

/-- v's n lowest bytes, n cut to from 0 to 8. -/
def putS (x n : Int) : List UInt8 := putN (x % 18446744073709551616).toNat (min (max n 0) 8).toNat

/-- The number that the n bytes from at on say, with its sign. -/
def signedAt (l : List UInt8) (at' n : Nat) : Int := if 2 * numAt l at' n < 256 ^ n then numAt l at' n else (numAt l at' n : Int) - 256 ^ n

open Go.RowKit Go.Proofs

theorem mod_pow_succ (x n : Nat) : x / 256 ^ n % 256 * 256 ^ n + x % 256 ^ n = x % 256 ^ (n + 1) := by
  have h1 : x % 256 ^ (n + 1) = x % (256 ^ n * 256) := by rw [Nat.pow_succ]
  rw [h1, Nat.mod_mul, Nat.mul_comm, Nat.add_comm]

theorem fold_putN (x n : Nat) : ∀ v : Nat, v < 18446744073709551616 → (putN x n).foldl (fun v c => (v * 256 + c.toNat) % 18446744073709551616) v = (v * 256 ^ n + x % 256 ^ n) % 18446744073709551616 := by
  induction n with
  | zero => intro v h; simp [putN, Nat.mod_one, Nat.mod_eq_of_lt h]
  | succ n ih =>
    intro v _
    rw [putN, List.foldl_cons, ih _ (Nat.mod_lt _ (by decide))]
    have hd : (UInt8.ofNat (x / 256 ^ n)).toNat = x / 256 ^ n % 256 := by rw [UInt8.toNat_ofNat']
    rw [hd, ← mod_pow_succ x n, Nat.add_mod, Nat.mul_mod, Nat.mod_mod, ← Nat.mul_mod, ← Nat.add_mod]
    congr 1
    rw [Nat.pow_succ, Nat.add_mul, Nat.mul_assoc, Nat.mul_comm 256 (256 ^ n), Nat.add_assoc]

theorem num_putN (x n : Nat) (h : n ≤ 8) : num (putN x n) = x % 256 ^ n := by
  unfold num
  rw [fold_putN x n 0 (by decide), Nat.zero_mul, Nat.zero_add]
  apply Nat.mod_eq_of_lt
  refine Nat.lt_of_lt_of_le (Nat.mod_lt _ (Nat.pow_pos (by decide))) ?_
  exact Nat.le_trans (Nat.pow_le_pow_right (by decide) h) (by decide)

theorem numAt_putN (a b : List UInt8) (x n A : Nat) (h : n ≤ 8) (hA : a.length = A) : numAt (a ++ (putN x n ++ b)) A n = x % 256 ^ n := by
  unfold numAt
  subst hA
  rw [List.drop_left, List.take_left' (putN_length x n), num_putN x n h]

theorem pow_dvd (n : Nat) (h : n ≤ 8) : (256 : Nat) ^ n ∣ 18446744073709551616 := by
  have : (18446744073709551616 : Nat) = 256 ^ n * 256 ^ (8 - n) := by rw [← Nat.pow_add, show n + (8 - n) = 8 by omega]
  rw [this]
  exact Nat.dvd_mul_right _ _

theorem num_putS (x k : Int) (h0 : 0 ≤ k) (h8 : k ≤ 8) : ((num (putS x k) : Nat) : Int) = x % 256 ^ k.toNat := by
  unfold putS
  rw [show (min (max k 0) 8).toNat = k.toNat by omega, num_putN _ _ (by omega)]
  have hp := pow_dvd k.toNat (by omega)
  have h : ((x % 18446744073709551616).toNat : Int) = x % 18446744073709551616 := Int.toNat_of_nonneg (Int.emod_nonneg _ (by decide))
  rw [Int.natCast_emod, h, Int.natCast_pow]
  have hp' : ((256 : Nat) : Int) ^ k.toNat ∣ 18446744073709551616 := by
    have := Int.ofNat_dvd.2 hp
    simpa [Int.natCast_pow] using this
  exact Int.emod_emod_of_dvd x hp'

theorem putS_length (x k : Int) (h0 : 0 ≤ k) (h8 : k ≤ 8) : (putS x k).length = k.toNat := by
  unfold putS
  rw [putN_length]
  omega

theorem small_putS (x k : Int) (h0 : 0 ≤ k) (h8 : k ≤ 8) : ([] ++ putS x k).length ≤ 140737488355328 := by
  rw [List.nil_append, putS_length x k h0 h8]
  omega

theorem numAt_whole (l : List UInt8) (n : Nat) (h : l.length = n) : numAt l 0 n = num l := by
  subst h
  simp [numAt]

theorem signedAt_putS (x k : Int) (h1 : 1 ≤ k) (h8 : k ≤ 8) (lo : -(256 ^ k.toNat : Int) ≤ 2 * x) (hi : 2 * x < 256 ^ k.toNat) : signedAt ([] ++ putS x k) (Int.toNat 0) k.toNat = x := by
  have hn := num_putS x k (by omega) h8
  have hw : numAt ([] ++ putS x k) (Int.toNat 0) k.toNat = num (putS x k) := numAt_whole _ _ (putS_length x k (by omega) h8)
  have hpos : (0 : Int) < 256 ^ k.toNat := Int.pow_pos (by decide)
  unfold signedAt
  rw [hw]
  generalize hq : (256 : Int) ^ k.toNat = q at *
  have hq' : ((256 ^ k.toNat : Nat) : Int) = q := by rw [← hq]; simp [Int.natCast_pow]
  by_cases hneg : x < 0
  · have e : x % q = x + q := by rw [← Int.add_emod_right, Int.emod_eq_of_lt (by omega) (by omega)]
    rw [e] at hn
    rw [if_neg (by omega)]
    omega
  · have e : x % q = x := Int.emod_eq_of_lt (by omega) (by omega)
    rw [e] at hn
    rw [if_pos (by omega)]
    omega

theorem signedAt_top (x k : Int) (h1 : 1 ≤ k) (h8 : k ≤ 8) (h : 2 * x = 256 ^ k.toNat) : signedAt ([] ++ putS x k) (Int.toNat 0) k.toNat = -x := by
  have hn := num_putS x k (by omega) h8
  have hw : numAt ([] ++ putS x k) (Int.toNat 0) k.toNat = num (putS x k) := numAt_whole _ _ (putS_length x k (by omega) h8)
  have hpos : (0 : Int) < 256 ^ k.toNat := Int.pow_pos (by decide)
  unfold signedAt
  rw [hw]
  generalize hq : (256 : Int) ^ k.toNat = q at *
  have hq' : ((256 ^ k.toNat : Nat) : Int) = q := by rw [← hq]; simp [Int.natCast_pow]
  have e : x % q = x := Int.emod_eq_of_lt (by omega) (by omega)
  rw [e] at hn
  rw [if_neg (by omega)]
  omega

theorem and_mask (n : Int) (j : Nat) (hj : j ≤ 62) : bits .and .i64 n (2 ^ j - 1) = n % 2 ^ j := by
  have hlt : (2 : Nat) ^ j < 2 ^ 63 := Nat.pow_lt_pow_right (by decide) (by omega)
  have hpos : 0 < (2 : Nat) ^ j := Nat.pow_pos (by decide)
  have e1 : ((2 : Int) ^ j - 1) = ((2 ^ j - 1 : Nat) : Int) := by
    rw [Int.natCast_sub (by omega)]
    simp [Int.natCast_pow]
  have hm : (BitVec.ofInt 64 ((2 : Int) ^ j - 1)).toNat = 2 ^ j - 1 := by
    rw [e1, BitVec.toNat_ofInt]
    rw [Int.emod_eq_of_lt (by omega) (by omega)]
    omega
  have key : (BitVec.ofInt 64 n &&& BitVec.ofInt 64 (2 ^ j - 1)).toNat = (n % ((2 ^ 64 : Nat) : Int)).toNat % 2 ^ j := by
    rw [BitVec.toNat_and, BitVec.toNat_ofInt, hm, Nat.and_two_pow_sub_one_eq_mod]
  show IntKind.i64.wrap ((BitVec.ofInt 64 n &&& BitVec.ofInt 64 (2 ^ j - 1)).toNat : Nat) = n % 2 ^ j
  have hd : ((2 ^ j : Nat) : Int) ∣ ((2 ^ 64 : Nat) : Int) := Int.ofNat_dvd.2 (Nat.pow_dvd_pow 2 (by omega))
  have hml : (n % ((2 ^ 64 : Nat) : Int)).toNat % 2 ^ j < 2 ^ j := Nat.mod_lt _ hpos
  have h2 : (((n % ((2 ^ 64 : Nat) : Int)).toNat % 2 ^ j : Nat) : Int) = n % 2 ^ j := by
    rw [Int.natCast_emod, Int.toNat_of_nonneg (Int.emod_nonneg _ (by decide)), Int.emod_emod_of_dvd n hd]
    simp [Int.natCast_pow]
  rw [key, IntKind.wrap_i64, h2]
  have h3 : n % 2 ^ j < 2 ^ 63 := by rw [← h2]; omega
  have h4 : 0 ≤ n % 2 ^ j := by rw [← h2]; omega
  omega

/-- What stands behind one byte. -/
theorem numAt_behind (c : UInt8) (x k : Int) (h0 : 0 ≤ k) (h8 : k ≤ 8) : ((numAt ([c] ++ putS x k) (Int.toNat 1) k.toNat : Nat) : Int) = x % 256 ^ k.toNat := by
  rw [← num_putS x k h0 h8]
  unfold numAt
  rw [show (Int.toNat 1) = 1 from rfl, List.singleton_append, List.drop_succ_cons, List.drop_zero, List.take_of_length_le (by rw [putS_length x k h0 h8]; exact Nat.le_refl _)]

theorem small_behind (c : UInt8) (x k : Int) (h0 : 0 ≤ k) (h8 : k ≤ 8) : ([c] ++ putS x k).length ≤ 140737488355328 := by
  rw [List.length_append, putS_length x k h0 h8]
  simp
  omega

/-- With a sign: the same number, or so much less; in its limits. -/
theorem signedAt_cases (l : List UInt8) (a n : Nat) (u m : Int) (hu : ((numAt l a n : Nat) : Int) = u) (hm : (256 : Int) ^ n = 2 * m) (hlt : u < 2 * m) :
    (signedAt l a n = u ∨ signedAt l a n = u - 2 * m) ∧ -m ≤ signedAt l a n ∧ signedAt l a n < m := by
  have h256 : ((256 ^ n : Nat) : Int) = 2 * m := by rw [← hm]; simp [Int.natCast_pow]
  unfold signedAt
  rw [hm]
  split <;> omega

theorem num_le8 (l : List UInt8) : ((num l : Nat) : Int) < 18446744073709551616 := by have := num_lt l; omega

theorem less_putN (a b : Nat) : ∀ n, Op.bytesLess (putN a n) (putN b n) = decide (a % 256 ^ n < b % 256 ^ n)
  | 0 => by simp [putN, Op.bytesLess, Nat.mod_one]
  | n + 1 => by
    have ha := mod_pow_succ a n
    have hb := mod_pow_succ b n
    have hal : a % 256 ^ n < 256 ^ n := Nat.mod_lt _ (Nat.pow_pos (by decide))
    have hbl : b % 256 ^ n < 256 ^ n := Nat.mod_lt _ (Nat.pow_pos (by decide))
    have hca : (UInt8.ofNat (a / 256 ^ n)).toNat = a / 256 ^ n % 256 := by rw [UInt8.toNat_ofNat']
    have hcb : (UInt8.ofNat (b / 256 ^ n)).toNat = b / 256 ^ n % 256 := by rw [UInt8.toNat_ofNat']
    rw [putN, putN, Op.bytesLess, less_putN a b n, ← ha, ← hb, Bool.eq_iff_iff]
    simp only [Bool.or_eq_true, Bool.and_eq_true, decide_eq_true_eq, beq_iff_eq, UInt8.lt_iff_toNat_lt, ← UInt8.toNat_inj, hca, hcb]
    generalize 256 ^ n = q at *
    generalize a / q % 256 = c at *
    generalize b / q % 256 = d at *
    constructor
    · rintro (h | ⟨rfl, h⟩)
      · have : (c + 1) * q ≤ d * q := Nat.mul_le_mul_right _ h
        rw [Nat.add_mul] at this
        omega
      · omega
    · intro h
      by_cases e : c < d
      · exact .inl e
      · by_cases e2 : c = d
        · subst e2; exact .inr ⟨rfl, by omega⟩
        · have : (d + 1) * q ≤ c * q := Nat.mul_le_mul_right _ (by omega)
          rw [Nat.add_mul] at this
          omega

theorem same_putN (a b : Nat) : ∀ n, (putN a n == putN b n) = decide (a % 256 ^ n = b % 256 ^ n)
  | 0 => by simp [putN, Nat.mod_one]
  | n + 1 => by
    have ha := mod_pow_succ a n
    have hb := mod_pow_succ b n
    have hal : a % 256 ^ n < 256 ^ n := Nat.mod_lt _ (Nat.pow_pos (by decide))
    have hbl : b % 256 ^ n < 256 ^ n := Nat.mod_lt _ (Nat.pow_pos (by decide))
    have hca : (UInt8.ofNat (a / 256 ^ n)).toNat = a / 256 ^ n % 256 := by rw [UInt8.toNat_ofNat']
    have hcb : (UInt8.ofNat (b / 256 ^ n)).toNat = b / 256 ^ n % 256 := by rw [UInt8.toNat_ofNat']
    have e0 : (putN a (n + 1) == putN b (n + 1)) = ((UInt8.ofNat (a / 256 ^ n) == UInt8.ofNat (b / 256 ^ n)) && (putN a n == putN b n)) := rfl
    rw [e0, same_putN a b n, ← ha, ← hb, Bool.eq_iff_iff]
    simp only [Bool.and_eq_true, decide_eq_true_eq, beq_iff_eq, ← UInt8.toNat_inj, hca, hcb]
    generalize 256 ^ n = q at *
    generalize a / q % 256 = c at *
    generalize b / q % 256 = d at *
    constructor
    · rintro ⟨rfl, h⟩
      omega
    · intro h
      have e2 : c = d := by
        rcases Nat.lt_trichotomy c d with e | e | e
        · have : (c + 1) * q ≤ d * q := Nat.mul_le_mul_right _ e
          rw [Nat.add_mul] at this
          omega
        · exact e
        · have : (d + 1) * q ≤ c * q := Nat.mul_le_mul_right _ e
          rw [Nat.add_mul] at this
          omega
      subst e2
      exact ⟨rfl, by omega⟩

/-- A number that has room is its own rest. -/
theorem mod_room (x k : Int) (h0 : 0 ≤ x) (k8 : k ≤ 8) (h1 : x < 256 ^ k.toNat) : ((x % 18446744073709551616).toNat % 256 ^ (min (max k 0) 8).toNat) = x.toNat := by
  by_cases hk : 0 ≤ k
  · have hle : (256 : Nat) ^ k.toNat ≤ 18446744073709551616 := Nat.le_of_dvd (by decide) (pow_dvd k.toNat (by omega))
    have h1' : x.toNat < 256 ^ k.toNat := by
      have : ((x.toNat : Nat) : Int) < ((256 ^ k.toNat : Nat) : Int) := by
        rw [Int.toNat_of_nonneg h0]
        simpa [Int.natCast_pow] using h1
      omega
    rw [show (min (max k 0) 8) = k by omega, Int.emod_eq_of_lt h0 (by omega), Nat.mod_eq_of_lt h1']
  · rw [show k.toNat = 0 by omega] at h1
    have : x = 0 := by simp at h1; omega
    subst this
    simp

theorem less_putS (x y k : Int) (hx : 0 ≤ x) (hy : 0 ≤ y) (h8 : k ≤ 8) (hx1 : x < 256 ^ k.toNat) (hy1 : y < 256 ^ k.toNat) : Op.bytesLess (putS x k) (putS y k) = decide (x < y) := by
  unfold putS
  rw [less_putN, mod_room x k hx h8 hx1, mod_room y k hy h8 hy1, Bool.eq_iff_iff, decide_eq_true_eq, decide_eq_true_eq]
  omega

theorem same_putS (x y k : Int) (hx : 0 ≤ x) (hy : 0 ≤ y) (h8 : k ≤ 8) (hx1 : x < 256 ^ k.toNat) (hy1 : y < 256 ^ k.toNat) : (putS x k == putS y k) = (x == y) := by
  unfold putS
  rw [same_putN, mod_room x k hx h8 hx1, mod_room y k hy h8 hy1, Bool.eq_iff_iff, decide_eq_true_eq, beq_iff_eq]
  omega

/-- The bytes of numbers, one behind the other. -/
def flatS (k : Nat) (zs : List Int) : List UInt8 := zs.flatMap fun z => putS z k

theorem flatS_snoc (k : Nat) (zs : List Int) (z : Int) : flatS k (zs ++ [z]) = flatS k zs ++ putS z k := by simp [flatS]

theorem flatS_length (k : Nat) (h8 : k ≤ 8) (zs : List Int) : (flatS k zs).length = k * zs.length := by
  induction zs with
  | nil => simp [flatS]
  | cons z zs ih =>
    have e : flatS k (z :: zs) = putS z k ++ flatS k zs := rfl
    rw [e, List.length_append, ih, putS_length z k (by omega) (by omega), List.length_cons, Nat.mul_add]
    omega

theorem numAt_flatS (k : Nat) (h8 : k ≤ 8) : ∀ (zs : List Int) (i : Nat) (h : i < zs.length), ((numAt (flatS k zs) (k * i) k : Nat) : Int) = zs[i] % 256 ^ k
  | z :: zs, 0, _ => by
    have h1 := num_putS z k (by omega) (by omega)
    have e : flatS k (z :: zs) = putS z k ++ flatS k zs := rfl
    rw [Int.toNat_natCast] at h1
    rw [e, List.getElem_cons_zero, ← h1]
    unfold numAt
    rw [Nat.mul_zero, List.drop_zero, List.take_left' (by rw [putS_length z k (by omega) (by omega)]; omega)]
  | z :: zs, i + 1, h => by
    have e : flatS k (z :: zs) = putS z k ++ flatS k zs := rfl
    rw [List.getElem_cons_succ, ← numAt_flatS k h8 zs i (by simpa using h), e]
    unfold numAt
    have hl : (putS z k).length = k := by rw [putS_length z k (by omega) (by omega)]; omega
    rw [show k * (i + 1) = (putS z k).length + k * i by rw [hl, Nat.mul_add]; omega, List.drop_length_add_append]

theorem hand_mask (k : Nat) (h7 : k < 7) (z : Int) : bits BinOp.and IntKind.i64 z (wrap64 (wrap64 (2 ^ (8 * (1 + k))) - 1)) = z % 256 ^ (1 + k) := by
  have h := and_mask z (8 * (1 + k)) (by omega)
  have hm : k = 0 ∨ k = 1 ∨ k = 2 ∨ k = 3 ∨ k = 4 ∨ k = 5 ∨ k = 6 := by omega
  have e : wrap64 (wrap64 (2 ^ (8 * (1 + k))) - 1) = 2 ^ (8 * (1 + k)) - 1 := by
    unfold wrap64
    rcases hm with rfl | rfl | rfl | rfl | rfl | rfl | rfl <;> decide
  rw [e, h, show (256 : Int) = 2 ^ 8 by decide, ← Int.pow_mul]

theorem putN_mod (x : Nat) : ∀ (n k : Nat), n ≤ k → putN (x % 256 ^ k) n = putN x n
  | 0, _, _ => rfl
  | n + 1, k, h => by
    rw [putN, putN, putN_mod x n k (by omega)]
    congr 1
    apply UInt8.toNat_inj.1
    rw [UInt8.toNat_ofNat', UInt8.toNat_ofNat']
    have e : (256 : Nat) ^ k = 256 ^ n * 256 ^ (k - n) := by rw [← Nat.pow_add]; congr 1; omega
    rw [e, Nat.mod_mul_right_div_self]
    exact Nat.mod_mod_of_dvd _ (by have := Nat.pow_dvd_pow 256 (show 1 ≤ k - n by omega); simpa using this)

theorem set_last (q : Nat) (c : UInt8) (r : List UInt8) : (List.replicate (q + 1) 0 ++ r).set q c = List.replicate q 0 ++ (c :: r) := by
  rw [List.replicate_succ', List.append_assoc, List.set_append_right _ _ (by simp)]
  simp

theorem i64_wrap_u64 (x : Int) : (IntKind.i64.wrap x % 18446744073709551616).toNat = (x % 18446744073709551616).toNat := by
  rw [IntKind.wrap_i64]
  congr 1
  omega

/-- What PutId puts, GetId gets. -/
theorem numAt_id (x : Int) (h : 0 ≤ x) (h2 : x < 18446744073709551616) : ((numAt ([] ++ putN x.toNat 8) (Int.toNat 0) 8 : Nat) : Int) = x := by
  have e : numAt ([] ++ putN x.toNat 8) (Int.toNat 0) 8 = num (putN x.toNat 8) := numAt_whole _ _ (putN_length _ _)
  rw [e, num_putN _ _ (by decide)]
  rw [Nat.mod_eq_of_lt (by omega)]
  omega
theorem numAt_take (s : List UInt8) (A a n : Nat) (h : a + n ≤ A) : numAt (s.take A) a n = numAt s a n := by
  unfold numAt
  rw [List.drop_take, List.take_take, Nat.min_eq_left (by omega)]

theorem numAt_drop (b : List UInt8) (A B n : Nat) : numAt b (A + B) n = numAt (b.drop A) B n := by
  unfold numAt
  rw [List.drop_drop]
end

section
open Go.RowKit Go.Proofs
set_option maxRecDepth 50000
set_option linter.unusedVariables false

open Go.RowKit Go.Proofs
set_option linter.unusedVariables false

abbrev bv (c : UInt8) : Value := .int .u8 (c.toNat : Int)

/-- p leads to the bytes l. -/
def BytesAt (w : World) (p : Option Addr) (l : List UInt8) : Prop :=
  l = [] ∨ ∃ b off, p = some ⟨b, off, none⟩ ∧ b < w.heap.size ∧ ∀ i (h : i < l.length), w.cell? ⟨b, off + i, none⟩ = some (bv l[i])

/-- The slice value v reads as the bytes l. -/
def Bytes (w : World) (v : Value) (l : List UInt8) : Prop :=
  ∃ p cap, v = .slice p l.length cap ∧ l.length ≤ cap ∧ cap ≤ maxLen ∧ BytesAt w p l

theorem Bytes.nil (w : World) : Bytes w (.slice none 0 0) [] := ⟨none, 0, rfl, Nat.le_refl _, Nat.zero_le _, .inl rfl⟩

theorem BytesAt.pos {w : World} {p : Option Addr} {l : List UInt8} (h : BytesAt w p l) (hl : 0 < l.length) :
    ∃ b off, p = some ⟨b, off, none⟩ ∧ b < w.heap.size ∧ ∀ i (h : i < l.length), w.cell? ⟨b, off + i, none⟩ = some (bv l[i]) := by
  rcases h with rfl | h
  · simp at hl
  · exact h

theorem BytesAt.below {w w' : World} {p : Option Addr} {l : List UInt8} (h : BytesAt w p l) (hb : Below w.heap.size w w') : BytesAt w' p l := by
  rcases h with h | ⟨b, off, rfl, hlt, hc⟩
  · exact .inl h
  · exact .inr ⟨b, off, rfl, Nat.lt_of_lt_of_le hlt hb.size, fun i hi => by rw [hb.cell (p := ⟨b, off + i, none⟩) hlt]; exact hc i hi⟩

theorem Bytes.below {w w' : World} {v : Value} {l : List UInt8} (h : Bytes w v l) (hb : Below w.heap.size w w') : Bytes w' v l := by
  obtain ⟨p, cap, rfl, h1, h2, h3⟩ := h
  exact ⟨p, cap, rfl, h1, h2, h3.below hb⟩

/-- A piece of bytes. -/
theorem Bytes.cut {w : World} {b off cap : Nat} {l : List UInt8} (A m c : Nat) (hlt : b < w.heap.size) (hc : ∀ i (h : i < l.length), w.cell? ⟨b, off + i, none⟩ = some (bv l[i])) (hfit : A + m ≤ l.length) (hcap : l.length ≤ cap) (hmax : cap ≤ maxLen) (hcc : c = cap - A) :
    Bytes w (.slice (some ⟨b, off + A, none⟩) m c) ((l.drop A).take m) := by
  have hlen : ((l.drop A).take m).length = m := by rw [List.length_take, List.length_drop]; omega
  refine ⟨some ⟨b, off + A, none⟩, c, by rw [hlen], by omega, by omega, .inr ⟨b, off + A, rfl, hlt, fun i hi => ?_⟩⟩
  have h := hc (A + i) (by omega)
  rw [← Nat.add_assoc] at h
  rw [h]
  congr 2
  rw [List.getElem_take, List.getElem_drop]

theorem cat_bytes (a b : List UInt8) : (⟨a.toArray⟩ : ByteArray) ++ ⟨b.toArray⟩ = ⟨(a ++ b).toArray⟩ := by
  apply ByteArray.ext
  simp

theorem strOf_bytes (l : List UInt8) : strOfNums (l.map fun c => (c.toNat : Int)) = ⟨l.toArray⟩ := by
  apply ByteArray.ext
  show (List.map _ _).toArray = l.toArray
  congr 1
  rw [List.map_map]
  conv => rhs; rw [← List.map_id l]
  apply List.map_congr_left
  intro c _
  simp

/-- 'string(v)'. -/
theorem Bytes.str {w : World} {v : Value} {l : List UInt8} (h : Bytes w v l) :
    (convert 43 9 v).run Try.prog w = .ok (.string ⟨l.toArray⟩) w := by
  obtain ⟨p, cap, rfl, _, _, hat⟩ := h
  rcases hat with rfl | ⟨b, off, rfl, _, hc⟩
  · cases p with
    | none => exact run_convert_bytes_nil w 43 5 Try.underlying43 Try.underlying5 _ _ _ Try.underlying9
    | some a =>
      have hl : (loadCells a 0).run Try.prog w = .ok #[] w := by simpa using run_loadCells_list (P := Try.prog) w a [] (by simp)
      rw [run_convert_bytes_string w 43 9 5 _ _ _ Try.underlying43 Try.underlying5 Try.underlying9, List.length_nil, run_bytesToString w a 0 cap [] (by simpa using hl)]
      rfl
  · have h := run_convert_bytes_arg (P := Try.prog) w 43 5 Try.underlying43 Try.underlying5 b off l.length cap (l.map fun c => (c.toNat : Int)) (by simp)
      (fun i hi => by rw [hc i hi]; simp [hi]) _ Try.underlying9
    rw [h, strOf_bytes]

/-- .. in every later world. -/
theorem Bytes.strs {w : World} {v : Value} {l : List UInt8} (h : Bytes w v l) :
    ∀ w', Below w.heap.size w w' → (convert 43 9 v).run Try.prog w' = .ok (.string ⟨l.toArray⟩) w' := fun _ hb => (h.below hb).str

/-- The cells of a row of bytes; a name of its own, so that no rule takes it apart. -/
def cellsOf (l : List UInt8) : List Value := l.map bv

theorem cellsOf_length (l : List UInt8) : (cellsOf l).length = l.length := by simp [cellsOf]

theorem cellsOf_get (l : List UInt8) (i : Nat) (h : i < l.length) : (cellsOf l)[i]? = some (bv l[i]) := by simp [cellsOf, h]

theorem cellsOf_append (a b : List UInt8) : cellsOf (a ++ b) = cellsOf a ++ cellsOf b := by simp [cellsOf]

theorem cellsOf_set (r : List UInt8) (q : Nat) (c : UInt8) (k : Nat) (h : r.length = k) : (cellsOf (r ++ List.replicate (q + 1) 0)).set k (bv c) = cellsOf (r ++ [c] ++ List.replicate q 0) := by
  subst h
  simp [cellsOf, List.replicate_succ]

theorem bv_div (x q : Nat) : Value.int .u8 ((x : Int) / 2 ^ (8 * q) % 256) = bv (UInt8.ofNat (x / 256 ^ q)) := by
  have h1 : (256 : Nat) ^ q = 2 ^ (8 * q) := by rw [show (256 : Nat) = 2 ^ 8 from rfl, ← Nat.pow_mul]
  have h2 : ((UInt8.ofNat (x / 256 ^ q)).toNat : Int) = (x : Int) / 2 ^ (8 * q) % 256 := by
    rw [UInt8.toNat_ofNat', h1]
    simp [Int.natCast_ediv, Int.natCast_pow]
  unfold bv
  rw [h2]

theorem cellsOf_one (l : List UInt8) : ∀ v ∈ cellsOf l, v.oneCell' = true := by
  intro v hv
  simp only [cellsOf, List.mem_map] at hv
  obtain ⟨c, _, rfl⟩ := hv
  rfl

/-- v is a row of bytes of the call's own (blocks from base on), or nil. -/
def Own (w : World) (base : Nat) (v : Value) (l : List UInt8) : Prop := w.ownsRow base 5 1 v l.length (cellsOf l)

theorem Own.nil (w : World) (base : Nat) : Own w base (.slice none 0 0) [] := World.ownsRow_nil w base _ _

/-- A row of the call's own reads as its bytes. -/
theorem Own.bytes {w : World} {base : Nat} {v : Value} {l : List UInt8} (h : Own w base v l) : Bytes w v l := by
  have hlt := World.ownsRow.lt h
  have hcell := @World.ownsRow.cellAt
  rcases id h with ⟨_, ⟨rfl, hn⟩ | ⟨g, cap, cur, rfl, _, _, h3, h4, _⟩⟩
  · obtain rfl : l = [] := List.eq_nil_of_length_eq_zero hn
    exact Bytes.nil w
  · refine ⟨_, _, rfl, h3, h4, .inr ⟨g, 0, rfl, (hlt g rfl).2, fun i hi => ?_⟩⟩
    rw [Nat.zero_add, World.ownsRow.cellAt h i (by omega)]
    exact cellsOf_get l i hi

theorem Own.mono {w : World} {base base' : Nat} {v : Value} {l : List UInt8} (h : Own w base v l) (hb : base' ≤ base) : Own w base' v l := by
  obtain ⟨h1, h2⟩ := h
  refine ⟨h1, ?_⟩
  rcases h2 with h2 | ⟨g, cap, cur, hv, hg, r⟩
  · exact .inl h2
  · exact .inr ⟨g, cap, cur, hv, Nat.le_trans hb hg, r⟩

theorem Own.below {w w' : World} {base : Nat} {v : Value} {l : List UInt8} (h : Own w base v l) (hb : Below w.heap.size w w') : Own w' base v l := by
  obtain ⟨h1, h2⟩ := h
  refine ⟨h1, ?_⟩
  rcases h2 with h2 | ⟨g, cap, cur, hv, hg, hh, r⟩
  · exact .inl h2
  · exact .inr ⟨g, cap, cur, hv, hg, by rw [hb.block g (Array.getElem?_eq_some_iff.1 hh).1]; exact hh, r⟩

/-- 'copy' of bytes to the head of a row that is known whole. -/
theorem run_copy_bytes {P : Program} (w : World) (dT sT ty elem t : TypeId) (hu : P.underlying dT = some (.slice elem)) (hs : (P.info? elem).map (·.size) = some 1)
    (g dCap : Nat) (p : Option Addr) (cap : Nat) (l cur : List UInt8) (hg : w.heap[g]? = some (.cells (cellsOf cur).toArray t (0, 0))) (hle : l.length ≤ cur.length) (hat : BytesAt w p l) :
    ∃ w2, (Builtin.copy_ #[dT, sT] ty #[.slice (some ⟨g, 0, none⟩) cur.length dCap, .slice p l.length cap]).run P w = .ok (.int .i64 (l.length : Int)) w2 ∧
      w2.heap[g]? = some (.cells (cellsOf (l ++ cur.drop l.length)).toArray t (0, 0)) ∧ Below g w w2 ∧ w2.heap.size = w.heap.size := by
  by_cases h0 : l.length = 0
  · obtain rfl : l = [] := List.eq_nil_of_length_eq_zero h0
    exact ⟨w, run_copy_none w dT sT ty elem _ _ _ _ _ _ hu hs (by simp), by simpa using hg, Below.refl _ _, rfl⟩
  · obtain ⟨b, off, rfl, _, hc⟩ := hat.pos (by omega)
    have h := run_copy_row (P := P) w dT sT ty elem g 0 cur.length dCap ⟨b, off, none⟩ l.length cap (cellsOf cur).toArray t (cellsOf l) hu hs hg (by rw [cellsOf_length]; exact (Nat.min_eq_left hle).symm)
      (fun j v hj => by
        have hjl : j < l.length := by
          rcases Nat.lt_or_ge j l.length with h | h
          · exact h
          · rw [List.getElem?_eq_none (by rw [cellsOf_length]; exact h)] at hj; cases hj
        rw [cellsOf_get l j hjl] at hj
        rw [Addr.add_plain, hc j hjl]
        exact hj) (by simp [cellsOf_length, hle]) (cellsOf_one l)
    refine ⟨_, by rw [h, cellsOf_length]; rfl, ?_, below_setRow (Below.refl _ _) (Nat.le_refl _) _, by simp [World.setRow]⟩
    rw [setRow_heap w g _ _ t _ hg]
    simp [cellsOf, List.map_drop]

/-- A row that is written out. -/
theorem Own.lit (w : World) (l : List UInt8) (hl : l.length ≤ maxLen) : Own (w.alloc (.cells (cellsOf l).toArray 5)) w.heap.size (.slice (some ⟨w.heap.size, 0, none⟩) l.length l.length) l :=
  ownsRow_of_heap _ (Nat.le_refl _) (heap_alloc_new w _) (cellsOf_length l) hl

theorem info_u8 : (Try.prog.info? 5).map (fun i => (i.zero, i.size, i.bytes)) = some (some (.int .u8 0), 1, 1) := by kernel_rfl

/-- 'make([]byte, N)'. -/
theorem make_bytes (N : Nat) (hN : N ≤ 281474976710656) (x y : Int) (hx : x = N) (hy : y = N) (w' : World) :
    (Instr.makeSlice 43 (.int .i64 x) (.int .i64 y)).run Try.prog w' = .ok (.slice (some ⟨w'.heap.size, 0, none⟩) N N) (w'.alloc (.cells (cellsOf (List.replicate N 0)).toArray 5)) := by
  subst hx hy
  obtain ⟨i0, hi, hz0, hz1, hz2⟩ := info_parts info_u8
  have h := run_make (P := Try.prog) w' 43 5 i0 _ Try.underlying43 hi hz0 .i64 .i64 (N : Int) (N : Int) (by omega) (by omega) (by rw [hz2]; omega) (by omega)
  rw [h, hz1]
  have e2 : madeCells (Value.cells (.int .u8 0)) (N * 1) = (cellsOf (List.replicate N 0)).toArray := by
    apply Array.ext'
    rw [Nat.mul_one]
    show (madeCells #[_] _).toList = _
    rw [toList_madeCells_one]
    simp [cellsOf]
  rw [Int.toNat_natCast, e2]

theorem Own.cell {w : World} {base g cap n : Nat} {l : List UInt8} (h : Own w base (.slice (some ⟨g, 0, none⟩) n cap) l) (i : Nat) (hi : i < l.length) : w.cell? ⟨g, i, none⟩ = some (bv l[i]) := by
  obtain ⟨h1, ⟨h2, _⟩ | ⟨g', cap', cur, hv, hr⟩⟩ := id h
  · cases h2
  · simp only [Value.slice.injEq, Option.some.injEq, Addr.mk.injEq, and_true] at hv
    obtain ⟨rfl, rfl, rfl⟩ := hv
    rw [World.ownsRow.cellAt h i (by omega)]
    exact cellsOf_get l i hi

theorem Own.free {w : World} {base g cap n : Nat} {l : List UInt8} (h : Own w base (.slice (some ⟨g, 0, none⟩) n cap) l) (i : Nat) : w.frozen? ⟨g, i, none⟩ = false := by
  obtain ⟨h1, ⟨h2, _⟩ | ⟨g', cap', cur, hv, hr⟩⟩ := id h
  · cases h2
  · simp only [Value.slice.injEq, Option.some.injEq, Addr.mk.injEq, and_true] at hv
    obtain ⟨rfl, rfl, rfl⟩ := hv
    exact World.ownsRow.frozenAt h i

theorem Own.set {w : World} {base g cap n : Nat} {l : List UInt8} (h : Own w base (.slice (some ⟨g, 0, none⟩) n cap) l) (i : Nat) (c : UInt8) : Own (w.setCell ⟨g, i, none⟩ (bv c)) base (.slice (some ⟨g, 0, none⟩) n cap) (l.set i c) := by
  obtain ⟨h1, ⟨h2, _⟩ | ⟨g', cap', cur, hv, hr⟩⟩ := id h
  · cases h2
  · simp only [Value.slice.injEq, Option.some.injEq, Addr.mk.injEq, and_true] at hv
    obtain ⟨rfl, rfl, rfl⟩ := hv
    have hs := (World.ownsRow.stored h i (bv c)).1
    unfold Own
    rw [List.length_set]
    have e : cellsOf (l.set i c) = (cellsOf l).set i (bv c) := by simp [cellsOf, List.map_set]
    rw [e]
    exact hs

theorem cellsOf_upd (l : List UInt8) (i : Nat) (c : UInt8) : (cellsOf l).set i (.int .u8 (c.toNat : Int)) = cellsOf (l.set i c) := by simp [cellsOf, List.map_set]

theorem Own.form {w : World} {base : Nat} {v : Value} {l : List UInt8} (h : Own w base v l) (hl : 0 < l.length) : ∃ g cap, v = .slice (some ⟨g, 0, none⟩) l.length cap ∧ l.length ≤ cap ∧ base ≤ g ∧ cap ≤ maxLen ∧ g < w.heap.size := by
  have hlt := World.ownsRow.lt h
  rcases h.2 with ⟨_, h⟩ | ⟨g, cap, cur, hv, hb, hg, hn, hm, _⟩
  · omega
  · exact ⟨g, cap, hv, hn, hb, hm, (Array.getElem?_eq_some_iff.1 hg).1⟩

/-- 'append(v, x...)', v a row of the call's own or nil. -/
theorem append_bytes (w : World) (base : Nat) (v x : Value) (l m : List UInt8) (hv : Own w base v l) (hx : Bytes w x m) (hbytes : l.length + m.length ≤ 140737488355328) (hbase : base ≤ w.heap.size) :
    ∃ v' w', (Builtin.append_ #[43, 43] 43 #[v, x]).run Try.prog w = .ok v' w' ∧ Own w' base v' (l ++ m) ∧ Below base w w' := by
  obtain ⟨p, cap, rfl, _, _, hat⟩ := hx
  obtain ⟨i0, hi, hz0, hz1, hz2⟩ := info_parts info_u8
  have hlen : (l ++ m).length = l.length + m.length := List.length_append
  cases p with
  | none =>
    obtain rfl : m = [] := by
      rcases hat with h | ⟨b, off, h, _⟩
      · exact h
      · cases h
    refine ⟨v, w, ?_, by simpa using hv, Below.refl _ _⟩
    rcases World.ownsRow.elim hv with ⟨rfl, hn⟩ | ⟨g, cap', cur, rfl, hnc, _⟩
    · simp [Builtin.append_, run_underlying Try.underlying43, sizeOf, typeInfo, hi, Builtin.lenOf, Builtin.firstCells]
    · simp [Builtin.append_, run_underlying Try.underlying43, sizeOf, typeInfo, hi, Builtin.lenOf, Builtin.firstCells, hnc, storeCells]
  | some a =>
    have hnews : ∀ j u, (cellsOf m)[j]? = some u → w.cell? (a.add j) = some u := by
      intro j u hu
      have hj : j < m.length := by
        rcases Nat.lt_or_ge j m.length with h | h
        · exact h
        · rw [List.getElem?_eq_none (by rw [cellsOf_length]; exact h)] at hu; cases hu
      obtain ⟨b, off, he, _, hc⟩ := hat.pos (by omega)
      cases he
      rw [cellsOf_get m j hj] at hu
      rw [Addr.add_plain, hc j hj]
      exact hu
    obtain ⟨v', w', hr, hown, hg, _⟩ := run_append_own (P := Try.prog) w base 43 43 5 i0 _ 1 1 Try.underlying43 hi hz0 hz1 hz2 rfl (by decide) v l.length (cellsOf l) hv a m.length cap (cellsOf m) (by rw [cellsOf_length]; omega) hnews (cellsOf_one m) (by unfold maxLen; omega) (by omega) hbase
    refine ⟨v', w', hr, ?_, ?_⟩
    · unfold Own
      rw [hlen, cellsOf_append]
      exact hown
    · exact (Below.refl base w).grown hg hbase (fun k hk => (World.ownsRow.lt hv k hk).1)

theorem wpList_append_bytes {w : World} {ops : Array Oper} {rest : List Oper} {o : Oper} {a : Act} {Q : Exit → Act → World → Prop} (hgd : o.guard = none) (s x : Operand)
    (ho : o.op = .call { callee := .builtin .append, args := #[s, x], argTypes := #[43, 43] }) (hty : o.type = 43)
    (base : Nat) (v x' : Value) (l m : List UInt8) (hs : a.eval s = v) (hx : a.eval x = x') (hv : Own w base v l) (hX : Bytes w x' m) (hbytes : l.length + m.length ≤ 140737488355328) (hbase : base ≤ w.heap.size)
    (h : ∀ v' w', Own w' base v' (l ++ m) → Below base w w' → wpList Try.prog ops Q rest (a.put o.dst v') w') : wpList Try.prog ops Q (o :: rest) a w :=
  wpList_plain hgd fun K hK => by
    obtain ⟨v', w', hr, h1, h2⟩ := append_bytes w base v x' l m hv hX hbytes hbase
    rw [← hty] at hr
    unfold Oper.wp execOp
    simp only [ho, resolve, invoke, builtin, Sem.run_bind, Sem.run_pure, Result.andThen_ok, List.map_toArray, List.map_cons, List.map_nil, hs, hx, hty]
    rw [hty] at hr
    simp only [hr]
    exact hK _ _ (h v' w' h1 h2)

/-- A new row of bytes is handed back; of what there was nothing has turned. -/
def NewBytes (w : World) (l : List UInt8) (e : Ending) (w' : World) : Prop := ∃ v, e = .returned v ∧ Own w' w.heap.size v l ∧ Below w.heap.size w w'
end

section
open Go.RowKit Go.Proofs
set_option maxRecDepth 50000
set_option linter.unusedVariables false

/-- Two of a region's operations may come up next. -/
theorem rtwo {P : Program} {ops : Array Oper} {Q : Exit → Act → World → Prop} {md : Region.Mode} {S : World → Prop} (i j : Nat) {oi oj : Oper} {fuel : Nat} {listed : Array Bool} {a : Act} {w : World}
    (hi : ops.toList[i]? = some oi) (hj : ops.toList[j]? = some oj) (hr : Region.ready md ops listed = [i, j]) (hwi : Region.wanted oi (yielded ops a.tmps) = true) (hwj : Region.wanted oj (yielded ops a.tmps) = true)
    (h1 : ∀ K' : Act → World → Prop, Shut (∀ a w, S w → wpAnyH P md ops Q S fuel (listed.setIfInBounds i true) a w → K' a w) → oi.wp P a w K' Q)
    (h2 : ∀ K' : Act → World → Prop, Shut (∀ a w, S w → wpAnyH P md ops Q S fuel (listed.setIfInBounds j true) a w → K' a w) → oj.wp P a w K' Q) : wpAnyH P md ops Q S (fuel + 1) listed a w :=
  wpAnyH_ready hr (by simp) (AllReadyH.cons (by rw [← Array.getElem?_toList]; exact hi) (fun K hK => by rw [if_pos hwi]; exact h1 K fun a w hS hh => hK.out a w hS fun _ => hh)
    (AllReadyH.cons (by rw [← Array.getElem?_toList]; exact hj) (fun K hK => by rw [if_pos hwj]; exact h2 K fun a w hS hh => hK.out a w hS fun _ => hh) AllReadyH.nil))

/-- 'append(v, x...)' as one operation. -/
theorem op_append_bytes {w : World} {o : Oper} {a : Act} {K : Act → World → Prop} {Q : Exit → Act → World → Prop} (s x : Operand)
    (ho : o.op = .call { callee := .builtin .append, args := #[s, x], argTypes := #[43, 43] }) (hty : o.type = 43)
    (base : Nat) (v x' : Value) (l m : List UInt8) (hs : a.eval s = v) (hx : a.eval x = x') (hv : Own w base v l) (hX : Bytes w x' m) (hbytes : l.length + m.length ≤ 140737488355328) (hbase : base ≤ w.heap.size)
    (h : ∀ v' w', Own w' base v' (l ++ m) → Below base w w' → K (a.put o.dst v') w') : o.wp Try.prog a w K Q := by
  obtain ⟨v', w', hr, h1, h2⟩ := append_bytes w base v x' l m hv hX hbytes hbase
  rw [← hty] at hr
  unfold Oper.wp execOp
  simp only [ho, resolve, invoke, builtin, Sem.run_bind, Sem.run_pure, Result.andThen_ok, List.map_toArray, List.map_cons, List.map_nil, hs, hx, hty]
  rw [hty] at hr
  simp only [hr]
  exact h v' w' h1 h2

/-- .. to nil: a row of the world's own. -/
theorem op_append_nil {w : World} {o : Oper} {a : Act} {K : Act → World → Prop} {Q : Exit → Act → World → Prop} (s x : Operand)
    (ho : o.op = .call { callee := .builtin .append, args := #[s, x], argTypes := #[43, 43] }) (hty : o.type = 43)
    (x' : Value) (m : List UInt8) (hs : a.eval s = .slice none 0 0) (hx : a.eval x = x') (hX : Bytes w x' m) (hbytes : m.length ≤ 140737488355328)
    (h : ∀ v' w', Own w' w.heap.size v' m → Below w.heap.size w w' → K (a.put o.dst v') w') : o.wp Try.prog a w K Q :=
  op_append_bytes s x ho hty w.heap.size _ x' [] m hs hx (Own.nil w _) hX (by simp; omega) (Nat.le_refl _) h

theorem lit_later {wd cur : World} (h : Below wd.heap.size wd cur) (l : List UInt8) (hl : l.length ≤ maxLen) : Bytes (cur.alloc (.cells (cellsOf l).toArray 5)) (.slice (some ⟨cur.heap.size, 0, none⟩) l.length l.length) l :=
  (Own.lit cur l hl).bytes

end

section
open Go.RowKit Go.Proofs Go.Lib
set_option maxRecDepth 50000
set_option linter.unusedVariables false
set_option linter.unusedSimpArgs false

theorem zeroCells_u8 (k : Nat) : Builtin.zeroCells (Value.cells (.int .u8 0)) k = (cellsOf (List.replicate k 0)).toArray := by
  apply Array.ext'
  unfold Builtin.zeroCells
  show ((Array.range (k * 1)).map fun i => (#[Value.int .u8 0] : Array Value)[i % 1]!).toList = cellsOf (List.replicate k 0)
  apply List.ext_getElem
  · simp [cellsOf]
  · intro i h1 h2
    simp [cellsOf, Nat.mod_one]

theorem append_zeros (w : World) (base : Nat) (v : Value) (l : List UInt8) (k : Nat) (hv : Own w base v l) (hl0 : 0 < l.length) (hsm : l.length + k ≤ 1000000) (hbase : base ≤ w.heap.size) :
    ∃ v' w', (Builtin.append_ #[43, 3] 43 #[v, .int .i64 (k : Int)]).run Try.prog w = .ok v' w' ∧ Own w' base v' (l ++ List.replicate k 0) ∧ Below base w w' := by
  obtain ⟨i0, hi, hz0, hz1, hz2⟩ := info_parts info_u8
  have hlt := fun k hk => (World.ownsRow.lt hv k hk).1
  have hcells := fun j u hu => World.ownsRow.cells hv (g := (v.ownBlock.getD 0)) (by
    rcases id hv with ⟨_, ⟨_, hn⟩ | ⟨g, cap, cur, rfl, _⟩⟩
    · omega
    · rfl) j u hu
  have hlenr : (cellsOf (l ++ List.replicate k 0)).length = (l ++ List.replicate k 0).length * 1 := by rw [cellsOf_length]; omega
  have hll : (l ++ List.replicate k 0).length = l.length + k := by simp
  obtain ⟨hlen, ⟨_, hn⟩ | ⟨g, cap, cur, rfl, hbg, hg, hnc, hcm, hcs, htake⟩⟩ := id hv
  · omega
  have hw : IntKind.i64.wrap (k : Int) = k := by rw [IntKind.wrap_i64]; omega
  by_cases hroom : l.length + k ≤ cap
  · have hst := run_storeCells_at Try.prog g (l.length * i0.size) 5 (cellsOf (List.replicate k 0)) 0 cur w hg (by rw [cellsOf_length, List.length_replicate, hz1]; omega) (cellsOf_one _)
    simp only [Nat.add_zero] at hst
    rw [hz1, Nat.mul_one] at hst
    refine ⟨.slice (some ⟨g, 0, none⟩) (l.length + k) cap, w.setRow g (cur.toList.take l.length ++ cellsOf (List.replicate k 0) ++ cur.toList.drop (l.length + (cellsOf (List.replicate k 0)).length)).toArray, ?_, ?_, below_setRow (Below.refl _ _) hbg _⟩
    · have hneg : ¬ ((k : Int) < 0) := by omega
      have h48 : ¬ (281474976710656 < (k : Int)) := by omega
      by_cases hk : k = 0
      · subst hk
        simp only [List.replicate_zero, cellsOf, List.map_nil] at hst ⊢
        simp [Builtin.append_, run_underlying Try.underlying43, run_underlying Try.underlying3, sizeOf, typeInfo, hi, asInt, asIntOf, hw, hroom, hz1, hz2, Addr.add_lit, storeCells, hnc, hst, IntKind.wrap_i64]
        have he : w.setRow g cur = w := by
          have := hst
          simp [storeCells] at this
          exact this.symm
        try rw [he]
      · simp [Builtin.append_, run_underlying Try.underlying43, run_underlying Try.underlying3, sizeOf, typeInfo, zeroValue, hi, hz0, asInt, asIntOf, hw, hneg, h48, hk, hroom, hz1, hz2, Addr.add_lit, zeroCells_u8, hst]
    · unfold Own
      rw [hll]
      refine ⟨by rw [cellsOf_length, hll]; omega, .inr ⟨g, cap, _, rfl, hbg, setRow_heap w g cur _ _ _ hg, hroom, hcm, ?_, ?_⟩⟩
      · simp only [List.size_toArray, List.length_append, List.length_take, List.length_drop, Array.length_toList, cellsOf_length, List.length_replicate]
        omega
      · rw [Nat.mul_one] at htake ⊢
        rw [htake, ← cellsOf_append]
        have := hll
        rw [← hll, ← cellsOf_length]
        exact List.take_left
  · have hk : 0 < k := by omega
    have hold : (Builtin.firstCells i0.size l.length (.slice (some ⟨g, 0, none⟩) l.length cap)).run Try.prog w.drew = .ok (cellsOf l).toArray w.drew :=
      run_firstCells_some (P := Try.prog) w.drew i0.size l.length ⟨g, 0, none⟩ l.length cap (cellsOf l) (by rw [cellsOf_length, hz1]; omega) (fun j u hu => hcells j u hu)
    have hr := run_append_grow_zeros (P := Try.prog) w 43 3 43 5 i0 _ .i64 _ Try.underlying43 Try.underlying3 hi hz0 (some ⟨g, 0, none⟩) l.length cap (cellsOf l) hold k hk (by rw [hz1]; decide) (by omega) (by omega) (by rw [hz2]; omega)
      (growslice_fits (by omega) (by rw [hz2]; omega))
    refine ⟨_, _, hr, ?_, ?_⟩
    · have hge := grownCap_ge w (l.length + k) cap 5
      have hcm2 : grownCap w (l.length + k) cap 5 ≤ maxLen := grownCap_le_maxLen w (l.length + k) cap 5 (by unfold maxLen; omega)
      unfold Own
      rw [hll]
      refine ⟨by rw [cellsOf_length, hll]; omega, .inr ⟨w.heap.size, _, _, rfl, hbase, heap_alloc_new w.drew _, hge, hcm2, ?_, ?_⟩⟩
      · rw [zeroCells_u8, zeroCells_u8]
        simp only [Array.size_append, List.size_toArray, cellsOf_length, List.length_replicate]
        omega
      · rw [zeroCells_u8, zeroCells_u8]
        simp only [Array.toList_append, List.append_assoc]
        rw [← List.append_assoc, ← cellsOf_append, Nat.mul_one, ← hll, ← cellsOf_length]
        exact List.take_left
    · exact (Below.drew (Below.refl base w)).alloc hbase _

theorem wpList_append_zeros {w : World} {ops : Array Oper} {rest : List Oper} {o : Oper} {a : Act} {Q : Exit → Act → World → Prop} (hgd : o.guard = none) (s x : Operand)
    (ho : o.op = .call { callee := .builtin .append, args := #[s, x], argTypes := #[43, 3] }) (hty : o.type = 43)
    (base : Nat) (v : Value) (l : List UInt8) (k : Nat) (K : Int) (hs : a.eval s = v) (hx : a.eval x = .int .i64 K) (hK : K = (k : Int)) (hv : Own w base v l) (hl0 : 0 < l.length) (hsm : l.length + k ≤ 1000000) (hbase : base ≤ w.heap.size)
    (h : ∀ v' w', Own w' base v' (l ++ List.replicate k 0) → Below base w w' → wpList Try.prog ops Q rest (a.put o.dst v') w') : wpList Try.prog ops Q (o :: rest) a w := by
  subst hK
  obtain ⟨v', w', hr, h1, h2⟩ := append_zeros w base v l k hv hl0 hsm hbase
  rw [← hty] at hr
  refine wpList_append_run w hgd s x _ _ ho v _ hs hx v' w' ?_ (h v' w' h1 h2)
  rw [hty] at hr ⊢
  exact hr
end

section
open Go.RowKit Go.Proofs
set_option maxRecDepth 50000
set_option linter.unusedVariables false

theorem rthree {P : Program} {ops : Array Oper} {Q : Exit → Act → World → Prop} {md : Region.Mode} {S : World → Prop} (i j k : Nat) {oi oj ok : Oper} {fuel : Nat} {listed : Array Bool} {a : Act} {w : World}
    (hi : ops.toList[i]? = some oi) (hj : ops.toList[j]? = some oj) (hk : ops.toList[k]? = some ok) (hr : Region.ready md ops listed = [i, j, k])
    (hwi : Region.wanted oi (yielded ops a.tmps) = true) (hwj : Region.wanted oj (yielded ops a.tmps) = true) (hwk : Region.wanted ok (yielded ops a.tmps) = true)
    (h1 : ∀ K' : Act → World → Prop, Shut (∀ a w, S w → wpAnyH P md ops Q S fuel (listed.setIfInBounds i true) a w → K' a w) → oi.wp P a w K' Q)
    (h2 : ∀ K' : Act → World → Prop, Shut (∀ a w, S w → wpAnyH P md ops Q S fuel (listed.setIfInBounds j true) a w → K' a w) → oj.wp P a w K' Q)
    (h3 : ∀ K' : Act → World → Prop, Shut (∀ a w, S w → wpAnyH P md ops Q S fuel (listed.setIfInBounds k true) a w → K' a w) → ok.wp P a w K' Q) : wpAnyH P md ops Q S (fuel + 1) listed a w :=
  wpAnyH_ready hr (by simp) (AllReadyH.cons (by rw [← Array.getElem?_toList]; exact hi) (fun K hK => by rw [if_pos hwi]; exact h1 K fun a w hS hh => hK.out a w hS fun _ => hh)
    (AllReadyH.cons (by rw [← Array.getElem?_toList]; exact hj) (fun K hK => by rw [if_pos hwj]; exact h2 K fun a w hS hh => hK.out a w hS fun _ => hh)
    (AllReadyH.cons (by rw [← Array.getElem?_toList]; exact hk) (fun K hK => by rw [if_pos hwk]; exact h3 K fun a w hS hh => hK.out a w hS fun _ => hh) AllReadyH.nil)))

theorem rfour {P : Program} {ops : Array Oper} {Q : Exit → Act → World → Prop} {md : Region.Mode} {S : World → Prop} (i j k l : Nat) {oi oj ok ol : Oper} {fuel : Nat} {listed : Array Bool} {a : Act} {w : World}
    (hi : ops.toList[i]? = some oi) (hj : ops.toList[j]? = some oj) (hk : ops.toList[k]? = some ok) (hl : ops.toList[l]? = some ol) (hr : Region.ready md ops listed = [i, j, k, l])
    (hwi : Region.wanted oi (yielded ops a.tmps) = true) (hwj : Region.wanted oj (yielded ops a.tmps) = true) (hwk : Region.wanted ok (yielded ops a.tmps) = true) (hwl : Region.wanted ol (yielded ops a.tmps) = true)
    (h1 : ∀ K' : Act → World → Prop, Shut (∀ a w, S w → wpAnyH P md ops Q S fuel (listed.setIfInBounds i true) a w → K' a w) → oi.wp P a w K' Q)
    (h2 : ∀ K' : Act → World → Prop, Shut (∀ a w, S w → wpAnyH P md ops Q S fuel (listed.setIfInBounds j true) a w → K' a w) → oj.wp P a w K' Q)
    (h3 : ∀ K' : Act → World → Prop, Shut (∀ a w, S w → wpAnyH P md ops Q S fuel (listed.setIfInBounds k true) a w → K' a w) → ok.wp P a w K' Q)
    (h4 : ∀ K' : Act → World → Prop, Shut (∀ a w, S w → wpAnyH P md ops Q S fuel (listed.setIfInBounds l true) a w → K' a w) → ol.wp P a w K' Q) : wpAnyH P md ops Q S (fuel + 1) listed a w :=
  wpAnyH_ready hr (by simp) (AllReadyH.cons (by rw [← Array.getElem?_toList]; exact hi) (fun K hK => by rw [if_pos hwi]; exact h1 K fun a w hS hh => hK.out a w hS fun _ => hh)
    (AllReadyH.cons (by rw [← Array.getElem?_toList]; exact hj) (fun K hK => by rw [if_pos hwj]; exact h2 K fun a w hS hh => hK.out a w hS fun _ => hh)
    (AllReadyH.cons (by rw [← Array.getElem?_toList]; exact hk) (fun K hK => by rw [if_pos hwk]; exact h3 K fun a w hS hh => hK.out a w hS fun _ => hh)
    (AllReadyH.cons (by rw [← Array.getElem?_toList]; exact hl) (fun K hK => by rw [if_pos hwl]; exact h4 K fun a w hS hh => hK.out a w hS fun _ => hh) AllReadyH.nil))))

/-- A block that is known whole. -/
def Box (w : World) (g : Nat) (xs : List Value) (t : TypeId) : Prop := w.heap[g]? = some (.cells xs.toArray t (0, 0))

theorem Box.lt {w : World} {g : Nat} {xs : List Value} {t : TypeId} (h : Box w g xs t) : g < w.heap.size := (Array.getElem?_eq_some_iff.1 h).1

theorem Box.cell {w : World} {g : Nat} {xs : List Value} {t : TypeId} (h : Box w g xs t) (i : Nat) (v : Value) (hi : xs[i]? = some v) : w.cell? ⟨g, i, none⟩ = some v := by
  unfold Box at h
  simp only [World.cell?, h]
  simpa using hi

theorem Box.below {w w' : World} {g : Nat} {xs : List Value} {t : TypeId} (h : Box w g xs t) (hb : Below w.heap.size w w') : Box w' g xs t := by
  unfold Box
  rw [hb.block g h.lt]
  exact h

theorem Box.new (w : World) (xs : List Value) (t : TypeId) : Box (w.alloc (.cells xs.toArray t)) w.heap.size xs t := heap_alloc_new w _

theorem Box.free {w : World} {g : Nat} {xs : List Value} {t : TypeId} (h : Box w g xs t) (i : Nat) : w.frozen? ⟨g, i, none⟩ = false := by
  unfold Box at h
  simp [World.frozen?, h]

theorem Box.set {w : World} {g : Nat} {xs : List Value} {t : TypeId} (h : Box w g xs t) (i : Nat) (v : Value) : Box (w.setCell ⟨g, i, none⟩ v) g (xs.set i v) t := by
  unfold Box at h ⊢
  rw [heap_setCell_same w g i _ t v h]
  simp

theorem Box.other {w : World} {g : Nat} {xs : List Value} {t : TypeId} (h : Box w g xs t) {k : Nat} (hk : g ≠ k) (i : Nat) (v : Value) : Box (w.setCell ⟨k, i, none⟩ v) g xs t := by
  unfold Box at h ⊢
  rw [heap_setCell_other w _ g v hk]
  exact h
end

section
open Go.RowKit Go.Proofs
set_option maxRecDepth 50000
set_option linter.unusedVariables false

/-- What two ways share is shown once. -/
theorem share {α : Type} {P : α → Prop} {G : α → Prop} {R : Prop} (h1 : (∀ x, P x → G x) → R) (h2 : ∀ x, P x → G x) : R := h1 h2

/-- The first n have come up, of m more none. -/
def upto (n m : Nat) : Array Bool := (List.replicate n true ++ List.replicate m false).toArray

theorem upto_getD (n m k : Nat) (d : Bool) : (upto n m).getD k d = if k < n then true else if k < n + m then false else d := by
  unfold upto
  rw [Array.getD_eq_getD_getElem?, List.getElem?_toArray]
  by_cases h : k < n
  · rw [if_pos h, List.getElem?_append_left (by simpa using h), List.getElem?_replicate, if_pos h]
    rfl
  · rw [if_neg h, List.getElem?_append_right (by simp; omega), List.length_replicate, List.getElem?_replicate]
    by_cases h2 : k < n + m
    · rw [if_pos h2, if_pos (by omega)]
      rfl
    · rw [if_neg h2, if_neg (by omega)]
      rfl

theorem upto_set (n m : Nat) : (upto n (m + 1)).setIfInBounds n true = upto (n + 1) m := by
  unfold upto
  rw [List.setIfInBounds_toArray]
  congr 1
  rw [List.set_append_right _ _ (by simp), List.length_replicate, Nat.sub_self, List.replicate_succ, List.set_cons_zero, List.replicate_succ', List.append_assoc]
  rfl

/-- Each waits for the one ahead of it, and for none behind it. -/
def seqL (md : Region.Mode) : Nat → List Oper → Bool
  | _, [] => true
  | j, o :: rest => o.after.toList.all (fun e => !Region.binds md e || decide (e.on < j)) && o.after.toList.any (fun e => Region.binds md e && e.on + 1 == j) && seqL md (j + 1) rest

def seqB (md : Region.Mode) (i : Nat) : List Oper → Bool
  | [] => true
  | o :: rest => o.after.toList.all (fun e => !Region.binds md e || decide (e.on < i)) && seqL md (i + 1) rest

theorem seqL_at {md : Region.Mode} : ∀ (l : List Oper) (j k : Nat) (o : Oper), seqL md j l = true → l[k]? = some o → ∃ e ∈ o.after, Region.binds md e = true ∧ e.on + 1 = j + k
  | [], _, _, _, _, h => by simp at h
  | x :: rest, j, k, o, hs, h => by
    simp only [seqL, Bool.and_eq_true] at hs
    obtain ⟨⟨h1, h2⟩, h3⟩ := hs
    cases k with
    | zero =>
      cases h
      obtain ⟨e, he, hb⟩ := List.any_eq_true.1 h2
      simp only [Bool.and_eq_true, beq_iff_eq] at hb
      exact ⟨e, by simpa using he, hb.1, hb.2⟩
    | succ k =>
      obtain ⟨e, he, hb, hk⟩ := seqL_at rest (j + 1) k o h3 h
      exact ⟨e, he, hb, by omega⟩

theorem seqL_seqB {md : Region.Mode} {i : Nat} {l : List Oper} (h : seqL md i l = true) : seqB md i l = true := by
  cases l with
  | nil => rfl
  | cons o rest =>
    simp only [seqL, seqB, Bool.and_eq_true] at h ⊢
    exact ⟨h.1.1, h.2⟩

theorem wpAnyH_seq {P : Program} {ops : Array Oper} {Q : Exit → Act → World → Prop} {md : Region.Mode} :
    ∀ (rest : List Oper) (i : Nat) (a : Act) (w : World), ops.toList.drop i = rest → seqB md i rest = true →
      wpList P ops Q rest a w → wpAnyH P md ops Q (fun _ => True) rest.length (upto i rest.length) a w
  | [], i, a, w, hr, hc, h => by
    refine ⟨List.eq_nil_iff_forall_not_mem.2 fun j hj => ?_, h⟩
    have h1 := (mem_ready.1 hj).1
    rw [upto_getD] at h1
    simp only [List.length_nil] at h1
    split at h1
    · cases h1
    · rw [if_neg (by omega)] at h1
      cases h1
  | o :: rest, i, a, w, hr, hc, h => by
    simp only [seqB, Bool.and_eq_true] at hc
    obtain ⟨h1, h2⟩ := hc
    have hi : ops[i]? = some o := by
      rw [← Array.getElem?_toList, ← List.head?_drop, hr]
      rfl
    have hr' : ops.toList.drop (i + 1) = rest := by
      rw [← List.drop_drop, hr]
      rfl
    have ih := fun a w => wpAnyH_seq (P := P) (Q := Q) rest (i + 1) a w hr' (seqL_seqB h2)
    have hmem : i ∈ Region.ready md ops (upto i (rest.length + 1)) := by
      refine mem_ready.2 ⟨?_, o, hi, fun e he hb => ?_⟩
      · rw [upto_getD, if_neg (by omega), if_pos (by omega)]
      · have h3 := List.all_eq_true.1 h1 e (by simpa using he)
        rw [hb] at h3
        have h4 : e.on < i := by simpa using h3
        rw [upto_getD, if_pos h4]
    refine ⟨fun h => (by rw [List.length_cons] at h; rw [h] at hmem; cases hmem), fun j hj => ?_⟩
    have hji : j = i := by
      obtain ⟨h3, oj, hoj, hall⟩ := mem_ready.1 hj
      rw [upto_getD] at h3
      split at h3
      · cases h3
      · rename_i hlt
        rcases Nat.lt_or_ge i j with hij | hij
        · have hk : rest[j - (i + 1)]? = some oj := by
            rw [← hr', List.getElem?_drop, Array.getElem?_toList, show i + 1 + (j - (i + 1)) = j by omega]
            exact hoj
          obtain ⟨e, he, hb, hk2⟩ := seqL_at rest (i + 1) (j - (i + 1)) oj h2 hk
          have h5 := hall e he hb
          rw [upto_getD, if_neg (by omega)] at h5
          split at h5 <;> cases h5
        · omega
    subst hji
    unfold wpOp
    simp only [hi]
    rw [List.length_cons, upto_set]
    unfold wpList at h
    split
    · rename_i hw
      rw [if_pos hw] at h
      exact h.imp (Oper.wp_mono fun a w h => ⟨trivial, ih a w h⟩) id
    · rename_i hw
      rw [if_neg hw] at h
      exact ⟨trivial, ih _ _ h⟩

/-- From number i on there is one order. -/
theorem rchain {P : Program} {ops : Array Oper} {Q : Exit → Act → World → Prop} {md : Region.Mode} (rest : List Oper) (i n : Nat) {listed : Array Bool} {a : Act} {w : World}
    (hr : ops.toList.drop i = rest) (hf : rest.length = n) (hl : listed = upto i n) (hc : seqB md i rest = true) (h : wpList P ops Q rest a w) : wpAnyH P md ops Q (fun _ => True) n listed a w := by
  subst hf hl
  exact wpAnyH_seq rest i a w hr hc h

/-- A region that draws its order, and has but one. -/
theorem rwhole {P : Program} {ops : Array Oper} {Q : Exit → Act → World → Prop} {id : Nat} {a : Act} {w : World} (hm : P.follows .mixedOrders = true)
    (h : wpAnyH P .any ops Q (fun _ => True) ops.size (Array.replicate ops.size false) a w.drew) : (Code.region id ops true).wp P Q a w :=
  wp_region_held hm h

/-- Which have come up, told anew. -/
theorem rlisted {P : Program} {ops : Array Oper} {Q : Exit → Act → World → Prop} {md : Region.Mode} {S : World → Prop} {fuel : Nat} {l : Array Bool} {a : Act} {w : World} (l' : Array Bool) (e : l = l')
    (h : wpAnyH P md ops Q S fuel l' a w) : wpAnyH P md ops Q S fuel l a w := e ▸ h

/-- What is known of some slots. -/
def known? (env : List (Nat × Bool)) (s : Nat) : Option Bool := (env.find? fun x => x.1 == s).map (·.2)

def EnvOk (env : List (Nat × Bool)) (t : Array Value) : Prop := ∀ s b, known? env s = some b → t.getD s undef = .bool b

theorem envNil {t : Array Value} : EnvOk [] t := fun _ _ h => by cases h

theorem envCons {env : List (Nat × Bool)} {t : Array Value} {s : Nat} {b : Bool} (h : t.getD s undef = .bool b) (he : EnvOk env t) : EnvOk ((s, b) :: env) t := by
  intro s' b' h'
  unfold known? at h'
  rw [List.find?_cons] at h'
  by_cases hs : s = s'
  · subst hs
    simp only [beq_self_eq_true] at h'
    cases h'
    exact h
  · have hb : ((s, b).1 == s') = false := beq_false_of_ne hs
    rw [hb] at h'
    exact he s' b' h'

theorem EnvOk.put {env : List (Nat × Bool)} {t : Array Value} {d : Nat} {v : Value} (he : EnvOk env t) (hd : known? env d = none) : EnvOk env (t.setIfInBounds d v) := by
  intro s b h
  have hne : d ≠ s := fun e => by subst e; rw [hd] at h; cases h
  have := he s b h
  rw [Array.getD_eq_getD_getElem?] at this ⊢
  rw [Array.getElem?_setIfInBounds_ne hne]
  exact this

theorem getD_put {t : Array Value} {d : Nat} {v : Value} (hd : d < t.size) : (t.setIfInBounds d v).getD d undef = v := by
  rw [Array.getD_eq_getD_getElem?, Array.getElem?_setIfInBounds_self_of_lt hd]
  rfl

def opK (env : List (Nat × Bool)) : Operand → Option Bool
  | .tmp s => known? env s
  | .const (.bool b) => some b
  | _ => none

theorem opK_eval {env : List (Nat × Bool)} {a : Act} {x : Operand} {b : Bool} (he : EnvOk env a.tmps) (h : opK env x = some b) : a.eval x = .bool b := by
  unfold opK at h
  split at h
  · exact he _ _ h
  · cases h; rfl
  · cases h

/-- Whether an operation is passed over, as far as is known. -/
def offB (ops : Array Oper) (env : List (Nat × Bool)) (o : Oper) : Bool :=
  match o.guard with
  | some (j, b) => match (ops[j]?).bind (·.dst) with
    | some s => known? env s == some (!b)
    | none => false
  | none => false

theorem offB_wanted {ops : Array Oper} {env : List (Nat × Bool)} {t : Array Value} {o : Oper} (he : EnvOk env t) (h : offB ops env o = true) : Region.wanted o (yielded ops t) = false := by
  unfold offB at h
  unfold Region.wanted
  split at h
  · rename_i j b hg
    rw [hg]
    split at h
    · rename_i s hs
      have h2 := he s _ (eq_of_beq h)
      have h3 : t[s]? = some (.bool (!b)) := by
        rw [Array.getD_eq_getD_getElem?] at h2
        cases h4 : t[s]? with
        | none => rw [h4] at h2; cases h2
        | some v => rw [h4] at h2; exact congrArg some h2
      have h5 : yielded ops t j = some (!b) := by
        unfold yielded
        rw [hs]
        simp only [Option.bind_some, h3]
      simp only [h5]
      cases b <;> rfl
    · cases h
  · cases h

/-- An operation that is passed over, or that moves what is known (n slots). -/
def offStep (n : Nat) (ops : Array Oper) (o : Oper) (env : List (Nat × Bool)) : Option (List (Nat × Bool)) :=
  match o.dst with
  | none => none
  | some d =>
    if d < n ∧ (known? env d).isNone = true then
      if offB ops env o = true then some env
      else if o.guard = none then
        match o.op with
        | .move x => (opK env x).map fun b => (d, b) :: env
        | .assign x => (opK env x).map fun b => (d, b) :: env
        | .pick c x y => (opK env c).bind fun b => (opK env (if b then x else y)).map fun b => (d, b) :: env
        | _ => none
      else none
    else none

def offRun (n : Nat) (ops : Array Oper) : List Oper → List (Nat × Bool) → Option (List (Nat × Bool))
  | [], env => some env
  | o :: rest, env => (offStep n ops o env).bind (offRun n ops rest)

theorem wpList_off {P : Program} {n : Nat} {ops : Array Oper} {Q : Exit → Act → World → Prop} {w : World} : ∀ (rest : List Oper) (a : Act) (env env' : List (Nat × Bool)), a.tmps.size = n → EnvOk env a.tmps →
    offRun n ops rest env = some env' → (∀ t' : Array Value, EnvOk env' t' → Q .normal { tmps := t', defers := a.defers } w) → wpList P ops Q rest a w
  | [], a, env, env', hn, he, h, hq => by
    cases h
    exact hq _ he
  | o :: rest, a, env, env', hn, he, h, hq => by
    unfold offRun at h
    obtain ⟨env1, h1, h2⟩ := Option.bind_eq_some_iff.1 h
    clear h
    unfold offStep at h1
    split at h1
    · cases h1
    rename_i d hd
    split at h1
    · rename_i hk
      have hkn : known? env d = none := Option.isNone_iff_eq_none.1 hk.2
      have hput : ∀ v, (a.put o.dst v).tmps = a.tmps.setIfInBounds d v := fun v => by rw [hd]; rfl
      have hdef : ∀ v, (a.put o.dst v).defers = a.defers := fun v => by rw [hd]; rfl
      have go : ∀ (v : Value) (env1 : List (Nat × Bool)), EnvOk env1 (a.tmps.setIfInBounds d v) → offRun n ops rest env1 = some env' → wpList P ops Q rest (a.put o.dst v) w := fun v env1 he1 hr =>
        wpList_off (P := P) rest (a.put o.dst v) env1 env' (by rw [hput, Array.size_setIfInBounds, hn]) (by rw [hput]; exact he1) hr (fun t' ht => by rw [hdef]; exact hq t' ht)
      have new : ∀ b, EnvOk ((d, b) :: env) (a.tmps.setIfInBounds d (.bool b)) := fun b => envCons (getD_put (by rw [hn]; exact hk.1)) (he.put hkn)
      split at h1
      · rename_i hoff
        cases h1
        unfold wpList
        rw [offB_wanted he hoff]
        exact go undef env (he.put hkn) h2
      · split at h1
        · rename_i hg
          have hw : Region.wanted o (yielded ops a.tmps) = true := by unfold Region.wanted; rw [hg]
          unfold wpList
          rw [if_pos hw]
          refine .inl ?_
          split at h1
          · rename_i x hx
            obtain ⟨b, hb, rfl⟩ := Option.map_eq_some_iff.1 h1
            simp only [Oper.wp, execOp, hx, Sem.run_pure, Oper.upon_value, opK_eval he hb]
            exact go _ _ (new b) h2
          · rename_i x hx
            obtain ⟨b, hb, rfl⟩ := Option.map_eq_some_iff.1 h1
            simp only [Oper.wp, execOp, hx, Sem.run_pure, Oper.upon_value, opK_eval he hb]
            exact go _ _ (new b) h2
          · rename_i c x y hx
            obtain ⟨b, hb, h3⟩ := Option.bind_eq_some_iff.1 h1
            obtain ⟨b2, hb2, rfl⟩ := Option.map_eq_some_iff.1 h3
            have hv : (if b = true then a.eval x else a.eval y) = .bool b2 := by
              cases b
              · exact opK_eval he hb2
              · exact opK_eval he hb2
            simp only [Oper.wp, execOp, hx, opK_eval he hb, asBool, Sem.run_bind, Result.andThen_ok, Sem.run_pure, Oper.upon_value, hv]
            exact go _ _ (new b2) h2
          · cases h1
        · cases h1
    · cases h1

/-- Of what is left of a region all is passed over, or moves what is known: what is then known of slot k. -/
theorem wpList_tail {P : Program} {ops : Array Oper} {Q : Exit → Act → World → Prop} {w : World} {rest : List Oper} {a : Act} (n : Nat) (k : Tmp) (b : Bool) (env : List (Nat × Bool)) (hn : a.tmps.size = n) (he : EnvOk env a.tmps)
    (h : (offRun n ops rest env).bind (known? · k) = some b) (hq : ∀ t' : Array Value, t'.getD k undef = .bool b → Q .normal { tmps := t', defers := a.defers } w) : wpList P ops Q rest a w := by
  obtain ⟨env', h1, h2⟩ := Option.bind_eq_some_iff.1 h
  exact wpList_off rest a env env' hn he h1 fun t' ht => hq t' (ht _ _ h2)

theorem goK {Pre K : Act → World → Prop} {a : Act} {w : World} (h : ∀ a w, Pre a w → K a w) (hp : Pre a w) : K a w := h _ _ hp
end

section
open Go.RowKit Go.Proofs
set_option maxRecDepth 50000
set_option linter.unusedVariables false

theorem share2 {α β : Type} {P : α → β → Prop} {G : α → β → Prop} {R : Prop} (h1 : (∀ x y, P x y → G x y) → R) (h2 : ∀ x y, P x y → G x y) : R := h1 h2

theorem share4 {α β γ δ : Type} {P : α → β → Prop} {G : α → β → γ → δ → Prop} {R : Prop} (h1 : (∀ x y z u, P x y → G x y z u) → R) (h2 : ∀ x y z u, P x y → G x y z u) : R := h1 h2

/-- 'append(v, x...)', v a row of the call's own or nil: no block but v's own is another one. -/
theorem append_bytes_keep (w : World) (base : Nat) (v x : Value) (l m : List UInt8) (hv : Own w base v l) (hx : Bytes w x m) (hbytes : l.length + m.length ≤ 140737488355328) (hbase : base ≤ w.heap.size) :
    ∃ v' w', (Builtin.append_ #[43, 43] 43 #[v, x]).run Try.prog w = .ok v' w' ∧ Own w' base v' (l ++ m) ∧ w.grownBy w' v.ownBlock ∧ Below base w w' := by
  obtain ⟨p, cap, rfl, _, _, hat⟩ := hx
  obtain ⟨i0, hi, hz0, hz1, hz2⟩ := info_parts info_u8
  have hlen : (l ++ m).length = l.length + m.length := List.length_append
  cases p with
  | none =>
    obtain rfl : m = [] := by
      rcases hat with h | ⟨b, off, h, _⟩
      · exact h
      · cases h
    refine ⟨v, w, ?_, by simpa using hv, ⟨rfl, rfl, rfl, Nat.le_refl _, fun _ _ _ => rfl⟩, Below.refl _ _⟩
    rcases World.ownsRow.elim hv with ⟨rfl, hn⟩ | ⟨g, cap', cur, rfl, hnc, _⟩
    · simp [Builtin.append_, run_underlying Try.underlying43, sizeOf, typeInfo, hi, Builtin.lenOf, Builtin.firstCells]
    · simp [Builtin.append_, run_underlying Try.underlying43, sizeOf, typeInfo, hi, Builtin.lenOf, Builtin.firstCells, hnc, storeCells]
  | some a =>
    have hnews : ∀ j u, (cellsOf m)[j]? = some u → w.cell? (a.add j) = some u := by
      intro j u hu
      have hj : j < m.length := by
        rcases Nat.lt_or_ge j m.length with h | h
        · exact h
        · rw [List.getElem?_eq_none (by rw [cellsOf_length]; exact h)] at hu; cases hu
      obtain ⟨b, off, he, _, hc⟩ := hat.pos (by omega)
      cases he
      rw [cellsOf_get m j hj] at hu
      rw [Addr.add_plain, hc j hj]
      exact hu
    obtain ⟨v', w', hr, hown, hg, _⟩ := run_append_own (P := Try.prog) w base 43 43 5 i0 _ 1 1 Try.underlying43 hi hz0 hz1 hz2 rfl (by decide) v l.length (cellsOf l) hv a m.length cap (cellsOf m) (by rw [cellsOf_length]; omega) hnews (cellsOf_one m) (by unfold maxLen; omega) (by omega) hbase
    refine ⟨v', w', hr, ?_, hg, ?_⟩
    · unfold Own
      rw [hlen, cellsOf_append]
      exact hown
    · exact (Below.refl base w).grown hg hbase (fun k hk => (World.ownsRow.lt hv k hk).1)

theorem op_append_keep {w : World} {o : Oper} {a : Act} {K : Act → World → Prop} {Q : Exit → Act → World → Prop} (s x : Operand)
    (ho : o.op = .call { callee := .builtin .append, args := #[s, x], argTypes := #[43, 43] }) (hty : o.type = 43)
    (base : Nat) (v x' : Value) (l m : List UInt8) (hs : a.eval s = v) (hx : a.eval x = x') (hv : Own w base v l) (hX : Bytes w x' m) (hbytes : l.length + m.length ≤ 140737488355328) (hbase : base ≤ w.heap.size)
    (h : ∀ v' w', Own w' base v' (l ++ m) → w.grownBy w' v.ownBlock → Below base w w' → K (a.put o.dst v') w') : o.wp Try.prog a w K Q := by
  obtain ⟨v', w', hr, h1, h2, h3⟩ := append_bytes_keep w base v x' l m hv hX hbytes hbase
  rw [← hty] at hr
  unfold Oper.wp execOp
  simp only [ho, resolve, invoke, builtin, Sem.run_bind, Sem.run_pure, Result.andThen_ok, List.map_toArray, List.map_cons, List.map_nil, hs, hx, hty]
  rw [hty] at hr
  simp only [hr]
  exact h v' w' h1 h2 h3

theorem Box.grown {w w' : World} {g : Nat} {xs : List Value} {t : TypeId} {row : Option Nat} (h : Box w g xs t) (hg : w.grownBy w' row) (hne : some g ≠ row) : Box w' g xs t := by
  unfold Box
  rw [hg.block g h.lt hne]
  exact h
end

section
open Go.RowKit Go.Proofs
set_option maxRecDepth 50000
set_option linter.unusedVariables false

/-- p leads to the values xs. -/
def RowAt (w : World) (p : Option Addr) (xs : List Value) : Prop :=
  xs = [] ∨ ∃ b off, p = some ⟨b, off, none⟩ ∧ b < w.heap.size ∧ ∀ i (h : i < xs.length), w.cell? ⟨b, off + i, none⟩ = some xs[i]

/-- The slice value v reads as the values xs. -/
def RowOf (w : World) (v : Value) (xs : List Value) : Prop :=
  ∃ p cap, v = .slice p xs.length cap ∧ xs.length ≤ cap ∧ cap ≤ maxLen ∧ RowAt w p xs

theorem RowOf.nil (w : World) : RowOf w (.slice none 0 0) [] := ⟨none, 0, rfl, Nat.le_refl _, Nat.zero_le _, .inl rfl⟩

theorem RowAt.pos {w : World} {p : Option Addr} {xs : List Value} (h : RowAt w p xs) (hl : 0 < xs.length) :
    ∃ b off, p = some ⟨b, off, none⟩ ∧ b < w.heap.size ∧ ∀ i (h : i < xs.length), w.cell? ⟨b, off + i, none⟩ = some xs[i] := by
  rcases h with rfl | h
  · simp at hl
  · exact h

theorem RowAt.below {w w' : World} {p : Option Addr} {xs : List Value} (h : RowAt w p xs) (hb : Below w.heap.size w w') : RowAt w' p xs := by
  rcases h with h | ⟨b, off, rfl, hlt, hc⟩
  · exact .inl h
  · exact .inr ⟨b, off, rfl, Nat.lt_of_lt_of_le hlt hb.size, fun i hi => by rw [hb.cell (p := ⟨b, off + i, none⟩) hlt]; exact hc i hi⟩

theorem RowOf.below {w w' : World} {v : Value} {xs : List Value} (h : RowOf w v xs) (hb : Below w.heap.size w w') : RowOf w' v xs := by
  obtain ⟨p, cap, rfl, h1, h2, h3⟩ := h
  exact ⟨p, cap, rfl, h1, h2, h3.below hb⟩

/-- v is a row of the call's own (blocks from base on), or nil. -/
def OwnRow (e : TypeId) (w : World) (base : Nat) (v : Value) (xs : List Value) : Prop := w.ownsRow base e 1 v xs.length xs

theorem OwnRow.nil (e : TypeId) (w : World) (base : Nat) : OwnRow e w base (.slice none 0 0) [] := World.ownsRow_nil w base _ _

theorem OwnRow.row {e : TypeId} {w : World} {base : Nat} {v : Value} {xs : List Value} (h : OwnRow e w base v xs) : RowOf w v xs := by
  have hlt := World.ownsRow.lt h
  rcases id h with ⟨_, ⟨rfl, hn⟩ | ⟨g, cap, cur, rfl, _, _, h3, h4, _⟩⟩
  · obtain rfl : xs = [] := List.eq_nil_of_length_eq_zero hn
    exact RowOf.nil w
  · refine ⟨_, _, rfl, h3, h4, .inr ⟨g, 0, rfl, (hlt g rfl).2, fun i hi => ?_⟩⟩
    rw [Nat.zero_add, World.ownsRow.cellAt h i (by omega)]
    exact List.getElem?_eq_getElem hi

theorem OwnRow.mono {e : TypeId} {w : World} {base base' : Nat} {v : Value} {xs : List Value} (h : OwnRow e w base v xs) (hb : base' ≤ base) : OwnRow e w base' v xs := by
  obtain ⟨h1, h2⟩ := h
  refine ⟨h1, ?_⟩
  rcases h2 with h2 | ⟨g, cap, cur, hv, hg, r⟩
  · exact .inl h2
  · exact .inr ⟨g, cap, cur, hv, Nat.le_trans hb hg, r⟩

theorem OwnRow.below {e : TypeId} {w w' : World} {base : Nat} {v : Value} {xs : List Value} (h : OwnRow e w base v xs) (hb : Below w.heap.size w w') : OwnRow e w' base v xs := by
  obtain ⟨h1, h2⟩ := h
  refine ⟨h1, ?_⟩
  rcases h2 with h2 | ⟨g, cap, cur, hv, hg, hh, r⟩
  · exact .inl h2
  · exact .inr ⟨g, cap, cur, hv, hg, by rw [hb.block g (Array.getElem?_eq_some_iff.1 hh).1]; exact hh, r⟩

/-- A row that is written out. -/
theorem OwnRow.lit (e : TypeId) (w : World) (xs : List Value) (hl : xs.length ≤ maxLen) : OwnRow e (w.alloc (.cells xs.toArray e)) w.heap.size (.slice (some ⟨w.heap.size, 0, none⟩) xs.length xs.length) xs :=
  ownsRow_of_heap _ (Nat.le_refl _) (heap_alloc_new w _) rfl hl

/-- What must be known of a slice's type: its elements are of one cell. -/
def OneCells (t e : TypeId) (z : Value) (bytes : Nat) : Prop :=
  Try.prog.underlying t = some (.slice e) ∧ (Try.prog.info? e).map (fun i => (i.zero, i.size, i.bytes)) = some (some z, 1, bytes) ∧ z.cells.size = 1

/-- 'append(v, x...)', v a row of the call's own or nil. -/
theorem append_row {t e : TypeId} {z : Value} {bytes : Nat} (ht : OneCells t e z bytes) (w : World) (base : Nat) (v x : Value) (xs ys : List Value) (hv : OwnRow e w base v xs) (hx : RowOf w x ys) (h1 : ∀ u ∈ ys, u.oneCell' = true)
    (h63 : xs.length + ys.length ≤ maxLen) (hbytes : (xs.length + ys.length) * bytes ≤ 140737488355328) (hbase : base ≤ w.heap.size) :
    ∃ v' w', (Builtin.append_ #[t, t] t #[v, x]).run Try.prog w = .ok v' w' ∧ OwnRow e w' base v' (xs ++ ys) ∧ Below base w w' := by
  obtain ⟨hu, hinfo, hzc⟩ := ht
  obtain ⟨p, cap, rfl, _, _, hat⟩ := hx
  obtain ⟨i0, hi, hz0, hz1, hz2⟩ := info_parts hinfo
  have hlen : (xs ++ ys).length = xs.length + ys.length := List.length_append
  cases p with
  | none =>
    obtain rfl : ys = [] := by
      rcases hat with h | ⟨b, off, h, _⟩
      · exact h
      · cases h
    refine ⟨v, w, ?_, by simpa using hv, Below.refl _ _⟩
    rcases World.ownsRow.elim hv with ⟨rfl, hn⟩ | ⟨g, cap', cur, rfl, hnc, _⟩
    · simp [Builtin.append_, run_underlying hu, sizeOf, typeInfo, hi, Builtin.lenOf, Builtin.firstCells]
    · simp [Builtin.append_, run_underlying hu, sizeOf, typeInfo, hi, Builtin.lenOf, Builtin.firstCells, hnc, storeCells]
  | some a =>
    have hnews : ∀ j u, ys[j]? = some u → w.cell? (a.add j) = some u := by
      intro j u hu
      obtain ⟨hj, hju⟩ := List.getElem?_eq_some_iff.1 hu
      obtain ⟨b, off, he, _, hc⟩ := hat.pos (by omega)
      cases he
      rw [Addr.add_plain, hc j hj, hju]
    obtain ⟨v', w', hr, hown, hg, _⟩ := run_append_own (P := Try.prog) w base t t e i0 _ 1 bytes hu hi hz0 hz1 hz2 hzc (by decide) v xs.length xs hv a ys.length cap ys (by omega) hnews h1 h63 hbytes hbase
    refine ⟨v', w', hr, ?_, ?_⟩
    · unfold OwnRow
      rw [hlen]
      exact hown
    · exact (Below.refl base w).grown hg hbase (fun k hk => (World.ownsRow.lt hv k hk).1)

theorem wpList_append_row {w : World} {ops : Array Oper} {rest : List Oper} {o : Oper} {a : Act} {Q : Exit → Act → World → Prop} (hgd : o.guard = none) (s x : Operand) {t e : TypeId} {z : Value} {bytes : Nat} (ht : OneCells t e z bytes)
    (ho : o.op = .call { callee := .builtin .append, args := #[s, x], argTypes := #[t, t] }) (hty : o.type = t)
    (base : Nat) (v x' : Value) (xs ys : List Value) (hs : a.eval s = v) (hx : a.eval x = x') (hv : OwnRow e w base v xs) (hX : RowOf w x' ys) (h1 : ∀ u ∈ ys, u.oneCell' = true)
    (h63 : xs.length + ys.length ≤ maxLen) (hbytes : (xs.length + ys.length) * bytes ≤ 140737488355328) (hbase : base ≤ w.heap.size)
    (h : ∀ v' w', OwnRow e w' base v' (xs ++ ys) → Below base w w' → wpList Try.prog ops Q rest (a.put o.dst v') w') : wpList Try.prog ops Q (o :: rest) a w :=
  wpList_plain hgd fun K hK => by
    obtain ⟨v', w', hr, h1, h2⟩ := append_row ht w base v x' xs ys hv hX h1 h63 hbytes hbase
    unfold Oper.wp execOp
    simp only [ho, resolve, invoke, builtin, Sem.run_bind, Sem.run_pure, Result.andThen_ok, List.map_toArray, List.map_cons, List.map_nil, hs, hx, hty]
    simp only [hr]
    exact hK _ _ (h v' w' h1 h2)
end

section
open Go.RowKit Go.Proofs
set_option maxRecDepth 50000
set_option linter.unusedVariables false

open Go.RowKit Go.Proofs

set_option maxHeartbeats 400000 in
theorem place_any (v n : Int) (w : World) (hn : 0 < n) (hn2 : n ≤ 9223372036854775807) :
    Calls Try.prog 19 #[.int .i64 v, .int .i64 n] w fun e w' => e = .returned (.int .i64 (v % n)) ∧ w = w' := by
  have hb := tmod_bounds v n hn
  obtain ⟨hb1, hb2⟩ := hb
  go_enter Try.func19, Try.ntmps19
  go_wp2
  · have hlt : v.tmod n < 0 := by assumption
    go_ret
    exact ⟨ret_int (tmod_neg_emod v n hn hlt), rfl⟩
  · have hlt : 0 ≤ v.tmod n := by assumption
    go_ret
    exact ⟨ret_int (tmod_nonneg_emod v n hn hlt), rfl⟩

/-- What Place answers, behind a name: a number from 0 to n - 1. -/
def Placed (v n : Int) (w : World) (e : Ending) (w' : World) : Prop := ∃ y, e = .returned (.int .i64 y) ∧ 0 ≤ y ∧ y < n ∧ Hid (y = v % n) ∧ w = w'

theorem place_in (v n : Int) (w : World) (hn : 0 < n) (hn2 : n ≤ 9223372036854775807) :
    Calls Try.prog 19 #[.int .i64 v, .int .i64 n] w (Placed v n w) :=
  (place_any v n w hn hn2).mono fun _ _ ⟨he, hw⟩ => ⟨v % n, he, Int.emod_nonneg _ (by omega), Int.emod_lt_of_pos _ hn, rfl, hw⟩
end

section
open Go.RowKit Go.Proofs
set_option maxRecDepth 50000
set_option linter.unusedVariables false

/-- A scope in which the run jumps at most once. -/
theorem wp_scope_hop {P : Program} {c : Code} {a : Act} {w : World} {Q : Exit → Act → World → Prop}
    (h : ∀ Q' : Exit → Act → World → Prop, (∀ a w, Q .ret a w → Q' .ret a w) → (∀ l rest a w, findLabel c l = some rest → rest.wp P (Exit.noGoto Q) a w → Q' (.goto l) a w) → c.wp P Q' a w) : (Code.scope c).wp P Q a w := by
  intro b k cs
  have h1 := h (fun e a w => match e with | .goto l => ∃ rest, findLabel c l = some rest ∧ rest.wp P (Exit.noGoto Q) a w | e => Q e a w) (fun _ _ h => h) (fun l rest a w hf hr => ⟨rest, hf, hr⟩)
  obtain ⟨e, a₁, w₁, hq, harr⟩ := h1 b (.inScope c :: k) cs
  cases e with
  | normal => exact ⟨.normal, a₁, w₁, hq, .head step_scope (Steps.trans harr (.one step_inScope))⟩
  | exit id => exact ⟨.exit id, a₁, w₁, hq, fun k' hk => .head step_scope (harr k' (by simp [exitTo, hk]))⟩
  | goto l =>
    obtain ⟨rest, hf, hr⟩ := hq
    have hg : gotoIn l (.inScope c :: k) = some (.code rest :: .inScope c :: k) := by simp [gotoIn, hf]
    obtain ⟨e₂, a₂, w₂, hq₂, harr₂⟩ := hr b (.inScope c :: k) cs
    have key : ∃ e a' w', Q e a' w' ∧ Arrives P (lone (b.at a₁ (.code rest :: .inScope c :: k)) cs w₁) b k cs e a' w' := by
      cases e₂ with
      | normal => exact ⟨.normal, a₂, w₂, hq₂, Steps.trans harr₂ (.one step_inScope)⟩
      | exit id => exact ⟨.exit id, a₂, w₂, hq₂, fun k' hk => harr₂ k' (by simp [exitTo, hk])⟩
      | goto l => exact hq₂.elim
      | ret => exact ⟨_, a₂, w₂, hq₂, harr₂⟩
      | panic ch => exact ⟨_, a₂, w₂, hq₂, harr₂⟩
      | outgrown => exact ⟨_, a₂, w₂, hq₂, harr₂⟩
    obtain ⟨e₃, a₃, w₃, hq₃, harr₃⟩ := key
    exact ⟨e₃, a₃, w₃, hq₃, .of_steps (.head step_scope (harr _ hg)) harr₃⟩
  | ret => exact ⟨_, a₁, w₁, hq, .of_steps (.one step_scope) harr⟩
  | panic ch => exact ⟨_, a₁, w₁, hq, .of_steps (.one step_scope) harr⟩
  | outgrown => exact ⟨_, a₁, w₁, hq, .of_steps (.one step_scope) harr⟩

end

section
open Go.RowKit Go.Proofs
set_option maxRecDepth 50000
set_option linter.unusedVariables false
set_option linter.unusedSimpArgs false

theorem size_u8 (w : World) : (sizeOf 5).run Try.prog w = .ok 1 w := by
  obtain ⟨i0, hi, hz0, hz1, hz2⟩ := info_parts info_u8
  simp [sizeOf, typeInfo, hi, hz1]

theorem slice_from {w : World} {v : Value} {L : List UInt8} (hB : Bytes w v L) (E : Nat) (hE : E ≤ L.length) :
    ∃ v', (∀ w', (Instr.sliceAt 43 v (some (.int .i64 (E : Int))) none none).run Try.prog w' = .ok v' w') ∧ Bytes w v' (L.drop E) := by
  obtain ⟨p, cap, rfl, hc, hm, hat⟩ := hB
  have hu := Try.underlying43
  refine ⟨sliced p E L.length cap 1, fun w' => ?_, ?_⟩
  · rw [run_sliceAt_slice w' 43 _ _ _ _ hu, run_slice_l w' 43 p L.length cap hu .i64 (E : Int) (by omega) (by omega)]
    show ((sizeOf 5).run Try.prog w').andThen _ = _
    rw [size_u8]
    rfl
  · have hl : (L.drop E).length = L.length - E := List.length_drop
    refine ⟨_, cap - E, by rw [hl]; rfl, by omega, by omega, ?_⟩
    by_cases he : E = L.length
    · exact .inl (List.drop_eq_nil_of_le (by omega))
    · obtain ⟨b, off, rfl, hlt, hcell⟩ := hat.pos (by omega)
      rw [if_neg (by omega)]
      refine .inr ⟨b, off + E, by show some (Addr.add _ _) = _; rw [Nat.mul_one, Addr.add_plain], hlt, fun i hi => ?_⟩
      rw [List.getElem_drop, Nat.add_assoc]
      exact hcell (E + i) (by omega)

theorem wpList_slice_from {w : World} {ops : Array Oper} {rest : List Oper} {o : Oper} {a : Act} {Q : Exit → Act → World → Prop} (hgd : o.guard = none) (x lo : Operand)
    (ho : o.op = .slice 43 x (some lo) none none) (w0 : World) (v : Value) (L : List UInt8) (E : Nat) (hx : a.eval x = v) (hlo : a.eval lo = .int .i64 (E : Int)) (hB : Bytes w0 v L) (hE : E ≤ L.length)
    (h : ∀ v', Bytes w0 v' (L.drop E) → wpList Try.prog ops Q rest (a.put o.dst v') w) : wpList Try.prog ops Q (o :: rest) a w :=
  wpList_plain hgd fun K hK => by
    obtain ⟨v', hr, h1⟩ := slice_from hB E hE
    unfold Oper.wp execOp
    simp only [ho, Sem.run_bind, Sem.run_pure, hx, hlo, Option.map_some, Option.map_none, hr w, Result.andThen_ok]
    exact hK _ _ (h v' h1)

/-- 'b[:E]'. -/
theorem slice_upto {w : World} {v : Value} {L : List UInt8} (hB : Bytes w v L) (E : Nat) (hE : E ≤ L.length) :
    ∃ v', (∀ w', (Instr.sliceAt 43 v none (some (.int .i64 (E : Int))) none).run Try.prog w' = .ok v' w') ∧ Bytes w v' (L.take E) := by
  obtain ⟨p, cap, rfl, hc, hm, hat⟩ := hB
  have hu := Try.underlying43
  refine ⟨sliced p 0 E cap 1, fun w' => ?_, ?_⟩
  · rw [run_sliceAt_slice w' 43 _ _ _ _ hu, run_slice_h w' 43 p L.length cap hu .i64 (E : Int) (by omega) (by omega)]
    show ((sizeOf 5).run Try.prog w').andThen _ = _
    rw [size_u8]
    rfl
  · have hl : (L.take E).length = E := by rw [List.length_take]; omega
    refine ⟨_, cap, by rw [hl]; rfl, by omega, hm, ?_⟩
    by_cases he : E = 0
    · exact .inl (by rw [he, List.take_zero])
    · obtain ⟨b, off, rfl, hlt, hcell⟩ := hat.pos (by omega)
      rw [if_neg (by omega)]
      refine .inr ⟨b, off, by show some (Addr.add _ _) = _; rw [Nat.zero_mul, Addr.add_plain, Nat.add_zero], hlt, fun i hi => ?_⟩
      rw [List.getElem_take]
      exact hcell i (by omega)

theorem wpList_slice_upto {w : World} {ops : Array Oper} {rest : List Oper} {o : Oper} {a : Act} {Q : Exit → Act → World → Prop} (hgd : o.guard = none) (x hi : Operand)
    (ho : o.op = .slice 43 x none (some hi) none) (w0 : World) (v : Value) (L : List UInt8) (E : Nat) (hx : a.eval x = v) (hhi : a.eval hi = .int .i64 (E : Int)) (hB : Bytes w0 v L) (hE : E ≤ L.length)
    (h : ∀ v', Bytes w0 v' (L.take E) → wpList Try.prog ops Q rest (a.put o.dst v') w) : wpList Try.prog ops Q (o :: rest) a w :=
  wpList_plain hgd fun K hK => by
    obtain ⟨v', hr, h1⟩ := slice_upto hB E hE
    unfold Oper.wp execOp
    simp only [ho, Sem.run_bind, Sem.run_pure, hx, hhi, Option.map_some, Option.map_none, hr w, Result.andThen_ok]
    exact hK _ _ (h v' h1)
end

section
open Go.RowKit Go.Proofs
set_option maxRecDepth 50000
set_option linter.unusedVariables false

theorem below_bytesWorld (w : World) (e : TypeId) (s : ByteArray) : Below w.heap.size w (Go.Lib.bytesWorld w e s) :=
  ⟨rfl, rfl, rfl, by rw [Go.Lib.bytesWorld_size]; omega, fun k hk => Go.Lib.bytesWorld_at_old w e s k hk⟩

theorem convert_str (w : World) (m : List UInt8) (hm : m.length ≤ 140737488355328) :
    ∃ v w', (convert 9 43 (.string ⟨m.toArray⟩)).run Try.prog w = .ok v w' ∧ Bytes w' v m ∧ Below w.heap.size w w' := by
  have hsz : (⟨m.toArray⟩ : ByteArray).size = m.length := by show m.toArray.size = _; simp
  refine ⟨_, _, Go.Lib.run_convert_string_bytes w 9 43 5 ⟨m.toArray⟩ Try.underlying9 Try.underlying43 Try.underlying5, ?_, below_bytesWorld w _ _⟩
  rw [hsz]
  refine ⟨_, _, rfl, grownCap_ge w _ _ _, grownCap_le_maxLen w _ _ _ (by unfold maxLen; omega), .inr ⟨w.heap.size, 0, rfl, by rw [Go.Lib.bytesWorld_size]; omega, fun i hi => ?_⟩⟩
  rw [Nat.zero_add, Go.Lib.bytesWorld_cell w _ _ i (by rw [hsz]; exact hi)]
  simp [hi]

theorem wpList_convert_str {w : World} {ops : Array Oper} {rest : List Oper} {o : Oper} {a : Act} {Q : Exit → Act → World → Prop} (hgd : o.guard = none) (x : Operand)
    (ho : o.op = .convert 9 43 x) (m : List UInt8) (hx : a.eval x = .string ⟨m.toArray⟩) (hm : m.length ≤ 140737488355328)
    (h : ∀ v' w', Bytes w' v' m → Below w.heap.size w w' → wpList Try.prog ops Q rest (a.put o.dst v') w') : wpList Try.prog ops Q (o :: rest) a w :=
  wpList_plain hgd fun K hK => by
    obtain ⟨v', w', hr, h1, h2⟩ := convert_str w m hm
    unfold Oper.wp execOp
    simp only [ho, Sem.run_bind, Sem.run_pure, hx, hr, Result.andThen_ok]
    exact hK _ _ (h v' w' h1 h2)
end

section
open Go.RowKit Go.Proofs
set_option maxRecDepth 50000
set_option linter.unusedVariables false

theorem strCells_of (m : List UInt8) : Go.Lib.strCells ⟨m.toArray⟩ = cellsOf m := by
  apply List.ext_getElem?
  intro i
  simp [Go.Lib.strCells, cellsOf]

theorem append_str (w : World) (base : Nat) (v : Value) (l m : List UInt8) (hv : Own w base v l) (hbytes : l.length + m.length ≤ 140737488355328) (hbase : base ≤ w.heap.size) :
    ∃ v' w', (Builtin.append_ #[43, 9] 43 #[v, .string ⟨m.toArray⟩]).run Try.prog w = .ok v' w' ∧ Own w' base v' (l ++ m) ∧ Below base w w' := by
  obtain ⟨i0, hi, hz0, hz1, hz2⟩ := info_parts info_u8
  have hlen : (l ++ m).length = l.length + m.length := List.length_append
  have hsz : (⟨m.toArray⟩ : ByteArray).size = m.length := by show m.toArray.size = _; simp
  obtain ⟨v', w', hr, hown, hg, _⟩ := Go.Lib.run_append_own_string (P := Try.prog) w base 43 9 43 5 i0 Try.underlying43 Try.underlying9 hi hz0 hz1 hz2 v l.length (cellsOf l) hv ⟨m.toArray⟩ (by rw [hsz]; unfold maxLen; omega) (by rw [hsz]; omega) hbase
  rw [hsz, strCells_of] at hown
  refine ⟨v', w', hr, ?_, (Below.refl base w).grown hg hbase (fun k hk => (World.ownsRow.lt hv k hk).1)⟩
  unfold Own
  rw [hlen, cellsOf_append]
  exact hown

theorem wpList_append_str {w : World} {ops : Array Oper} {rest : List Oper} {o : Oper} {a : Act} {Q : Exit → Act → World → Prop} (hgd : o.guard = none) (s x : Operand)
    (ho : o.op = .call { callee := .builtin .append, args := #[s, x], argTypes := #[43, 9] }) (hty : o.type = 43)
    (base : Nat) (v : Value) (l m : List UInt8) (hs : a.eval s = v) (hx : a.eval x = .string ⟨m.toArray⟩) (hv : Own w base v l) (hbytes : l.length + m.length ≤ 140737488355328) (hbase : base ≤ w.heap.size)
    (h : ∀ v' w', Own w' base v' (l ++ m) → Below base w w' → wpList Try.prog ops Q rest (a.put o.dst v') w') : wpList Try.prog ops Q (o :: rest) a w :=
  wpList_plain hgd fun K hK => by
    obtain ⟨v', w', hr, h1, h2⟩ := append_str w base v l m hv hbytes hbase
    rw [← hty] at hr
    unfold Oper.wp execOp
    simp only [ho, resolve, invoke, builtin, Sem.run_bind, Sem.run_pure, Result.andThen_ok, List.map_toArray, List.map_cons, List.map_nil, hs, hx, hty]
    rw [hty] at hr
    simp only [hr]
    exact hK _ _ (h v' w' h1 h2)

/-- .. as one operation of a region that draws. -/
theorem op_append_str {w : World} {o : Oper} {a : Act} {K : Act → World → Prop} {Q : Exit → Act → World → Prop} (s x : Operand)
    (ho : o.op = .call { callee := .builtin .append, args := #[s, x], argTypes := #[43, 9] }) (hty : o.type = 43)
    (base : Nat) (v : Value) (l m : List UInt8) (hs : a.eval s = v) (hx : a.eval x = .string ⟨m.toArray⟩) (hv : Own w base v l) (hbytes : l.length + m.length ≤ 140737488355328) (hbase : base ≤ w.heap.size)
    (h : ∀ v' w', Own w' base v' (l ++ m) → Below base w w' → K (a.put o.dst v') w') : o.wp Try.prog a w K Q := by
  obtain ⟨v', w', hr, h1, h2⟩ := append_str w base v l m hv hbytes hbase
  rw [← hty] at hr
  unfold Oper.wp execOp
  simp only [ho, resolve, invoke, builtin, Sem.run_bind, Sem.run_pure, Result.andThen_ok, List.map_toArray, List.map_cons, List.map_nil, hs, hx, hty]
  rw [hty] at hr
  simp only [hr]
  exact h v' w' h1 h2
end

section
open Go.RowKit Go.Proofs
set_option maxRecDepth 50000
set_option linter.unusedVariables false
set_option linter.unusedSimpArgs false

def OwnZ (p : Option Addr) (w : World) (base : Nat) (v : Value) (l : List UInt8) : Prop := Own w base v l ∨ (l = [] ∧ ∃ a, p = some a ∧ v = .slice (some a) 0 0)

theorem OwnZ.bytes {p : Option Addr} {w : World} {base : Nat} {v : Value} {l : List UInt8} (h : OwnZ p w base v l) : Bytes w v l := by
  rcases h with h | ⟨rfl, a, rfl, rfl⟩
  · exact h.bytes
  · exact ⟨some a, 0, rfl, Nat.le_refl _, Nat.zero_le _, .inl rfl⟩

theorem OwnZ.below {p : Option Addr} {w w' : World} {base : Nat} {v : Value} {l : List UInt8} (h : OwnZ p w base v l) (hb : Below w.heap.size w w') : OwnZ p w' base v l := by
  rcases h with h | h
  · exact .inl (h.below hb)
  · exact .inr h

theorem OwnZ.own {p : Option Addr} {w : World} {base : Nat} {v : Value} {l : List UInt8} (h : OwnZ p w base v l) (hl : 0 < l.length) : Own w base v l := by
  rcases h with h | ⟨rfl, _⟩
  · exact h
  · simp at hl

theorem OwnZ.nil {w : World} {base : Nat} {v : Value} {l : List UInt8} (h : OwnZ none w base v l) : Own w base v l := by
  rcases h with h | ⟨_, a, h, _⟩
  · exact h
  · cases h

/-- 'b[:0:0]'. -/
theorem OwnZ.none (p : Option Addr) (w : World) (base : Nat) : OwnZ p w base (.slice p 0 0) [] := by
  cases p with
  | none => exact .inl (Own.nil _ _)
  | some a => exact .inr ⟨rfl, a, rfl, rfl⟩

theorem append_bytesZ (q : Option Addr) (w : World) (base : Nat) (v x : Value) (l m : List UInt8) (hv : OwnZ q w base v l) (hx : Bytes w x m) (hbytes : l.length + m.length ≤ 140737488355328) (hbase : base ≤ w.heap.size) :
    ∃ v' w', (Builtin.append_ #[43, 43] 43 #[v, x]).run Try.prog w = .ok v' w' ∧ OwnZ q w' base v' (l ++ m) ∧ Below base w w' := by
  rcases hv with hv | ⟨rfl, a, rfl, rfl⟩
  · obtain ⟨v', w', hr, h1, h2⟩ := append_bytes w base v x l m hv hx hbytes hbase
    exact ⟨v', w', hr, .inl h1, h2⟩
  · obtain ⟨i0, hi, hz0, hz1, hz2⟩ := info_parts info_u8
    obtain ⟨p, cap, rfl, _, _, hat⟩ := hx
    by_cases h0 : m = []
    · subst h0
      refine ⟨.slice (some a) 0 0, w, ?_, .inr ⟨rfl, a, rfl, rfl⟩, Below.refl _ _⟩
      cases p with
      | none => simp [Builtin.append_, run_underlying Try.underlying43, sizeOf, typeInfo, hi, Builtin.lenOf, Builtin.firstCells, storeCells]
      | some b =>
        have hf : (Builtin.firstCells i0.size 0 (.slice (some b) 0 cap)).run Try.prog w = .ok [].toArray w := run_firstCells_some (P := Try.prog) w i0.size 0 b 0 cap [] (by simp) (by simp)
        simp [Builtin.append_, run_underlying Try.underlying43, sizeOf, typeInfo, hi, Builtin.lenOf, hf, storeCells]
    · have hpos : 0 < m.length := List.length_pos_iff.2 h0
      obtain ⟨b, off, rfl, _, hc⟩ := hat.pos hpos
      obtain ⟨v', w', hr, hown, hg⟩ := run_append_arg_grows (P := Try.prog) w 43 43 5 i0 _ 1 1 Try.underlying43 hi hz0 hz1 hz2 rfl (by decide) a 0 0 [] (by simp) (by simp) ⟨b, off, none⟩ m.length cap (cellsOf m) (by rw [cellsOf_length]; omega)
        (fun j u hu => by
          have hj : j < m.length := by
            have := (List.getElem?_eq_some_iff.1 hu).1
            rwa [cellsOf_length] at this
          rw [cellsOf_get m j hj] at hu
          rw [Addr.add_plain, hc j hj]
          exact hu) (by omega) (by unfold maxLen; omega) (by simp only [List.length_nil] at hbytes; omega)
      refine ⟨v', w', hr, .inl (Own.mono (base := w.heap.size) ?_ hbase), (Below.refl base w).grown hg hbase (fun k hk => by cases hk)⟩
      unfold Own
      simpa using hown

theorem wpList_append_bytesZ {w : World} {ops : Array Oper} {rest : List Oper} {o : Oper} {a : Act} {Q : Exit → Act → World → Prop} (hgd : o.guard = none) (s x : Operand)
    (ho : o.op = .call { callee := .builtin .append, args := #[s, x], argTypes := #[43, 43] }) (hty : o.type = 43)
    (q : Option Addr) (base : Nat) (v x' : Value) (l m : List UInt8) (hs : a.eval s = v) (hx : a.eval x = x') (hv : OwnZ q w base v l) (hX : Bytes w x' m) (hbytes : l.length + m.length ≤ 140737488355328) (hbase : base ≤ w.heap.size)
    (h : ∀ v' w', OwnZ q w' base v' (l ++ m) → Below base w w' → wpList Try.prog ops Q rest (a.put o.dst v') w') : wpList Try.prog ops Q (o :: rest) a w :=
  wpList_plain hgd fun K hK => by
    obtain ⟨v', w', hr, h1, h2⟩ := append_bytesZ q w base v x' l m hv hX hbytes hbase
    unfold Oper.wp execOp
    simp only [ho, resolve, invoke, builtin, Sem.run_bind, Sem.run_pure, Result.andThen_ok, List.map_toArray, List.map_cons, List.map_nil, hs, hx, hty]
    simp only [hr]
    exact hK _ _ (h v' w' h1 h2)

/-- .. and its own block lies below N. -/
def OwnZN (p : Option Addr) (w : World) (base N : Nat) (v : Value) (l : List UInt8) : Prop := (Own w base v l ∧ ∀ k, v.ownBlock = some k → k < N) ∨ (l = [] ∧ ∃ a, p = some a ∧ v = .slice (some a) 0 0)

theorem OwnZ.known {p : Option Addr} {w : World} {base : Nat} {v : Value} {l : List UInt8} (h : OwnZ p w base v l) : OwnZN p w base w.heap.size v l := by
  rcases h with h | h
  · exact .inl ⟨h, fun k hk => (World.ownsRow.lt h k hk).2⟩
  · exact .inr h

theorem OwnZN.below {p : Option Addr} {w w' : World} {base N : Nat} {v : Value} {l : List UInt8} (h : OwnZN p w base N v l) (hb : Below w.heap.size w w') : OwnZN p w' base N v l := by
  rcases h with h | h
  · exact .inl ⟨h.1.below hb, h.2⟩
  · exact .inr h

/-- 'append(v, x...)', x not empty: boxes that were made behind v stay. -/
theorem append_keepZ (q : Option Addr) (w : World) (base N : Nat) (v x : Value) (l m : List UInt8) (hv : OwnZN q w base N v l) (hx : Bytes w x m) (hm : 0 < m.length) (hbytes : l.length + m.length ≤ 140737488355328) (hbase : base ≤ w.heap.size) :
    ∃ v' w', (Builtin.append_ #[43, 43] 43 #[v, x]).run Try.prog w = .ok v' w' ∧ Own w' base v' (l ++ m) ∧ Hid (∀ g xs t, N ≤ g → Box w g xs t → Box w' g xs t) ∧ Below base w w' := by
  rcases hv with ⟨hv, hN⟩ | ⟨rfl, a, rfl, rfl⟩
  · obtain ⟨v', w', hr, h1, hg, h2⟩ := append_bytes_keep w base v x l m hv hx hbytes hbase
    exact ⟨v', w', hr, h1, fun g xs t hng hB => hB.grown hg fun e => by have := hN g e.symm; omega, h2⟩
  · obtain ⟨i0, hi, hz0, hz1, hz2⟩ := info_parts info_u8
    obtain ⟨p, cap, rfl, _, _, hat⟩ := hx
    obtain ⟨b, off, rfl, _, hc⟩ := hat.pos hm
    obtain ⟨v', w', hr, hown, hg⟩ := run_append_arg_grows (P := Try.prog) w 43 43 5 i0 _ 1 1 Try.underlying43 hi hz0 hz1 hz2 rfl (by decide) a 0 0 [] (by simp) (by simp) ⟨b, off, none⟩ m.length cap (cellsOf m) (by rw [cellsOf_length]; omega)
      (fun j u hu => by
        have hj : j < m.length := by
          have := (List.getElem?_eq_some_iff.1 hu).1
          rwa [cellsOf_length] at this
        rw [cellsOf_get m j hj] at hu
        rw [Addr.add_plain, hc j hj]
        exact hu) (by omega) (by unfold maxLen; omega) (by simp only [List.length_nil] at hbytes; omega)
    refine ⟨v', w', hr, Own.mono (base := w.heap.size) ?_ hbase, fun g xs t _ hB => hB.grown hg (by simp), (Below.refl base w).grown hg hbase (fun k hk => by cases hk)⟩
    unfold Own
    simpa using hown

theorem wpList_append_keepZ {w : World} {ops : Array Oper} {rest : List Oper} {o : Oper} {a : Act} {Q : Exit → Act → World → Prop} (hgd : o.guard = none) (s x : Operand)
    (ho : o.op = .call { callee := .builtin .append, args := #[s, x], argTypes := #[43, 43] }) (hty : o.type = 43)
    (q : Option Addr) (base N : Nat) (v x' : Value) (l m : List UInt8) (hs : a.eval s = v) (hx : a.eval x = x') (hv : OwnZN q w base N v l) (hX : Bytes w x' m) (hm : 0 < m.length) (hbytes : l.length + m.length ≤ 140737488355328) (hbase : base ≤ w.heap.size)
    (h : ∀ v' w', Own w' base v' (l ++ m) → Hid (∀ g xs t, N ≤ g → Box w g xs t → Box w' g xs t) → Below base w w' → wpList Try.prog ops Q rest (a.put o.dst v') w') : wpList Try.prog ops Q (o :: rest) a w :=
  wpList_plain hgd fun K hK => by
    obtain ⟨v', w', hr, h1, h2, h3⟩ := append_keepZ q w base N v x' l m hv hX hm hbytes hbase
    unfold Oper.wp execOp
    simp only [ho, resolve, invoke, builtin, Sem.run_bind, Sem.run_pure, Result.andThen_ok, List.map_toArray, List.map_cons, List.map_nil, hs, hx, hty]
    simp only [hr]
    exact hK _ _ (h v' w' h1 h2 h3)
end
end Go.Proofs.Ytohgpnlihfcecaa
