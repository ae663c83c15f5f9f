/- carillonlaw22: Times, from contracts (gen_mgmtimes.py). -/
import Derived.Test.YtgjffmhlehcoiaaMgmLaws2
import Derived.Test.YtgjffmhlehcoiaaMgmLaws3
import Derived.Test.YtgjffmhlehcoiaaIdentb
import Derived.Test.YtgjffmhlehcoiaaChain
namespace Go.Proofs.Ytgjffmhlehcoiaa
open Go.RowKit Go.Proofs
set_option maxRecDepth 50000
set_option linter.unusedVariables false
set_option linter.unusedSimpArgs false

def vzK : RowK Vw := ⟨vwL, 41, by decide, fun _ => rfl, by
  intro a u hu
  simp only [vwL, cfL, paL, List.cons_append, List.nil_append, List.mem_cons, List.not_mem_nil, or_false] at hu
  rcases hu with rfl | rfl | rfl | rfl | rfl | rfl | rfl | rfl | rfl | rfl | rfl | rfl | rfl | rfl | rfl | rfl | rfl | rfl | rfl | rfl | rfl | rfl | rfl | rfl | rfl | rfl | rfl | rfl | rfl | rfl | rfl | rfl | rfl | rfl | rfl | rfl | rfl | rfl | rfl | rfl | rfl <;> rfl⟩
theorem vzT : StrT vzK 41 := ⟨⟨_, Try.underlying41, rfl⟩, by kernel_rfl⟩
theorem paT6 : StrT paK 39 := ⟨⟨_, Try.underlying39, rfl⟩, by kernel_rfl⟩
/-- A byte behind a number, as an int has it. -/
theorem or_step (N b : Nat) (hb : b < 256) : bits BinOp.or IntKind.i64 (wrap64 (IntKind.i64.wrap (N : Int) * 256)) (wrap64 (b : Int)) = IntKind.i64.wrap (((N * 256 + b) % 18446744073709551616 : Nat) : Int) := by
  obtain ⟨z, hz⟩ : ∃ z, wrap64 (IntKind.i64.wrap (N : Int) * 256) = z := ⟨_, rfl⟩
  have hz2 : z % 18446744073709551616 = ((2 ^ 8 * (N % 72057594037927936) : Nat) : Int) := by
    rw [← hz]
    unfold wrap64
    rw [IntKind.wrap_i64]
    omega
  have hwb : wrap64 (b : Int) = (b : Int) := by unfold wrap64; omega
  have h1 : (BitVec.ofInt 64 z).toNat = 2 ^ 8 * (N % 72057594037927936) := by
    rw [BitVec.toNat_ofInt]
    show (z % 18446744073709551616).toNat = _
    rw [hz2, Int.toNat_natCast]
  have h2 : (BitVec.ofInt 64 (b : Int)).toNat = b := by
    rw [BitVec.toNat_ofInt, Int.emod_eq_of_lt (by omega) (by omega), Int.toNat_natCast]
  rw [hz, hwb]
  show IntKind.i64.wrap ((BitVec.ofInt 64 z ||| BitVec.ofInt 64 (b : Int)).toNat : Nat) = _
  rw [BitVec.toNat_or, h1, h2, ← Nat.two_pow_add_eq_or_of_lt (show b < 2 ^ 8 by omega)]
  rw [show 2 ^ 8 * (N % 72057594037927936) + b = (N * 256 + b) % 18446744073709551616 by omega]
theorem num_next (s : List UInt8) (A k : Nat) (h : A + k < s.length) : num ((s.drop A).take (k + 1)) = (num ((s.drop A).take k) * 256 + s[A + k].toNat) % 18446744073709551616 := by
  have hk : k < (s.drop A).length := by rw [List.length_drop]; omega
  rw [List.take_succ_eq_append_getElem hk, num_snoc, List.getElem_drop]

set_option maxRecDepth 100000 in
set_option maxHeartbeats 8000000 in
theorem numS_any (s : List UInt8) (A m : Nat) (hm : m ≤ 8) (h : A + m ≤ s.length) (hs : s.length ≤ 300) (w : World) :
    Calls Try.prog 14 #[.string ⟨s.toArray⟩, .int .i64 A, .int .i64 m] w fun e w' => e = .returned (.int .i64 (IntKind.i64.wrap (numAt s A m : Nat))) ∧ w' = w := by
  have HS := hid (num_next s A)
  go_enter Try.func14, Try.ntmps14
  go_wp2_with fail
  go_loop [7, 8] (fun v i => ∃ (k : Nat) (X : Int), k ≤ m ∧ i = .int .i64 k ∧ v = .int .i64 X ∧ Hid (X = IntKind.i64.wrap (num ((s.drop A).take k) : Nat))) (fun _ i => m - (intOf i).toNat)
  case atStart => exact ⟨0, 0, Nat.zero_le _, rfl, rfl, hid (by simp [num]; rfl)⟩
  case round =>
    obtain ⟨k, X, hk, rfl, rfl, hX⟩ := hrel
    by_cases hlt : k < m
    · have hI : (k : Int) < (m : Int) := by omega
      have hS := hid (HS.out k (by omega))
      go_wp2_with fail
      go_round
      case rel =>
        refine ⟨k + 1, _, by omega, by go_num, rfl, hid ?_⟩
        rw [hX.out, hS.out]
        exact or_step _ _ (UInt8.toNat_lt _)
      case measure => simp [intOf]; omega
    · obtain rfl : k = m := by omega
      go_wp2_with fail
      go_ret
      exact ⟨by rw [hX.out]; rfl, rfl⟩

theorem num_mid (A B C : List UInt8) (a n : Nat) (ha : A.length = a) (hn : B.length = n) : numAt (A ++ B ++ C) a n = num B := by
  subst ha hn
  unfold numAt
  rw [List.append_assoc, List.drop_left, List.take_left]
theorem wrap_put (x : Int) (h0 : 0 ≤ x) (h1 : x < 9223372036854775808) : IntKind.i64.wrap ((num (putS x 8) : Nat) : Int) = x := by
  have h := num_putS x 8 (by decide) (by decide)
  rw [show (256 : Int) ^ (8 : Int).toNat = 18446744073709551616 by decide] at h
  rw [h, IntKind.wrap_i64]; omega
theorem wrap_put2 (x : Int) (h0 : 0 ≤ x) (h1 : x < 65536) : IntKind.i64.wrap ((num (putS x 2) : Nat) : Int) = x := by
  have h := num_putS x 2 (by decide) (by decide)
  rw [show (256 : Int) ^ (2 : Int).toNat = 65536 by decide] at h
  rw [h, IntKind.wrap_i64]; omega
theorem wrap_put4 (x : Int) (h0 : 0 ≤ x) (h1 : x < 4294967296) : IntKind.i64.wrap ((num (putS x 4) : Nat) : Int) = x := by
  have h := num_putS x 4 (by decide) (by decide)
  rw [show (256 : Int) ^ (4 : Int).toNat = 4294967296 by decide] at h
  rw [h, IntKind.wrap_i64]; omega
theorem wrap_put6 (x : Int) (h0 : 0 ≤ x) (h1 : x < 281474976710656) : IntKind.i64.wrap ((num (putS x 6) : Nat) : Int) = x := by
  have h := num_putS x 6 (by decide) (by decide)
  rw [show (256 : Int) ^ (6 : Int).toNat = 281474976710656 by decide] at h
  rw [h, IntKind.wrap_i64]; omega
theorem wrap_putN (x : Int) (h0 : 0 ≤ x) (h1 : x < 18446744073709551616) : IntKind.i64.wrap ((num (putN x.toNat 8) : Nat) : Int) = IntKind.i64.wrap x := by
  rw [num_putN _ 8 (by decide), show (256 : Nat) ^ 8 = 18446744073709551616 by decide, IntKind.wrap_i64, IntKind.wrap_i64]; omega
set_option maxRecDepth 100000 in
set_option maxHeartbeats 8000000 in
theorem mgmtTimes_from (HDef : CDefM) (HAns : CAnsM) (HKno : CKnoM) (HPer : CPerM) (c : Cf) (hc : ((0 ≤ c.cl ∧ c.cl < 18446744073709551616) ∧ ∀ x ∈ [c.po, c.dm, c.p1, c.p2, c.qc, c.qa, c.qv, c.la, c.ls, c.ld, c.tm, c.md, c.kp, c.ki, c.st, c.ut, c.fl, c.og], -9223372036854775808 ≤ x ∧ x ≤ 9223372036854775807)) (p : Pa) (hp : PaIn p) (off : Int) (hoff : (Lit.int .i64 off).wf = true) (nw : Int) (hnw : (Lit.int .i64 nw).wf = true) (w : World) :
    Calls Try.prog 8 #[.agg (cfL c).toArray, .agg (paL p).toArray, .int .i64 off, .int .i64 nw] w fun e w' => e = .returned (.bool true) ∧ Below w.heap.size w w' := by
  have z0 := bnew w (Obj.cells (cfK.enc c).toArray 28)
  have C := Box.new w (cfK.enc c) 28
  have z1 := bnew (w.alloc (Obj.cells (cfK.enc c).toArray 28)) (Obj.cells (paK.enc p).toArray 39)
  have P := Box.new (w.alloc (Obj.cells (cfK.enc c).toArray 28)) (paK.enc p) 39
  replace C := C.below z1
  have hb := z0
  replace hb := bnext hb z1
  clear z0
  clear z1
  have s1 : (w.alloc (Obj.cells (cfK.enc c).toArray 28)).heap.size = w.heap.size + 1 := by simp
  rw [s1] at P
  go_enter Try.func8, Try.ntmps8
  go_upto_region 1 with fail
  change Code.wp Try.prog _ _ _ ((w.alloc (Obj.cells (cfK.enc c).toArray 28)).alloc (Obj.cells (paK.enc p).toArray 39))
  generalize ((w.alloc (Obj.cells (cfK.enc c).toArray 28)).alloc (Obj.cells (paK.enc p).toArray 39)) = W at *
  clear s1
  generalize hG : w.heap.size = G at *
  rw [← hG] at hb
  have l_C : w.heap.size ≤ G := by omega
  have l_P : w.heap.size ≤ G + 1 := by omega
  have n_C_P : G ≠ G + 1 := by omega
  go_wp2_with (guard_target =~ wpList _ _ _ (⟨some 22, _, _, _, _, _⟩ :: _) _ _; refine cfT.load (op := ⟨some 22, .load _ _, _, _, _, _⟩) (by rfl) _ (by rfl) G 0 (by rfl) (c) C.rangeK ?_)
  refine (refChk10_any c W).mono ?_
  rintro e w1 ⟨rfl, bq⟩
  replace C := C.below bq
  replace P := P.below bq
  replace hb := bnext hb bq
  clear bq
  by_cases hok : CfOk c
  case neg =>
    have hE : checkE c = 15 := if_neg hok
    rw [hE]
    clear hE hok
    go_wp2_with fail
    refine (awake22_from HDef HAns HKno HPer _).mono ?_
    rintro e wz ⟨rfl, bz⟩
    go_wp2_with fail
    go_ret
    exact ⟨rfl, bnext hb bz⟩
  have hE : checkE c = 0 := if_pos hok
  rw [hE]
  clear hE
  have hm1 : bits .and .i64 nw 1125899906842623 = nw % 1125899906842624 := and_mask nw 50 (by decide)
  have hm2 : bits .and .i64 off 1073741823 = off % 1073741824 := and_mask off 30 (by decide)
  have hm3 : bits .and .i64 p.st 65535 = p.st % 65536 := and_mask p.st 16 (by decide)
  have ht : 0 ≤ nw % 1125899906842624 ∧ nw % 1125899906842624 < 1125899906842624 := by omega
  have ho : 0 ≤ off % 1073741824 ∧ off % 1073741824 < 1073741824 := by omega
  have hs : 0 ≤ p.st % 65536 ∧ p.st % 65536 < 65536 := by omega
  generalize nw % 1125899906842624 = t at *
  generalize off % 1073741824 = o at *
  generalize p.st % 65536 = s at *
  obtain ⟨q, hq⟩ : ∃ q : Pa, q = { p with st := s } := ⟨_, rfl⟩
  have hqi : PaIn q := by
    rw [hq]
    obtain ⟨h1, h2, h3, h4, h5, h6, h7, h8, h9, h10, h11, h12⟩ := hp
    exact ⟨h1, h2, h3, h4, h5, h6, h7, h8, ⟨by show -9223372036854775808 ≤ s; omega, by show s ≤ 9223372036854775807; omega⟩, h10, h11, h12⟩
  have hqs : q.st = s := by rw [hq]
  obtain ⟨v, hv⟩ : ∃ v : Vw, v = ⟨c, q, o, 0, t, 0, 0, 0⟩ := ⟨_, rfl⟩
  have hin : VwIn v := by rw [hv]; exact ⟨hok, hc.1, hqi, ⟨by show -9223372036854775808 ≤ o; omega, by show o ≤ 9223372036854775807; omega⟩, i640, ⟨by show -9223372036854775808 ≤ t; omega, by show t ≤ 9223372036854775807; omega⟩, i640, i640, i640⟩
  have hvc : v.c = c := by rw [hv]
  have HA1 : ∀ wx : World, Calls Try.prog 12 #[.agg (vwL v).toArray, .int .i64 0, .int .i64 8207, .string ⟨#[]⟩] wx fun e w' => e = .returned (.tuple #[.string ⟨(stampS t).toArray⟩, .agg (cfL c).toArray, .int .i64 0]) ∧ Below wx.heap.size wx w' := by
    intro wx
    have h := HAns v 0 8207 [] wx hin (by decide)
    rw [show ansP v 0 8207 [] = ⟨stampS t, c, 0⟩ by rw [hv]; rfl] at h
    exact h
  have HA2 : ∀ wx : World, Calls Try.prog 12 #[.agg (vwL v).toArray, .int .i64 0, .int .i64 8193, .string ⟨#[]⟩] wx fun e w' => e = .returned (.tuple #[.string ⟨(curS v).toArray⟩, .agg (cfL c).toArray, .int .i64 0]) ∧ Below wx.heap.size wx w' := by
    intro wx
    have h := HAns v 0 8193 [] wx hin (by decide)
    rw [show ansP v 0 8193 [] = ⟨curS v, c, 0⟩ by rw [hv]; rfl] at h
    exact h
  have HA3 : ∀ wx : World, Calls Try.prog 12 #[.agg (vwL v).toArray, .int .i64 0, .int .i64 8194, .string ⟨#[]⟩] wx fun e w' => e = .returned (.tuple #[.string ⟨(parS q).toArray⟩, .agg (cfL c).toArray, .int .i64 0]) ∧ Below wx.heap.size wx w' := by
    intro wx
    have h := HAns v 0 8194 [] wx hin (by decide)
    rw [show ansP v 0 8194 [] = ⟨parS q, c, 0⟩ by rw [hv]; rfl] at h
    exact h
  have l1 : (stampS t).length = 10 := stampS_length t
  have l2 : (curS v).length = 18 := by unfold curS; simp only [List.length_append]; rw [putS_len _ _ (by decide) (by decide), putS_len _ _ (by decide) (by decide), putS_len _ _ (by decide) (by decide)]; rfl
  have lp : ∀ c p : Int, (portS c p).length = 10 := fun c p => by unfold portS; rw [List.length_append, putN_length, putS_len _ _ (by decide) (by decide)]; rfl
  have lq : ∀ c a v : Int, (qualS c a v).length = 4 := fun c a v => by unfold qualS; rw [List.length_append, List.length_append, putS_len _ _ (by decide) (by decide), putS_len _ _ (by decide) (by decide), putS_len _ _ (by decide) (by decide)]; rfl
  have l3 : (parS q).length = 32 := by unfold parS; simp only [List.length_append, lp, lq, putN_length, List.length_cons, List.length_nil]; rw [putS_len _ _ (by decide) (by decide), putS_len _ _ (by decide) (by decide)]; rfl
  have hst : stampT t = t := by unfold stampT mayB; rw [if_pos (by simp; omega)]
  have HN1 : ∀ w : World, Calls Try.prog 14 #[.string ⟨(stampS t).toArray⟩, .int .i64 0, .int .i64 6] w fun e w' => e = .returned (.int .i64 (t / 1000000000)) ∧ w' = w := by
    intro wx
    have h := numS_any (stampS t) 0 6 (by decide) (by rw [l1]; decide) (by rw [l1]; decide) wx
    have e : IntKind.i64.wrap ((numAt (stampS t) 0 6 : Nat) : Int) = t / 1000000000 := by
      have e1 : stampS t = [] ++ putS (t / 1000000000) 6 ++ putS (t % 1000000000) 4 := by unfold stampS; rw [hst]; rfl
      rw [e1, num_mid [] _ _ 0 6 rfl (putS_len _ _ (by decide) (by decide))]
      exact wrap_put6 _ (by omega) (by omega)
    rw [e] at h
    exact h
  have HN2 : ∀ w : World, Calls Try.prog 14 #[.string ⟨(stampS t).toArray⟩, .int .i64 6, .int .i64 4] w fun e w' => e = .returned (.int .i64 (t % 1000000000)) ∧ w' = w := by
    intro wx
    have h := numS_any (stampS t) 6 4 (by decide) (by rw [l1]; decide) (by rw [l1]; decide) wx
    have e : IntKind.i64.wrap ((numAt (stampS t) 6 4 : Nat) : Int) = t % 1000000000 := by
      have e1 : stampS t = putS (t / 1000000000) 6 ++ putS (t % 1000000000) 4 ++ [] := by unfold stampS; rw [hst, List.append_nil]
      rw [e1, num_mid _ _ _ 6 4 (putS_len _ _ (by decide) (by decide)) (putS_len _ _ (by decide) (by decide))]
      exact wrap_put4 _ (by omega) (by omega)
    rw [e] at h
    exact h
  have HN3 : ∀ w : World, Calls Try.prog 14 #[.string ⟨(curS v).toArray⟩, .int .i64 0, .int .i64 2] w fun e w' => e = .returned (.int .i64 (s)) ∧ w' = w := by
    intro wx
    have h := numS_any (curS v) 0 2 (by decide) (by rw [l2]; decide) (by rw [l2]; decide) wx
    have e : IntKind.i64.wrap ((numAt (curS v) 0 2 : Nat) : Int) = s := by
      have e1 : curS v = [] ++ putS s 2 ++ (putS (satI v.off) 8 ++ putS (satI v.dl) 8) := by unfold curS; rw [hv, hq, List.nil_append, List.append_assoc]
      rw [e1, num_mid [] _ _ 0 2 rfl (putS_len _ _ (by decide) (by decide))]
      exact wrap_put2 _ (by omega) (by omega)
    rw [e] at h
    exact h
  have HN4 : ∀ w : World, Calls Try.prog 14 #[.string ⟨(curS v).toArray⟩, .int .i64 2, .int .i64 8] w fun e w' => e = .returned (.int .i64 (o * 65536)) ∧ w' = w := by
    intro wx
    have h := numS_any (curS v) 2 8 (by decide) (by rw [l2]; decide) (by rw [l2]; decide) wx
    have e : IntKind.i64.wrap ((numAt (curS v) 2 8 : Nat) : Int) = o * 65536 := by
      have e0 : satI o = o * 65536 := by unfold satI; rw [if_neg (by omega), if_neg (by omega)]
      have e1 : curS v = putS v.p.st 2 ++ putS (o * 65536) 8 ++ putS (satI v.dl) 8 := by unfold curS; rw [← e0, hv]
      rw [e1, num_mid _ _ _ 2 8 (putS_len _ _ (by decide) (by decide)) (putS_len _ _ (by decide) (by decide))]
      exact wrap_put _ (by omega) (by omega)
    rw [e] at h
    exact h
  have HN5 : ∀ w : World, Calls Try.prog 14 #[.string ⟨(parS q).toArray⟩, .int .i64 24, .int .i64 8] w fun e w' => e = .returned (.int .i64 (IntKind.i64.wrap q.gr)) ∧ w' = w := by
    intro wx
    have h := numS_any (parS q) 24 8 (by decide) (by rw [l3]; decide) (by rw [l3]; decide) wx
    have e : IntKind.i64.wrap ((numAt (parS q) 24 8 : Nat) : Int) = IntKind.i64.wrap q.gr := by
      have e1 : parS q = (portS q.pc q.pp ++ [0, 0, 255, 255, 127, 255, 255, 255] ++ putS q.p1 1 ++ qualS q.qc q.qa q.qv ++ putS q.p2 1) ++ putN q.gr.toNat 8 ++ [] := by unfold parS; rw [List.append_nil]
      rw [e1, num_mid _ _ _ 24 8 (by simp only [List.length_append, lp, lq, List.length_cons, List.length_nil]; rw [putS_len _ _ (by decide) (by decide), putS_len _ _ (by decide) (by decide)]; rfl) (putN_length _ _)]
      exact wrap_putN _ hqi.2.2.1.1 hqi.2.2.1.2
    rw [e] at h
    exact h
  have HN6 : ∀ w : World, Calls Try.prog 14 #[.string ⟨(parS q).toArray⟩, .int .i64 0, .int .i64 8] w fun e w' => e = .returned (.int .i64 (IntKind.i64.wrap q.pc)) ∧ w' = w := by
    intro wx
    have h := numS_any (parS q) 0 8 (by decide) (by rw [l3]; decide) (by rw [l3]; decide) wx
    have e : IntKind.i64.wrap ((numAt (parS q) 0 8 : Nat) : Int) = IntKind.i64.wrap q.pc := by
      have e1 : parS q = [] ++ putN q.pc.toNat 8 ++ (putS q.pp 2 ++ ([0, 0, 255, 255, 127, 255, 255, 255] ++ putS q.p1 1 ++ qualS q.qc q.qa q.qv ++ putS q.p2 1 ++ putN q.gr.toNat 8)) := by unfold parS portS; simp only [List.append_assoc, List.nil_append]
      rw [e1, num_mid [] _ _ 0 8 rfl (putN_length _ _)]
      exact wrap_putN _ hqi.1.1 hqi.1.2
    rw [e] at h
    exact h
  obtain ⟨a, ha⟩ : ∃ a, stampS t = a := ⟨_, rfl⟩
  obtain ⟨b, hb'⟩ : ∃ b, curS v = b := ⟨_, rfl⟩
  obtain ⟨d, hd⟩ : ∃ d, parS q = d := ⟨_, rfl⟩
  rw [ha] at HA1 HN1 HN2 l1
  rw [hb'] at HA2 HN3 HN4 l2
  rw [hd] at HA3 HN5 HN6 l3
  have l1i : (a.length : Int) = 10 := by omega
  have l2i : (b.length : Int) = 18 := by omega
  have l3i : (d.length : Int) = 32 := by omega
  have hsum : IntKind.i64.wrap (t / 1000000000 * 1000000000) = t / 1000000000 * 1000000000 := by rw [IntKind.wrap_i64]; omega
  have hsum2 : IntKind.i64.wrap (t / 1000000000 * 1000000000 + t % 1000000000) = t := by rw [IntKind.wrap_i64]; omega
  have hmul : IntKind.i64.wrap (o * 65536) = o * 65536 := by rw [IntKind.wrap_i64]; omega
  replace HA1 := hid HA1
  replace HA2 := hid HA2
  replace HA3 := hid HA3
  replace HN1 := hid HN1
  replace HN2 := hid HN2
  replace HN3 := hid HN3
  replace HN4 := hid HN4
  replace HN5 := hid HN5
  replace HN6 := hid HN6
  have L1 := hid l1i
  have L2 := hid l2i
  have L3 := hid l3i
  have HSUM := hid hsum
  have HSUM2 := hid hsum2
  have HMUL := hid hmul
  have HV := hid hv
  have HQ := hid hq
  have HQS := hid hqs
  clear l1 l2 l3 l1i l2i l3i hsum hsum2 hmul hv hq hqs hin hqi lp lq hst ha hb' hd hvc ht ho hs hok
  have hc := P.cell 8 _ rfl
  have hf := P.free 8
  go_upto_region 6 with fail
  replace P := P.set 8 (.int .i64 s)
  replace C := C.other n_C_P 8 (.int .i64 s)
  replace hb := hb.setCell (p := ⟨G + 1, 8, none⟩) l_P (.int .i64 s)
  generalize World.setCell _ _ _ = w2 at *
  clear hc hf
  have P2 : Box w2 (G + 1) (paK.enc q) 39 := by
    rw [HQ.out]
    exact P
  clear hm1 hm2 hm3 P
  have P := P2
  clear P2
  have hn1 := bnew w2 (Obj.cells (vzK.enc ((vw0 zeroC))).toArray 41)
  have hM0 := Box.new w2 (vzK.enc ((vw0 zeroC))) 41
  go_upto_region 7 with (first | (guard_target =~ wpList _ _ _ (⟨some 34, _, _, _, _, _⟩ :: _) _ _; refine cfT.load (op := ⟨some 34, .load _ _, _, _, _, _⟩) (by rfl) _ (by rfl) G 0 (by rfl) (c) C.rangeK ?_) | (guard_target =~ wpList _ _ _ (⟨some 35, _, _, _, _, _⟩ :: _) _ _; refine paT6.load (op := ⟨some 35, .load _ _, _, _, _, _⟩) (by rfl) _ (by rfl) (G + 1) 0 (by rfl) (q) P.rangeK ?_) | (guard_target =~ wpList _ _ _ (⟨some 38, _, _, _, _, _⟩ :: _) _ _; refine wpList_build_any (op := ⟨some 38, .build _ _, _, _, _, _⟩) (by rfl) _ _ (by rfl) _ (by rfl) (vzK.enc v).toArray (by rw [HV.out]; kernel_rfl) ?_) | (guard_target =~ wpList _ _ _ (⟨none, _, _, _, _, _⟩ :: _) _ _; refine vzT.store (op := ⟨none, .store _ _ _, _, _, _, _⟩) (by rfl) _ _ (by rfl) (w2.heap.size) (v) ((vw0 zeroC)) _ (by rfl) (by rfl) hM0 ?_))
  have n_C_X : G ≠ w2.heap.size := by have h1 := C.lt; have h2 := Nat.le_refl w2.heap.size; omega
  have n_P_X : G + 1 ≠ w2.heap.size := by have h1 := P.lt; have h2 := Nat.le_refl w2.heap.size; omega
  have l_X : w.heap.size ≤ w2.heap.size := Nat.le_trans hb.size (Nat.le_refl w2.heap.size)
  have X := hM0.rowK (vzK.enc (v))
  replace C := (C.below hn1).rowK_other (k := w2.heap.size) n_C_X (vzK.enc (v)).toArray
  replace P := (P.below hn1).rowK_other (k := w2.heap.size) n_P_X (vzK.enc (v)).toArray
  have hW := below_setRow hn1 (Nat.le_refl _) (vzK.enc (v)).toArray
  replace hb := bnext hb hW
  change Code.wp Try.prog _ _ _ ((w2.alloc (Obj.cells (vzK.enc ((vw0 zeroC))).toArray 41)).setRow w2.heap.size (vzK.enc (v)).toArray)
  generalize (w2.alloc (Obj.cells (vzK.enc ((vw0 zeroC))).toArray 41)).setRow w2.heap.size (vzK.enc (v)).toArray = w3 at *
  clear hn1 hM0 hW
  generalize w2.heap.size = GV at *
  go_wp2_with (guard_target =~ wpList _ _ _ (⟨some 40, _, _, _, _, _⟩ :: _) _ _; refine vzT.load (op := ⟨some 40, .load _ _, _, _, _, _⟩) (by rfl) _ (by rfl) GV 0 (by rfl) (v) X.rangeK ?_)
  refine (HA1.out w3).mono ?_
  rintro e w4 ⟨rfl, bq⟩
  replace C := C.below bq
  replace P := P.below bq
  replace X := X.below bq
  replace hb := bnext hb bq
  clear bq
  have hn1 := bnew w4 (Obj.cells (cfK.enc (zeroC)).toArray 28)
  have hM0 := Box.new w4 (cfK.enc (zeroC)) 28
  go_upto_region 8 with (guard_target =~ wpList _ _ _ (⟨none, _, _, _, _, _⟩ :: _) _ _; refine cfT.store (op := ⟨none, .store _ _ _, _, _, _, _⟩) (by rfl) _ _ (by rfl) (w4.heap.size) (c) (zeroC) _ (by rfl) (by rfl) hM0 ?_)
  have n_C_D0 : G ≠ w4.heap.size := by have h1 := C.lt; have h2 := Nat.le_refl w4.heap.size; omega
  have n_P_D0 : G + 1 ≠ w4.heap.size := by have h1 := P.lt; have h2 := Nat.le_refl w4.heap.size; omega
  have n_X_D0 : GV ≠ w4.heap.size := by have h1 := X.lt; have h2 := Nat.le_refl w4.heap.size; omega
  have l_D0 : w.heap.size ≤ w4.heap.size := Nat.le_trans hb.size (Nat.le_refl w4.heap.size)
  have D0 := hM0.rowK (cfK.enc (c))
  replace C := (C.below hn1).rowK_other (k := w4.heap.size) n_C_D0 (cfK.enc (c)).toArray
  replace P := (P.below hn1).rowK_other (k := w4.heap.size) n_P_D0 (cfK.enc (c)).toArray
  replace X := (X.below hn1).rowK_other (k := w4.heap.size) n_X_D0 (cfK.enc (c)).toArray
  have hW := below_setRow hn1 (Nat.le_refl _) (cfK.enc (c)).toArray
  replace hb := bnext hb hW
  change Code.wp Try.prog _ _ _ ((w4.alloc (Obj.cells (cfK.enc (zeroC)).toArray 28)).setRow w4.heap.size (cfK.enc (c)).toArray)
  generalize (w4.alloc (Obj.cells (cfK.enc (zeroC)).toArray 28)).setRow w4.heap.size (cfK.enc (c)).toArray = w5 at *
  clear hn1 hM0 hW
  generalize w4.heap.size = gd0 at *
  clear D0 l_D0 n_C_D0 n_P_D0 n_X_D0
  go_wp2_with (guard_target =~ wpList _ _ _ (⟨some 46, _, _, _, _, _⟩ :: _) _ _; refine vzT.load (op := ⟨some 46, .load _ _, _, _, _, _⟩) (by rfl) _ (by rfl) GV 0 (by rfl) (v) X.rangeK ?_)
  refine (HA2.out w5).mono ?_
  rintro e w6 ⟨rfl, bq⟩
  replace C := C.below bq
  replace P := P.below bq
  replace X := X.below bq
  replace hb := bnext hb bq
  clear bq
  have hn1 := bnew w6 (Obj.cells (cfK.enc (zeroC)).toArray 28)
  have hM0 := Box.new w6 (cfK.enc (zeroC)) 28
  go_upto_region 9 with (guard_target =~ wpList _ _ _ (⟨none, _, _, _, _, _⟩ :: _) _ _; refine cfT.store (op := ⟨none, .store _ _ _, _, _, _, _⟩) (by rfl) _ _ (by rfl) (w6.heap.size) (c) (zeroC) _ (by rfl) (by rfl) hM0 ?_)
  have n_C_D1 : G ≠ w6.heap.size := by have h1 := C.lt; have h2 := Nat.le_refl w6.heap.size; omega
  have n_P_D1 : G + 1 ≠ w6.heap.size := by have h1 := P.lt; have h2 := Nat.le_refl w6.heap.size; omega
  have n_X_D1 : GV ≠ w6.heap.size := by have h1 := X.lt; have h2 := Nat.le_refl w6.heap.size; omega
  have l_D1 : w.heap.size ≤ w6.heap.size := Nat.le_trans hb.size (Nat.le_refl w6.heap.size)
  have D1 := hM0.rowK (cfK.enc (c))
  replace C := (C.below hn1).rowK_other (k := w6.heap.size) n_C_D1 (cfK.enc (c)).toArray
  replace P := (P.below hn1).rowK_other (k := w6.heap.size) n_P_D1 (cfK.enc (c)).toArray
  replace X := (X.below hn1).rowK_other (k := w6.heap.size) n_X_D1 (cfK.enc (c)).toArray
  have hW := below_setRow hn1 (Nat.le_refl _) (cfK.enc (c)).toArray
  replace hb := bnext hb hW
  change Code.wp Try.prog _ _ _ ((w6.alloc (Obj.cells (cfK.enc (zeroC)).toArray 28)).setRow w6.heap.size (cfK.enc (c)).toArray)
  generalize (w6.alloc (Obj.cells (cfK.enc (zeroC)).toArray 28)).setRow w6.heap.size (cfK.enc (c)).toArray = w7 at *
  clear hn1 hM0 hW
  generalize w6.heap.size = gd1 at *
  clear D1 l_D1 n_C_D1 n_P_D1 n_X_D1
  go_wp2_with (guard_target =~ wpList _ _ _ (⟨some 52, _, _, _, _, _⟩ :: _) _ _; refine vzT.load (op := ⟨some 52, .load _ _, _, _, _, _⟩) (by rfl) _ (by rfl) GV 0 (by rfl) (v) X.rangeK ?_)
  refine (HA3.out w7).mono ?_
  rintro e w8 ⟨rfl, bq⟩
  replace C := C.below bq
  replace P := P.below bq
  replace X := X.below bq
  replace hb := bnext hb bq
  clear bq
  have hn1 := bnew w8 (Obj.cells (cfK.enc (zeroC)).toArray 28)
  have hM0 := Box.new w8 (cfK.enc (zeroC)) 28
  go_upto_region 10 with (guard_target =~ wpList _ _ _ (⟨none, _, _, _, _, _⟩ :: _) _ _; refine cfT.store (op := ⟨none, .store _ _ _, _, _, _, _⟩) (by rfl) _ _ (by rfl) (w8.heap.size) (c) (zeroC) _ (by rfl) (by rfl) hM0 ?_)
  have n_C_D2 : G ≠ w8.heap.size := by have h1 := C.lt; have h2 := Nat.le_refl w8.heap.size; omega
  have n_P_D2 : G + 1 ≠ w8.heap.size := by have h1 := P.lt; have h2 := Nat.le_refl w8.heap.size; omega
  have n_X_D2 : GV ≠ w8.heap.size := by have h1 := X.lt; have h2 := Nat.le_refl w8.heap.size; omega
  have l_D2 : w.heap.size ≤ w8.heap.size := Nat.le_trans hb.size (Nat.le_refl w8.heap.size)
  have D2 := hM0.rowK (cfK.enc (c))
  replace C := (C.below hn1).rowK_other (k := w8.heap.size) n_C_D2 (cfK.enc (c)).toArray
  replace P := (P.below hn1).rowK_other (k := w8.heap.size) n_P_D2 (cfK.enc (c)).toArray
  replace X := (X.below hn1).rowK_other (k := w8.heap.size) n_X_D2 (cfK.enc (c)).toArray
  have hW := below_setRow hn1 (Nat.le_refl _) (cfK.enc (c)).toArray
  replace hb := bnext hb hW
  change Code.wp Try.prog _ _ _ ((w8.alloc (Obj.cells (cfK.enc (zeroC)).toArray 28)).setRow w8.heap.size (cfK.enc (c)).toArray)
  generalize (w8.alloc (Obj.cells (cfK.enc (zeroC)).toArray 28)).setRow w8.heap.size (cfK.enc (c)).toArray = w9 at *
  clear hn1 hM0 hW
  generalize w8.heap.size = gd2 at *
  clear D2 l_D2 n_C_D2 n_P_D2 n_X_D2
  have l1i := L1.out
  have l2i := L2.out
  have l3i := L3.out
  go_upto_region 13 with fail
  clear l1i l2i l3i
  have HX := hid fun (wx : World) (h : Below w9.heap.size w9 wx) => (P.below h).cell 8 (.int .i64 s) (by show some (Value.int .i64 q.st) = _; rw [HQS.out])
  have HY := hid fun (wx : World) (h : Below w9.heap.size w9 wx) => (P.below h).cell 2 (.int .u64 q.gr) rfl
  have HZ := hid fun (wx : World) (h : Below w9.heap.size w9 wx) => (P.below h).cell 0 (.int .u64 q.pc) rfl
  have hb0 := hid hb
  clear C P X hb
  have hsum := HSUM.out
  have hsum2 := HSUM2.out
  have hmul := HMUL.out
  clear HSUM HSUM2 HMUL HV HQ HQS L1 L2 L3 HA1 HA2 HA3
  refine wp_region_held_drew (S := fun w' => Below w9.drew.heap.size w9.drew w') (by kernel_rfl) (Below.refl _ _) ?_
  intro hHeld
  have hbW := Below.drew (Below.refl w9.heap.size w9)
  generalize w9.drew = wd at *
  have hcX := fun wx h => HX.out wx (bnext hbW h)
  have hcY := fun wx h => HY.out wx (bnext hbW h)
  have hcZ := fun wx h => HZ.out wx (bnext hbW h)
  refine rtake 0 rfl (by rfl) (by kernel_rfl) (by kernel_rfl) (by kernel_rfl) (fun _ _ _ h => h) hHeld (fun wx hwx => by go_simp; try with_reducible rfl) ?_
  try simp only [Act.put, List.setIfInBounds_toArray, List.set_cons_zero, List.set_cons_succ]
  refine rtake 1 rfl (by rfl) (by kernel_rfl) (by kernel_rfl) (by kernel_rfl) (fun _ _ _ h => h) hHeld (fun wx hwx => by go_simp; try with_reducible rfl) ?_
  try simp only [Act.put, List.setIfInBounds_toArray, List.set_cons_zero, List.set_cons_succ]
  refine rtake 4 rfl (by rfl) (by kernel_rfl) (by kernel_rfl) (by kernel_rfl) (fun _ _ _ h => h) hHeld (fun wx hwx => by go_simp; try with_reducible rfl) ?_
  try simp only [Act.put, List.setIfInBounds_toArray, List.set_cons_zero, List.set_cons_succ]
  refine rtake 5 rfl (by rfl) (by kernel_rfl) (by kernel_rfl) (by kernel_rfl) (fun _ _ _ h => h) hHeld (fun wx hwx => by go_simp; try with_reducible rfl) ?_
  try simp only [Act.put, List.setIfInBounds_toArray, List.set_cons_zero, List.set_cons_succ]
  refine rtake 8 rfl (by rfl) (by kernel_rfl) (by kernel_rfl) (by kernel_rfl) (fun _ _ _ h => h) hHeld (fun wx hwx => by go_simp; try with_reducible rfl) ?_
  try simp only [Act.put, List.setIfInBounds_toArray, List.set_cons_zero, List.set_cons_succ]
  -- CALL 2: some 84 := Op.call { callee := Callee.value (Operand.tmp 82), args := #[Operand.tmp 83, Operand.const (Value.int IntKind.i64 0), Operand.const (Value.int IntKind.i64 6)], argTypes := #[9, 3, 3] }
  refine rcall 2 rfl (by kernel_rfl) (by rfl) (fun K hK => ?_)
  go_simp
  refine (HN1.out _).mono ?_
  rintro e wx2 ⟨rfl, rfl⟩
  refine hK.out _ _ hHeld ?_
  clear hK K
  try simp only [Act.put, List.setIfInBounds_toArray, List.set_cons_zero, List.set_cons_succ]
  refine rtake 3 rfl (by rfl) (by kernel_rfl) (by kernel_rfl) (by kernel_rfl) (fun _ _ _ h => h) hHeld (fun wx hwx => by go_simp; try with_reducible rfl) ?_
  try simp only [Act.put, List.setIfInBounds_toArray, List.set_cons_zero, List.set_cons_succ]
  -- CALL 6: some 88 := Op.call { callee := Callee.value (Operand.tmp 86), args := #[Operand.tmp 87, Operand.const (Value.int IntKind.i64 6), Operand.const (Value.int IntKind.i64 4)], argTypes := #[9, 3, 3] }
  refine rcall 6 rfl (by kernel_rfl) (by rfl) (fun K hK => ?_)
  go_simp
  refine (HN2.out _).mono ?_
  rintro e wx6 ⟨rfl, rfl⟩
  refine hK.out _ _ hHeld ?_
  clear hK K
  try simp only [Act.put, List.setIfInBounds_toArray, List.set_cons_zero, List.set_cons_succ]
  refine rtake 7 rfl (by rfl) (by kernel_rfl) (by kernel_rfl) (by kernel_rfl) (fun _ _ _ h => h) hHeld (fun wx hwx => by go_simp; try with_reducible rfl) ?_
  try simp only [Act.put, List.setIfInBounds_toArray, List.set_cons_zero, List.set_cons_succ]
  refine rtake 9 rfl (by rfl) (by kernel_rfl) (by kernel_rfl) (by kernel_rfl) (fun _ _ _ h => h) hHeld (fun wx hwx => by go_simp; try with_reducible rfl) ?_
  try simp only [Act.put, List.setIfInBounds_toArray, List.set_cons_zero, List.set_cons_succ]
  refine rtake 10 rfl (by rfl) (by kernel_rfl) (by kernel_rfl) (by kernel_rfl) (fun _ _ _ h => h) hHeld (fun wx hwx => by go_simp; try with_reducible rfl) ?_
  try simp only [Act.put, List.setIfInBounds_toArray, List.set_cons_zero, List.set_cons_succ]
  refine rtake 11 rfl (by rfl) (by kernel_rfl) (by kernel_rfl) (by kernel_rfl) (fun _ _ _ h => h) hHeld (fun wx hwx => by go_simp; try with_reducible rfl) ?_
  try simp only [Act.put, List.setIfInBounds_toArray, List.set_cons_zero, List.set_cons_succ]
  refine rtake 12 rfl (by rfl) (by kernel_rfl) (by kernel_rfl) (by kernel_rfl) (fun _ _ _ h => h) hHeld (fun wx hwx => by go_simp; try with_reducible rfl) ?_
  try simp only [Act.put, List.setIfInBounds_toArray, List.set_cons_zero, List.set_cons_succ]
  refine rtake 14 rfl (by rfl) (by kernel_rfl) (by kernel_rfl) (by kernel_rfl) (fun _ _ _ h => h) hHeld (fun wx hwx => by go_simp; try with_reducible rfl) ?_
  try simp only [Act.put, List.setIfInBounds_toArray, List.set_cons_zero, List.set_cons_succ]
  refine rtake 15 rfl (by rfl) (by kernel_rfl) (by kernel_rfl) (by kernel_rfl) (fun _ _ _ h => h) hHeld (fun wx hwx => by go_simp; try with_reducible rfl) ?_
  try simp only [Act.put, List.setIfInBounds_toArray, List.set_cons_zero, List.set_cons_succ]
  -- CALL 13: some 95 := Op.call { callee := Callee.value (Operand.tmp 93), args := #[Operand.tmp 94, Operand.const (Value.int IntKind.i64 0), Operand.const (Value.int IntKind.i64 2)], argTypes := #[9, 3, 3] }
  refine rcall 13 rfl (by kernel_rfl) (by rfl) (fun K hK => ?_)
  go_simp
  refine (HN3.out _).mono ?_
  rintro e wx13 ⟨rfl, rfl⟩
  refine hK.out _ _ hHeld ?_
  clear hK K
  try simp only [Act.put, List.setIfInBounds_toArray, List.set_cons_zero, List.set_cons_succ]
  refine rtake 16 rfl (by rfl) (by kernel_rfl) (by kernel_rfl) (by kernel_rfl) (fun _ _ _ h => h) hHeld (fun wx hwx => by go_simp; try with_reducible rfl) ?_
  try simp only [Act.put, List.setIfInBounds_toArray, List.set_cons_zero, List.set_cons_succ]
  refine rtake 17 rfl (by rfl) (by kernel_rfl) (by kernel_rfl) (by kernel_rfl) (fun _ _ _ h => h) hHeld (fun wx hwx => by go_simp; try with_reducible rfl) ?_
  try simp only [Act.put, List.setIfInBounds_toArray, List.set_cons_zero, List.set_cons_succ]
  refine rtake 18 rfl (by rfl) (by kernel_rfl) (by kernel_rfl) (by kernel_rfl) (fun _ _ _ h => h) hHeld (fun wx hwx => by go_simp; try with_reducible rfl) ?_
  try simp only [Act.put, List.setIfInBounds_toArray, List.set_cons_zero, List.set_cons_succ]
  refine rtake 19 rfl (by rfl) (by kernel_rfl) (by kernel_rfl) (by kernel_rfl) (fun _ _ _ h => h) hHeld (fun wx hwx => by go_simp; try with_reducible rfl) ?_
  try simp only [Act.put, List.setIfInBounds_toArray, List.set_cons_zero, List.set_cons_succ]
  refine rtake 20 rfl (by rfl) (by kernel_rfl) (by kernel_rfl) (by kernel_rfl) (fun _ _ _ h => h) hHeld (fun wx hwx => by go_simp; try with_reducible rfl) ?_
  try simp only [Act.put, List.setIfInBounds_toArray, List.set_cons_zero, List.set_cons_succ]
  refine rtake 22 rfl (by rfl) (by kernel_rfl) (by kernel_rfl) (by kernel_rfl) (fun _ _ _ h => h) hHeld (fun wx hwx => by go_simp; try with_reducible rfl) ?_
  try simp only [Act.put, List.setIfInBounds_toArray, List.set_cons_zero, List.set_cons_succ]
  refine rtake 23 rfl (by rfl) (by kernel_rfl) (by kernel_rfl) (by kernel_rfl) (fun _ _ _ h => h) hHeld (fun wx hwx => by go_simp; try with_reducible rfl) ?_
  try simp only [Act.put, List.setIfInBounds_toArray, List.set_cons_zero, List.set_cons_succ]
  -- CALL 21: some 103 := Op.call { callee := Callee.value (Operand.tmp 101), args := #[Operand.tmp 102, Operand.const (Value.int IntKind.i64 2), Operand.const (Value.int IntKind.i64 8)], argTypes := #[9, 3, 3] }
  refine rcall 21 rfl (by kernel_rfl) (by rfl) (fun K hK => ?_)
  go_simp
  refine (HN4.out _).mono ?_
  rintro e wx21 ⟨rfl, rfl⟩
  refine hK.out _ _ hHeld ?_
  clear hK K
  try simp only [Act.put, List.setIfInBounds_toArray, List.set_cons_zero, List.set_cons_succ]
  refine rtake 24 rfl (by rfl) (by kernel_rfl) (by kernel_rfl) (by kernel_rfl) (fun _ _ _ h => h) hHeld (fun wx hwx => by go_simp; try with_reducible rfl) ?_
  try simp only [Act.put, List.setIfInBounds_toArray, List.set_cons_zero, List.set_cons_succ]
  refine rtake 25 rfl (by rfl) (by kernel_rfl) (by kernel_rfl) (by kernel_rfl) (fun _ _ _ h => h) hHeld (fun wx hwx => by go_simp; try with_reducible rfl) ?_
  try simp only [Act.put, List.setIfInBounds_toArray, List.set_cons_zero, List.set_cons_succ]
  refine rtake 26 rfl (by rfl) (by kernel_rfl) (by kernel_rfl) (by kernel_rfl) (fun _ _ _ h => h) hHeld (fun wx hwx => by go_simp; try with_reducible rfl) ?_
  try simp only [Act.put, List.setIfInBounds_toArray, List.set_cons_zero, List.set_cons_succ]
  refine rtake 27 rfl (by rfl) (by kernel_rfl) (by kernel_rfl) (by kernel_rfl) (fun _ _ _ h => h) hHeld (fun wx hwx => by go_simp; try with_reducible rfl) ?_
  try simp only [Act.put, List.setIfInBounds_toArray, List.set_cons_zero, List.set_cons_succ]
  refine rtake 28 rfl (by rfl) (by kernel_rfl) (by kernel_rfl) (by kernel_rfl) (fun _ _ _ h => h) hHeld (fun wx hwx => by go_simp; try with_reducible rfl) ?_
  try simp only [Act.put, List.setIfInBounds_toArray, List.set_cons_zero, List.set_cons_succ]
  refine rtake 30 rfl (by rfl) (by kernel_rfl) (by kernel_rfl) (by kernel_rfl) (fun _ _ _ h => h) hHeld (fun wx hwx => by go_simp; try with_reducible rfl) ?_
  try simp only [Act.put, List.setIfInBounds_toArray, List.set_cons_zero, List.set_cons_succ]
  refine rtake 31 rfl (by rfl) (by kernel_rfl) (by kernel_rfl) (by kernel_rfl) (fun _ _ _ h => h) hHeld (fun wx hwx => by go_simp; try with_reducible rfl) ?_
  try simp only [Act.put, List.setIfInBounds_toArray, List.set_cons_zero, List.set_cons_succ]
  refine rtake 32 rfl (by rfl) (by kernel_rfl) (by kernel_rfl) (by kernel_rfl) (fun _ _ _ h => h) hHeld (fun wx hwx => by go_simp; try with_reducible rfl) ?_
  try simp only [Act.put, List.setIfInBounds_toArray, List.set_cons_zero, List.set_cons_succ]
  -- CALL 29: some 111 := Op.call { callee := Callee.value (Operand.tmp 109), args := #[Operand.tmp 110, Operand.const (Value.int IntKind.i64 24), Operand.const (Value.int IntKind.i64 8)], argTypes := #[9, 3, 3] }
  refine rcall 29 rfl (by kernel_rfl) (by rfl) (fun K hK => ?_)
  go_simp
  refine (HN5.out _).mono ?_
  rintro e wx29 ⟨rfl, rfl⟩
  refine hK.out _ _ hHeld ?_
  clear hK K
  try simp only [Act.put, List.setIfInBounds_toArray, List.set_cons_zero, List.set_cons_succ]
  refine rtake 33 rfl (by rfl) (by kernel_rfl) (by kernel_rfl) (by kernel_rfl) (fun _ _ _ h => h) hHeld (fun wx hwx => by go_simp; try with_reducible rfl) ?_
  try simp only [Act.put, List.setIfInBounds_toArray, List.set_cons_zero, List.set_cons_succ]
  refine rtake 34 rfl (by rfl) (by kernel_rfl) (by kernel_rfl) (by kernel_rfl) (fun _ _ _ h => h) hHeld (fun wx hwx => by go_simp; try with_reducible rfl) ?_
  try simp only [Act.put, List.setIfInBounds_toArray, List.set_cons_zero, List.set_cons_succ]
  refine rtake 35 rfl (by rfl) (by kernel_rfl) (by kernel_rfl) (by kernel_rfl) (fun _ _ _ h => h) hHeld (fun wx hwx => by go_simp; try with_reducible rfl) ?_
  try simp only [Act.put, List.setIfInBounds_toArray, List.set_cons_zero, List.set_cons_succ]
  refine rtake 36 rfl (by rfl) (by kernel_rfl) (by kernel_rfl) (by kernel_rfl) (fun _ _ _ h => h) hHeld (fun wx hwx => by go_simp; try with_reducible rfl) ?_
  try simp only [Act.put, List.setIfInBounds_toArray, List.set_cons_zero, List.set_cons_succ]
  refine rtake 37 rfl (by rfl) (by kernel_rfl) (by kernel_rfl) (by kernel_rfl) (fun _ _ _ h => h) hHeld (fun wx hwx => by go_simp; try with_reducible rfl) ?_
  try simp only [Act.put, List.setIfInBounds_toArray, List.set_cons_zero, List.set_cons_succ]
  refine rtake 39 rfl (by rfl) (by kernel_rfl) (by kernel_rfl) (by kernel_rfl) (fun _ _ _ h => h) hHeld (fun wx hwx => by go_simp; try with_reducible rfl) ?_
  try simp only [Act.put, List.setIfInBounds_toArray, List.set_cons_zero, List.set_cons_succ]
  refine rtake 40 rfl (by rfl) (by kernel_rfl) (by kernel_rfl) (by kernel_rfl) (fun _ _ _ h => h) hHeld (fun wx hwx => by go_simp; try with_reducible rfl) ?_
  try simp only [Act.put, List.setIfInBounds_toArray, List.set_cons_zero, List.set_cons_succ]
  refine rtake 41 rfl (by rfl) (by kernel_rfl) (by kernel_rfl) (by kernel_rfl) (fun _ _ _ h => h) hHeld (fun wx hwx => by go_simp; try with_reducible rfl) ?_
  try simp only [Act.put, List.setIfInBounds_toArray, List.set_cons_zero, List.set_cons_succ]
  refine rtake 42 rfl (by rfl) (by kernel_rfl) (by kernel_rfl) (by kernel_rfl) (fun _ _ _ h => h) hHeld (fun wx hwx => by go_simp; try with_reducible rfl) ?_
  try simp only [Act.put, List.setIfInBounds_toArray, List.set_cons_zero, List.set_cons_succ]
  -- CALL 38: some 120 := Op.call { callee := Callee.value (Operand.tmp 118), args := #[Operand.tmp 119, Operand.const (Value.int IntKind.i64 0), Operand.const (Value.int IntKind.i64 8)], argTypes := #[9, 3, 3] }
  refine rcall 38 rfl (by kernel_rfl) (by rfl) (fun K hK => ?_)
  go_simp
  refine (HN6.out _).mono ?_
  rintro e wx38 ⟨rfl, rfl⟩
  refine hK.out _ _ hHeld ?_
  clear hK K
  try simp only [Act.put, List.setIfInBounds_toArray, List.set_cons_zero, List.set_cons_succ]
  refine rtake 43 rfl (by rfl) (by kernel_rfl) (by kernel_rfl) (by kernel_rfl) (fun _ _ _ h => h) hHeld (fun wx hwx => by go_simp; try with_reducible rfl) ?_
  try simp only [Act.put, List.setIfInBounds_toArray, List.set_cons_zero, List.set_cons_succ]
  refine rtake 44 rfl (by rfl) (by kernel_rfl) (by kernel_rfl) (by kernel_rfl) (fun _ _ _ h => h) hHeld (fun wx hwx => by go_simp; try with_reducible rfl) ?_
  try simp only [Act.put, List.setIfInBounds_toArray, List.set_cons_zero, List.set_cons_succ]
  refine rtake 45 rfl (by rfl) (by kernel_rfl) (by kernel_rfl) (by kernel_rfl) (fun _ _ _ h => h) hHeld (fun wx hwx => by go_simp; try with_reducible rfl) ?_
  try simp only [Act.put, List.setIfInBounds_toArray, List.set_cons_zero, List.set_cons_succ]
  -- CALL 46: some 128 := Op.call { callee := Callee.value (Operand.func 10), args := #[], argTypes := #[] }
  refine rcall 46 rfl (by kernel_rfl) (by rfl) (fun K hK => ?_)
  go_simp
  refine (awake22_from HDef HAns HKno HPer _).mono ?_
  rintro e wx46 ⟨rfl, hbel⟩
  refine hK.out _ _ hbel ?_
  clear hK K
  refine wpAnyH_mono (S' := fun w' => Below wx46.heap.size wx46 w') (fun w' h => bnext hbel h) _ _ _ _ ?_
  have hH := Below.refl wx46.heap.size wx46
  have hW := bnext hbW hbel
  clear hbel hbW hHeld
  have hHeld := hH
  have hbW := hW
  clear hH hW
  have hsz46 := hbW.size
  replace hcX := fun wx h => HX.out wx (bnext hbW h)
  replace hcY := fun wx h => HY.out wx (bnext hbW h)
  replace hcZ := fun wx h => HZ.out wx (bnext hbW h)
  try simp only [Act.put, List.setIfInBounds_toArray, List.set_cons_zero, List.set_cons_succ]
  refine rtake 47 rfl (by rfl) (by kernel_rfl) (by kernel_rfl) (by kernel_rfl) (fun _ _ _ h => h) hHeld (fun wx hwx => by go_simp; try with_reducible rfl) ?_
  try simp only [Act.put, List.setIfInBounds_toArray, List.set_cons_zero, List.set_cons_succ]
  refine rtake 48 rfl (by rfl) (by kernel_rfl) (by kernel_rfl) (by kernel_rfl) (fun _ _ _ h => h) hHeld (fun wx hwx => by go_simp; try with_reducible rfl) ?_
  try simp only [Act.put, List.setIfInBounds_toArray, List.set_cons_zero, List.set_cons_succ]
  refine wpAnyH_done (by kernel_rfl) ?_ _
  go_wp2_with fail
  go_ret
  exact ⟨rfl, bnext hb0.out hbW⟩
end Go.Proofs.Ytgjffmhlehcoiaa
