/- Laws of chapter 8, from contracts of the program's own that are handed in: TlvKinds (gen_tlvkinds.py). -/
import Derived.Test.YtdhdlpoopehmlaaTlvLaws
import Derived.Test.YtdhdlpoopehmlaaTlvRef4
import Derived.Test.YtdhdlpoopehmlaaTlvRef5
import Derived.Test.YtdhdlpoopehmlaaTlvRef6
import Derived.Test.YtdhdlpoopehmlaaTlvRef7
import Derived.Test.YtdhdlpoopehmlaaTlvRef8
namespace Go.Proofs.Ytdhdlpoopehmlaa
open Go.RowKit Go.Proofs
set_option linter.unusedVariables false
set_option linter.unusedSimpArgs false

def Path8 : Prop := ∀ (v : Value) (zs : List Int) (w : World), Ids w v zs → zs.length ≤ 140737488355328 → (∀ z ∈ zs, 0 ≤ z ∧ z < 18446744073709551616) →
  Calls Try.prog 25 #[v] w fun r w' => r = .returned (.tuple #[tlvV (pathT zs).1, .bool (pathT zs).2]) ∧ Below w.heap.size w w'
def Manage8 : Prop := ∀ (i : Int) (m : List UInt8) (w : World), m.length ≤ 140737488355320 →
  Calls Try.prog 28 #[.int .i64 i, sv m] w fun r w' => r = .returned (.tuple #[tlvV (manageT i m).1, .bool (manageT i m).2]) ∧ Below w.heap.size w w'
def Fault8 : Prop := ∀ (e i : Int) (w : World),
  Calls Try.prog 30 #[.int .i64 e, .int .i64 i] w fun r w' => r = .returned (.tuple #[tlvV (faultT e i).1, .bool (faultT e i).2]) ∧ Below w.heap.size w w'
def PathOf8 : Prop := ∀ (c : Int) (s : List UInt8) (w : World), s.length ≤ 140737488355328 →
  Calls Try.prog 32 #[tlvV (c, s)] w fun e w' => ∃ v', e = .returned (.tuple #[v', .bool (pathOfT (c, s)).2]) ∧ OwnI w' w.heap.size v' (pathOfT (c, s)).1 ∧ Below w.heap.size w w'
def ManageOf8 : Prop := ∀ (c : Int) (s : List UInt8) (w : World), s.length ≤ 140737488355328 →
  Calls Try.prog 34 #[tlvV (c, s)] w fun e w' => e = .returned (.tuple #[.int .i64 ((manageOfT (c, s)).1 : Nat), sv (manageOfT (c, s)).2.1, .bool (manageOfT (c, s)).2.2]) ∧ Below w.heap.size w w'
def FaultOf8 : Prop := ∀ (c : Int) (s : List UInt8) (w : World), s.length ≤ 140737488355328 →
  Calls Try.prog 36 #[tlvV (c, s)] w fun e w' => e = .returned (.tuple #[.int .i64 ((faultOfT (c, s)).1 : Nat), .int .i64 ((faultOfT (c, s)).2.1 : Nat), .bool (faultOfT (c, s)).2.2]) ∧ Below w.heap.size w w'

set_option maxRecDepth 100000 in
set_option maxHeartbeats 8000000 in
theorem tlvKinds_from (HA : Awake8) (HP : Path8) (HM : Manage8) (HF : Fault8) (HPO : PathOf8) (HMO : ManageOf8) (HFO : FaultOf8)
    (v : Value) (zs : List Int) (i : Int) (m : List UInt8) (e : Int) (c : Int) (s : List UInt8) (w : World) (hB : Ids w v zs) (hl : zs.length * 8 ≤ 140737488355232) (hz : ∀ z ∈ zs, 0 ≤ z ∧ z < 18446744073709551616)
    (hm : m.length ≤ 9223372036854775807) (hs : s.length ≤ 9223372036854775807) (hall : zs.length ≤ 40 ∧ m.length ≤ 900 ∧ s.length ≤ 900) :
    Calls Try.prog 5 #[v, .int .i64 i, sv m, .int .i64 e, tlvV (c, s)] w fun e w' => e = .returned (.bool true) ∧ Below w.heap.size w w' := by
  obtain ⟨h1, h2, h3⟩ := hall
  obtain ⟨W, hW, hbW, HX, HY⟩ := box_tlv w (c, s)
  have c0 := HX.out _ (Below.refl _ _)
  have c1 := HY.out _ (Below.refl _ _)
  have HI := hid fun (wx : World) (h : Below w.heap.size w wx) => hB.below h
  obtain ⟨p, cap, rfl, -, -, -⟩ := hB
  have HZ := hid hz
  clear hz
  go_enter Try.func5, Try.ntmps5
  go_upto_region 1 with fail
  rw [← hW]
  clear hW
  have hb := Below.refl W.heap.size W
  go_wp2_with fail
  refine (ids00_any _ zs W (HI.out _ hbW) (by omega)).mono ?_
  rintro _ w0 ⟨v0, rfl, o0, b0⟩
  replace hb := b0
  clear c0 c1
  have o0 := o0.ids
  go_wp2_with fail
  refine (HP v0 zs w0 o0 (by omega) HZ.out).mono ?_
  rintro _ x11 ⟨rfl, b11⟩
  replace hb := bnext hb b11
  have N11 := Box.new x11 [.int .i64 0, .string ⟨#[]⟩] 32
  have nb11 := bnew x11 (Obj.cells #[.int .i64 0, .string ⟨#[]⟩] 32)
  clear b11
  go_wp2_with (guard_target =~ wpList _ _ _ (⟨none, _, _, _, _, _⟩ :: _) _ _; refine wpList_store_tlv (op := ⟨none, .store _ _ _, _, _, _, _⟩) (by rfl) _ _ (by rfl) x11.heap.size (pathT zs).1 (tL (0, [])) _ (by rfl) (by rfl) N11 rfl ?_; have B11 := N11.rowT (tL (pathT zs).1); replace nb11 := below_setRow nb11 (Nat.le_refl _) (tL (pathT zs).1).toArray; generalize World.setRow _ _ _ = W11 at *; generalize hg11 : x11.heap.size = g11 at *)
  clear N11
  have nc11 : Below x11.heap.size x11 W11 := by rw [hg11]; exact nb11
  replace hb := bnext hb nc11
  clear nb11 nc11
  refine (refPath_any _ zs W11 (HI.out _ (bnext hbW hb)) (by omega) HZ.out).mono ?_
  rintro _ x13 ⟨rfl, b13⟩
  replace hb := bnext hb b13
  replace B11 := B11.below b13
  have N13 := Box.new x13 [.int .i64 0, .string ⟨#[]⟩] 32
  have nb13 := bnew x13 (Obj.cells #[.int .i64 0, .string ⟨#[]⟩] 32)
  clear b13
  go_wp2_with (guard_target =~ wpList _ _ _ (⟨none, _, _, _, _, _⟩ :: _) _ _; refine wpList_store_tlv (op := ⟨none, .store _ _ _, _, _, _, _⟩) (by rfl) _ _ (by rfl) x13.heap.size (pathT zs).1 (tL (0, [])) _ (by rfl) (by rfl) N13 rfl ?_; have B13 := N13.rowT (tL (pathT zs).1); replace nb13 := below_setRow nb13 (Nat.le_refl _) (tL (pathT zs).1).toArray; generalize World.setRow _ _ _ = W13 at *; generalize hg13 : x13.heap.size = g13 at *)
  clear N13
  have nc13 : Below x13.heap.size x13 W13 := by rw [hg13]; exact nb13
  replace hb := bnext hb nc13
  replace B11 := B11.below nc13
  clear nb13 nc13
  refine (HM i m W13 (by omega)).mono ?_
  rintro _ x15 ⟨rfl, b15⟩
  replace hb := bnext hb b15
  replace B11 := B11.below b15
  replace B13 := B13.below b15
  have N15 := Box.new x15 [.int .i64 0, .string ⟨#[]⟩] 32
  have nb15 := bnew x15 (Obj.cells #[.int .i64 0, .string ⟨#[]⟩] 32)
  clear b15
  go_wp2_with (guard_target =~ wpList _ _ _ (⟨none, _, _, _, _, _⟩ :: _) _ _; refine wpList_store_tlv (op := ⟨none, .store _ _ _, _, _, _, _⟩) (by rfl) _ _ (by rfl) x15.heap.size (manageT i m).1 (tL (0, [])) _ (by rfl) (by rfl) N15 rfl ?_; have B15 := N15.rowT (tL (manageT i m).1); replace nb15 := below_setRow nb15 (Nat.le_refl _) (tL (manageT i m).1).toArray; generalize World.setRow _ _ _ = W15 at *; generalize hg15 : x15.heap.size = g15 at *)
  clear N15
  have nc15 : Below x15.heap.size x15 W15 := by rw [hg15]; exact nb15
  replace hb := bnext hb nc15
  replace B11 := B11.below nc15
  replace B13 := B13.below nc15
  clear nb15 nc15
  refine (refManage_any i m W15 (by omega)).mono ?_
  rintro _ x17 ⟨rfl, b17⟩
  replace hb := bnext hb b17
  replace B11 := B11.below b17
  replace B13 := B13.below b17
  replace B15 := B15.below b17
  have N17 := Box.new x17 [.int .i64 0, .string ⟨#[]⟩] 32
  have nb17 := bnew x17 (Obj.cells #[.int .i64 0, .string ⟨#[]⟩] 32)
  clear b17
  go_wp2_with (guard_target =~ wpList _ _ _ (⟨none, _, _, _, _, _⟩ :: _) _ _; refine wpList_store_tlv (op := ⟨none, .store _ _ _, _, _, _, _⟩) (by rfl) _ _ (by rfl) x17.heap.size (manageT i m).1 (tL (0, [])) _ (by rfl) (by rfl) N17 rfl ?_; have B17 := N17.rowT (tL (manageT i m).1); replace nb17 := below_setRow nb17 (Nat.le_refl _) (tL (manageT i m).1).toArray; generalize World.setRow _ _ _ = W17 at *; generalize hg17 : x17.heap.size = g17 at *)
  clear N17
  have nc17 : Below x17.heap.size x17 W17 := by rw [hg17]; exact nb17
  replace hb := bnext hb nc17
  replace B11 := B11.below nc17
  replace B13 := B13.below nc17
  replace B15 := B15.below nc17
  clear nb17 nc17
  refine (HF e i W17).mono ?_
  rintro _ x19 ⟨rfl, b19⟩
  replace hb := bnext hb b19
  replace B11 := B11.below b19
  replace B13 := B13.below b19
  replace B15 := B15.below b19
  replace B17 := B17.below b19
  have N19 := Box.new x19 [.int .i64 0, .string ⟨#[]⟩] 32
  have nb19 := bnew x19 (Obj.cells #[.int .i64 0, .string ⟨#[]⟩] 32)
  clear b19
  go_wp2_with (guard_target =~ wpList _ _ _ (⟨none, _, _, _, _, _⟩ :: _) _ _; refine wpList_store_tlv (op := ⟨none, .store _ _ _, _, _, _, _⟩) (by rfl) _ _ (by rfl) x19.heap.size (faultT e i).1 (tL (0, [])) _ (by rfl) (by rfl) N19 rfl ?_; have B19 := N19.rowT (tL (faultT e i).1); replace nb19 := below_setRow nb19 (Nat.le_refl _) (tL (faultT e i).1).toArray; generalize World.setRow _ _ _ = W19 at *; generalize hg19 : x19.heap.size = g19 at *)
  clear N19
  have nc19 : Below x19.heap.size x19 W19 := by rw [hg19]; exact nb19
  replace hb := bnext hb nc19
  replace B11 := B11.below nc19
  replace B13 := B13.below nc19
  replace B15 := B15.below nc19
  replace B17 := B17.below nc19
  clear nb19 nc19
  refine (refFault_any e i W19).mono ?_
  rintro _ x21 ⟨rfl, b21⟩
  replace hb := bnext hb b21
  replace B11 := B11.below b21
  replace B13 := B13.below b21
  replace B15 := B15.below b21
  replace B17 := B17.below b21
  replace B19 := B19.below b21
  have N21 := Box.new x21 [.int .i64 0, .string ⟨#[]⟩] 32
  have nb21 := bnew x21 (Obj.cells #[.int .i64 0, .string ⟨#[]⟩] 32)
  clear b21
  go_upto_region 9 with (guard_target =~ wpList _ _ _ (⟨none, _, _, _, _, _⟩ :: _) _ _; refine wpList_store_tlv (op := ⟨none, .store _ _ _, _, _, _, _⟩) (by rfl) _ _ (by rfl) x21.heap.size (faultT e i).1 (tL (0, [])) _ (by rfl) (by rfl) N21 rfl ?_; have B21 := N21.rowT (tL (faultT e i).1); replace nb21 := below_setRow nb21 (Nat.le_refl _) (tL (faultT e i).1).toArray; generalize World.setRow _ _ _ = W21 at *; generalize hg21 : x21.heap.size = g21 at *)
  clear N21
  have nc21 : Below x21.heap.size x21 W21 := by rw [hg21]; exact nb21
  replace hb := bnext hb nc21
  replace B11 := B11.below nc21
  replace B13 := B13.below nc21
  replace B15 := B15.below nc21
  replace B17 := B17.below nc21
  replace B19 := B19.below nc21
  clear nb21 nc21
  generalize pathT zs = P at *
  generalize manageT i m = M at *
  generalize faultT e i = F at *
  obtain ⟨⟨pa, ps⟩, pk⟩ := P
  obtain ⟨⟨ma, ms⟩, mk⟩ := M
  obtain ⟨⟨fa, fs⟩, fk⟩ := F
  have y11 := B11.cell 0 _ rfl
  have z11 := B11.cell 1 _ rfl
  have y13 := B13.cell 0 _ rfl
  have z13 := B13.cell 1 _ rfl
  have y15 := B15.cell 0 _ rfl
  have z15 := B15.cell 1 _ rfl
  have y17 := B17.cell 0 _ rfl
  have z17 := B17.cell 1 _ rfl
  have y19 := B19.cell 0 _ rfl
  have z19 := B19.cell 1 _ rfl
  have y21 := B21.cell 0 _ rfl
  have z21 := B21.cell 1 _ rfl
  have Ep := equal_tlv (pa, ps) (pa, ps) W21
  rw [beq_self_eq_true] at Ep
  have Em := equal_tlv (ma, ms) (ma, ms) W21
  rw [beq_self_eq_true] at Em
  have Ef := equal_tlv (fa, fs) (fa, fs) W21
  rw [beq_self_eq_true] at Ef
  have d0 := HX.out _ hb
  have d1 := HY.out _ hb
  go_upto_region 11 with fail
  clear y11 z11 B11 y13 z13 B13 y15 z15 B15 y17 z17 B17 y19 z19 B19 y21 z21 B21 Ep Em Ef o0
  have hs2 : s.length ≤ 140737488355328 := by omega
  go_wp2_with fail
  refine (HPO c s W21 hs2).mono ?_
  rintro _ u1 ⟨r1, rfl, q1, b1⟩
  replace hb := bnext hb b1
  clear d0 d1
  have d0 := HX.out _ hb
  have d1 := HY.out _ hb
  go_wp2_with fail
  refine (refPathOf_any c s u1 hs2).mono ?_
  rintro _ u2 ⟨r2, rfl, q2, b2⟩
  replace hb := bnext hb b2
  replace q1 := q1.below b2
  clear d0 d1
  have d0 := HX.out _ hb
  have d1 := HY.out _ hb
  go_wp2_with fail
  refine (HMO c s u2 hs2).mono ?_
  rintro _ u3 ⟨rfl, b3⟩
  replace hb := bnext hb b3
  replace q1 := q1.below b3
  replace q2 := q2.below b3
  clear d0 d1 b3
  have d0 := HX.out _ hb
  have d1 := HY.out _ hb
  go_wp2_with fail
  refine (refManageOf_any c s u3 hs2).mono ?_
  rintro _ u4 ⟨rfl, b3⟩
  replace hb := bnext hb b3
  replace q1 := q1.below b3
  replace q2 := q2.below b3
  clear d0 d1 b3
  have d0 := HX.out _ hb
  have d1 := HY.out _ hb
  go_wp2_with fail
  refine (HFO c s u4 hs2).mono ?_
  rintro _ u5 ⟨rfl, b3⟩
  replace hb := bnext hb b3
  replace q1 := q1.below b3
  replace q2 := q2.below b3
  clear d0 d1 b3
  have d0 := HX.out _ hb
  have d1 := HY.out _ hb
  go_wp2_with fail
  refine (refFaultOf_any c s u5 hs2).mono ?_
  rintro _ u6 ⟨rfl, b3⟩
  replace hb := bnext hb b3
  replace q1 := q1.below b3
  replace q2 := q2.below b3
  clear d0 d1 b3
  have d0 := HX.out _ hb
  have d1 := HY.out _ hb
  go_wp2_with fail
  have q1 := q1.ids
  have q2 := q2.ids
  have hlen : (pathOfT (c, s)).1.length ≤ s.length := by
    unfold pathOfT
    split
    · rw [idsOf_length]; show s.length / 8 ≤ s.length; omega
    · simp
  generalize pathOfT (c, s) = PO at *
  refine (sameIds_any _ _ PO.1 PO.1 u6 q1 q2 (by omega) (by omega)).mono ?_
  rintro _ u7 ⟨rfl, b7⟩
  rw [beq_self_eq_true]
  replace hb := bnext hb b7
  go_wp2_with fail
  refine (HA u7).mono ?_
  rintro _ u8 ⟨rfl, b8⟩
  replace hb := bnext hb b8
  go_wp2_with fail
  go_ret
  exact ⟨rfl, bnext hbW hb⟩

set_option maxRecDepth 100000 in
set_option maxHeartbeats 1600000 in
theorem tlvKinds_over (HA : Awake8) (v : Value) (zs : List Int) (i : Int) (m : List UInt8) (e : Int) (c : Int) (s : List UInt8) (w : World) (hB : Ids w v zs) (hl : zs.length * 8 ≤ 140737488355232)
    (hm : m.length ≤ 9223372036854775807) (hs : s.length ≤ 9223372036854775807) (hall : ¬ (zs.length ≤ 40 ∧ m.length ≤ 900 ∧ s.length ≤ 900)) :
    Calls Try.prog 5 #[v, .int .i64 i, sv m, .int .i64 e, tlvV (c, s)] w fun e w' => e = .returned (.bool true) ∧ Below w.heap.size w w' := by
  obtain ⟨W, hW, hbW, HX, HY⟩ := box_tlv w (c, s)
  have c0 := HX.out _ (Below.refl _ _)
  have c1 := HY.out _ (Below.refl _ _)
  obtain ⟨p, cap, rfl, -, -, -⟩ := hB
  have hl2 : zs.length ≤ 140737488355328 := by omega
  rcases (by omega : 40 < zs.length ∨ (zs.length ≤ 40 ∧ 900 < m.length) ∨ (zs.length ≤ 40 ∧ m.length ≤ 900 ∧ 900 < s.length)) with h | ⟨h, h'⟩ | ⟨h, h', h''⟩
  all_goals
    clear hall hl
    go_enter Try.func5, Try.ntmps5
    go_upto_region 1 with fail
    rw [← hW]
    clear hW
    go_wp2_with fail
    refine (HA W).mono ?_
    rintro _ u ⟨rfl, b⟩
    go_wp2_with fail
    go_ret
    exact ⟨rfl, bnext hbW b⟩
end Go.Proofs.Ytdhdlpoopehmlaa
