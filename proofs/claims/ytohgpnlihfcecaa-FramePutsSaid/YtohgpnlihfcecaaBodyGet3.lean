/- body.Get of any bytes: the place, the stamp that is none; all its answers in one. -/
import Derived.Test.YtohgpnlihfcecaaBodyGet2
namespace Go.Proofs.Ytohgpnlihfcecaa
open Go.RowKit Go.Proofs
set_option maxRecDepth 50000
set_option linter.unusedVariables false
set_option linter.unusedSimpArgs false

set_option maxRecDepth 100000 in
set_option maxHeartbeats 4000000 in
theorem bodyGet_range (v : Value) (l : List UInt8) (h : Hd) (d : Bd) (A : Nat) (w : World) (hB : Bytes w v l) (hl : l.length ≤ 140737488355328) (hA : (A : Int) + lenI h.ty ≤ l.length) (hgb : getB l A = false) (hs : stB h.ty = true) :
    Calls Try.prog 29 #[.agg (msgF h d).toArray, v, .int .i64 (A : Int)] w fun e w' => e = .returned (.tuple #[.agg (msgL hd0 zr).toArray, .int .i64 0, .int .i64 10]) ∧ Below w.heap.size w w' := by
  have hlen := lenI_in h.ty
  obtain ⟨hlen0, hlen1⟩ := hlen
  have HB := hid fun (w' : World) (h : Below w.heap.size w w') => hB.below h
  obtain ⟨p, cap, rfl, -, -, -⟩ := hB
  have hAI : A ≤ l.length := by omega
  have hns : lenI h.ty ≤ (l.length : Int) - (A : Int) := by omega
  clear hA
  have Hgb := hid hgb
  clear hgb
  have Hns := hid hns
  have HAI := hid hAI
  clear hns hAI
  go_enter Try.func29, Try.ntmps29
  go_wp2_with fail
  have hM : Box ((w.alloc (Obj.cells (msgF h d).toArray 28)).alloc (Obj.cells (msgL hd0 zr).toArray 28)) w.heap.size (msgF h d) 28 := (Box.new w _ _).below (bnew _ _)
  have hA : Box ((w.alloc (Obj.cells (msgF h d).toArray 28)).alloc (Obj.cells (msgL hd0 zr).toArray 28)) (w.heap.size + 1) (msgL hd0 zr) 28 := heap_alloc2_new w _ _
  have hb := bnew2 w (Obj.cells (msgF h d).toArray 28) (Obj.cells (msgL hd0 zr).toArray 28)
  have hG : w.heap.size ≤ w.heap.size + 1 := by omega
  have hne : w.heap.size + 1 ≠ w.heap.size := by omega
  change Code.wp Try.prog _ _ _ ((w.alloc (Obj.cells (msgF h d).toArray 28)).alloc (Obj.cells (msgL hd0 zr).toArray 28))
  generalize ((w.alloc (Obj.cells (msgF h d).toArray 28)).alloc (Obj.cells (msgL hd0 zr).toArray 28)) = W at *
  generalize w.heap.size + 1 = G at *
  have c0 := hM.cell 0 _ rfl
  refine wp_scope_hop ?_
  intro Q' hret hgo
  go_wp2_with fail
  refine (partsOf_any h.ty _).mono ?_
  rintro e w1 ⟨rfl, hb1⟩
  replace hM := hM.below hb1
  replace hA := hA.below hb1
  replace hb := bnext hb hb1
  clear hb1 c0
  unfold partsV
  rw [hs]
  generalize tgB h.ty = TG at *
  go_upto_region 2 with fail
  have hP := Box.new w1 [Value.bool true, Value.bool TG, Value.int IntKind.i64 (ownI h.ty)] 83
  have hnp : w1.heap.size ≠ w.heap.size := by have := hM.lt; omega
  have hng : w1.heap.size ≠ G := by have := hA.lt; omega
  have hnb := bnew w1 (Obj.cells ([Value.bool true, Value.bool TG, Value.int IntKind.i64 (ownI h.ty)] : List Value).toArray 83)
  replace hM := hM.below hnb
  replace hA := hA.below hnb
  replace hb := bnext hb hnb
  clear hnb
  generalize w1.alloc _ = W2 at *
  generalize w1.heap.size = GP at *
  have c0 := hM.cell 0 _ rfl
  go_wp2_with fail
  refine (len_any _ _).mono ?_
  rintro e w2 ⟨rfl, hb2⟩
  replace hM := hM.below hb2
  replace hA := hA.below hb2
  replace hP := hP.below hb2
  replace hb := bnext hb hb2
  clear hb2 c0
  have hns := Hns.out
  have c0 := hM.cell 0 _ rfl
  have p0 := hP.cell 0 _ rfl
  have p1 := hP.cell 1 _ rfl
  go_wp2_with fail
  refine (stampGet_wide _ l _ _ (HB.out _ hb) hl (by have := HAI.out; omega)).mono ?_
  rintro e w' ⟨rfl, rfl⟩
  rw [Hgb.out]
  have hAI := HAI.out
  have hc8 := hM.cell 8 _ rfl
  have hf8 := hM.free 8
  clear hns
  go_upto_region 6 with fail
  replace hA := (hA.other hne 8 (.int .i64 (getV l A)))
  replace hb := (hb.setCell (p := ⟨w.heap.size, 8, none⟩) (Nat.le_refl _) (.int .i64 (getV l A)))
  clear c0 p0 p1 hc8 hf8 hM hP
  generalize World.setCell _ _ _ = W at *
  go_wp2_with fail
  go_step3
  refine hgo 0 _ _ _ rfl ?_
  have hZ := hb
  go_wp2_with (guard_target =~ wpList _ _ _ (⟨none, _, _, _, _, _⟩ :: _) _ _; refine wpList_store_msg (op := ⟨none, .store _ _ _, _, _, _, _⟩) (by rfl) _ _ (by rfl) G (msgL hd0 zr) (msgL hd0 zr) _ (by rfl) (by rfl) hA (msgL_length _ _ zr_length) (msgL_length _ _ zr_length) (msgL_one _ _ zr_one) ?_)
  rw [Exit.noGoto_ret]
  refine bodyPost_ret (v := .tuple #[.agg (msgL hd0 zr).toArray, .int .i64 0, .int .i64 10]) ?_ rfl ⟨rfl, below_setRow hb hG _⟩
  exact results_msg_3 (p := 6) (u := 7) (u' := 8) rfl _ _ G _ (msgL hd0 zr) rfl (hA.row _) (msgL_length _ _ zr_length)

/-- What bytes say of a body of that type. -/
def bodyD (d : Bd) (t : Int) (l : List UInt8) (A : Nat) : Bd :=
  if t = 11 then gotAnn ⟨getV l A, d.tc, d.tp, d.ut, d.p1, d.qc, d.qa, d.qv, d.p2, d.gr, d.sr, d.og, d.sh, d.hp, d.ac⟩ l (A + 10)
  else if t = 13 then gotMan ⟨d.st, (numAt l A 8 : Nat), (numAt l (A + 8) 2 : Nat), d.ut, d.p1, d.qc, d.qa, d.qv, d.p2, d.gr, d.sr, d.og, d.sh, d.hp, d.ac⟩ l (A + 10)
  else if stB t = true ∧ tgB t = true then ⟨getV l A, (numAt l (A + 10) 8 : Nat), (numAt l ((A + 10) + 8) 2 : Nat), d.ut, d.p1, d.qc, d.qa, d.qv, d.p2, d.gr, d.sr, d.og, d.sh, d.hp, d.ac⟩
  else if stB t = true then ⟨getV l A, d.tc, d.tp, d.ut, d.p1, d.qc, d.qa, d.qv, d.p2, d.gr, d.sr, d.og, d.sh, d.hp, d.ac⟩
  else ⟨d.st, (numAt l A 8 : Nat), (numAt l (A + 8) 2 : Nat), d.ut, d.p1, d.qc, d.qa, d.qv, d.p2, d.gr, d.sr, d.og, d.sh, d.hp, d.ac⟩

/-- The error of it. -/
def bodyE (t : Int) (l : List UInt8) (A : Nat) : Int := if (l.length : Int) - A < lenI t then 2 else if stB t = true ∧ getB l A = false then 10 else 0

/-- The message, the place behind it, the error. -/
def bodyR (h : Hd) (d : Bd) (l : List UInt8) (A : Nat) : Value :=
  if bodyE h.ty l A = 0 then .tuple #[.agg (msgF h (bodyD d h.ty l A)).toArray, .int .i64 ((A : Int) + lenI h.ty), .int .i64 0]
  else .tuple #[.agg (msgL hd0 zr).toArray, .int .i64 0, .int .i64 (bodyE h.ty l A)]

theorem bodyGet_all (v : Value) (l : List UInt8) (h : Hd) (d : Bd) (A : Nat) (w : World) (hB : Bytes w v l) (hl : l.length ≤ 140737488355328) (hA : (A : Int) ≤ 9223372036854775807) (hk : knownB h.ty = true) :
    Calls Try.prog 29 #[.agg (msgF h d).toArray, v, .int .i64 (A : Int)] w fun e w' => e = .returned (bodyR h d l A) ∧ Below w.heap.size w w' := by
  unfold bodyR
  by_cases hs : (l.length : Int) - A < lenI h.ty
  · have e : bodyE h.ty l A = 2 := if_pos hs
    rw [e, if_neg (by decide)]
    exact bodyGet_short v l h d A w hB hl (by omega) hA hs
  · have hA2 : (A : Int) + lenI h.ty ≤ l.length := by omega
    by_cases hr : stB h.ty = true ∧ getB l A = false
    · have e : bodyE h.ty l A = 10 := by unfold bodyE; rw [if_neg hs, if_pos hr]
      rw [e, if_neg (by decide)]
      exact bodyGet_range v l h d A w hB hl hA2 hr.2 hr.1
    · have e : bodyE h.ty l A = 0 := by unfold bodyE; rw [if_neg hs, if_neg hr]
      rw [e, if_pos rfl]
      have hgb : stB h.ty = true → getB l A = true := fun h1 => by
        cases hg : getB l A
        · exact absurd ⟨h1, hg⟩ hr
        · rfl
      rcases kinds h.ty with ⟨h1, h2, h3, h4⟩ | ⟨h1, h2, h3, h4⟩ | ⟨h1, h2, h3, h4⟩ | h1 | ⟨h1, h2, h3, h4⟩ | h1
      · rcases known_or hk with h | h | h | h | h | h | h | h | h | h <;> rw [h] at h1 h2 h3 h4 <;> first | exact absurd h1 (by decide) | exact absurd h2 (by decide) | omega
      · have eD : bodyD d h.ty l A = ⟨getV l A, d.tc, d.tp, d.ut, d.p1, d.qc, d.qa, d.qv, d.p2, d.gr, d.sr, d.og, d.sh, d.hp, d.ac⟩ := by
          unfold bodyD
          rw [if_neg h3, if_neg h4, if_neg (by rw [h2]; simp), if_pos h1]
        rw [eD]
        exact bodyGet_S v l h d A w hB hl hA2 (hgb h1) h1 h2 h3 h4
      · have eD : bodyD d h.ty l A = ⟨getV l A, (numAt l (A + 10) 8 : Nat), (numAt l ((A + 10) + 8) 2 : Nat), d.ut, d.p1, d.qc, d.qa, d.qv, d.p2, d.gr, d.sr, d.og, d.sh, d.hp, d.ac⟩ := by
          unfold bodyD
          rw [if_neg h3, if_neg h4, if_pos ⟨h1, h2⟩]
        rw [eD]
        exact bodyGet_B v l h d A w hB hl hA2 (hgb h1) h1 h2 h3 h4
      · have eD : bodyD d h.ty l A = gotAnn ⟨getV l A, d.tc, d.tp, d.ut, d.p1, d.qc, d.qa, d.qv, d.p2, d.gr, d.sr, d.og, d.sh, d.hp, d.ac⟩ l (A + 10) := by
          unfold bodyD
          rw [if_pos h1]
        rw [eD]
        exact bodyGet_A v l h d A w hB hl hA2 (hgb (by rw [h1]; decide)) h1
      · have eD : bodyD d h.ty l A = ⟨d.st, (numAt l A 8 : Nat), (numAt l (A + 8) 2 : Nat), d.ut, d.p1, d.qc, d.qa, d.qv, d.p2, d.gr, d.sr, d.og, d.sh, d.hp, d.ac⟩ := by
          unfold bodyD
          rw [if_neg h3, if_neg h4, if_neg (by rw [h1]; simp), if_neg (by rw [h1]; simp)]
        rw [eD]
        exact bodyGet_G v l h d A w hB hl hA2 h1 h2 h3 h4
      · have eD : bodyD d h.ty l A = gotMan ⟨d.st, (numAt l A 8 : Nat), (numAt l (A + 8) 2 : Nat), d.ut, d.p1, d.qc, d.qa, d.qv, d.p2, d.gr, d.sr, d.og, d.sh, d.hp, d.ac⟩ l (A + 10) := by
          unfold bodyD
          rw [if_neg (by omega), if_pos h1]
        rw [eD]
        exact bodyGet_M v l h d A w hB hl hA2 h1
end Go.Proofs.Ytohgpnlihfcecaa
