/- carillonlaw08.awake; the laws Gets and Kinds. -/
import Derived.Test.YtdhdlpoopehmlaaTlvLaws2
import Derived.Test.YtdhdlpoopehmlaaTlvOwn3
import Derived.Test.YtdhdlpoopehmlaaTlvOwn4
import Derived.Test.YtdhdlpoopehmlaaTlvOwn5
import Derived.Test.YtdhdlpoopehmlaaTlvOwn6
import Derived.Test.YtdhdlpoopehmlaaTlvOwn7
namespace Go.Proofs.Ytdhdlpoopehmlaa
open Go.RowKit Go.Proofs
set_option linter.unusedVariables false
set_option linter.unusedSimpArgs false

/-- 'b[:E]', with the room behind it. -/
theorem Bytes.upto {w : World} {b off cap : Nat} {L : List UInt8} (E : Nat) (hlt : b < w.heap.size) (hc : ∀ i (h : i < L.length), w.cell? ⟨b, off + i, none⟩ = some (bv L[i])) (hE : E ≤ L.length) (hcap : L.length ≤ cap) (hm : cap ≤ maxLen) :
    Bytes w (.slice (some ⟨b, off, none⟩) E cap) (L.take E) := by
  have hl : (L.take E).length = E := by rw [List.length_take]; omega
  refine ⟨some ⟨b, off, none⟩, cap, by rw [hl], by omega, hm, .inr ⟨b, off, rfl, hlt, fun i hi => ?_⟩⟩
  rw [List.getElem_take]
  exact hc i (by omega)

theorem awake_path : pathT [1] = ((8, [0, 0, 0, 0, 0, 0, 0, 1]), true) := by decide
theorem awake_put : putT [(8, [0, 0, 0, 0, 0, 0, 0, 1])] = ([0, 8, 0, 8, 0, 0, 0, 0, 0, 0, 0, 1], true) := by decide

set_option maxHeartbeats 1600000 in
theorem awake08_any : Awake8 := by
  intro w
  have hW := ids_lit w 1
  have hb := bnew w (Obj.cells #[.int .u64 1] 58)
  have hz : ∀ z ∈ ([1] : List Int), 0 ≤ z ∧ z < 18446744073709551616 := by decide
  go_enter Try.func11, Try.ntmps11
  go_wp2_with fail
  refine (pathT_any _ [1] _ hW (by decide) hz).mono ?_
  rintro e w1 ⟨rfl, b1⟩
  rw [awake_path]
  replace hb := bnext hb b1
  have N := Box.new w1 [.int .i64 0, .string ⟨#[]⟩] 32
  have nb := bnew w1 (Obj.cells #[.int .i64 0, .string ⟨#[]⟩] 32)
  clear hW hz b1
  go_upto_region 2 with (guard_target =~ wpList _ _ _ (⟨none, _, _, _, _, _⟩ :: _) _ _; refine wpList_store_tlv (op := ⟨none, .store _ _ _, _, _, _, _⟩) (by rfl) _ _ (by rfl) w1.heap.size (8, [0, 0, 0, 0, 0, 0, 0, 1]) (tL (0, [])) _ (by rfl) (by rfl) N rfl ?_; have B := N.rowT (tL (8, [0, 0, 0, 0, 0, 0, 0, 1])); replace nb := below_setRow nb (Nat.le_refl _) (tL (8, [0, 0, 0, 0, 0, 0, 0, 1])).toArray; generalize World.setRow _ _ _ = W at *; generalize hg : w1.heap.size = g at *)
  have nc : Below w1.heap.size w1 W := by rw [hg]; exact nb
  replace hb := bnext hb nc
  have y := B.cell 0 _ rfl
  have z := B.cell 1 _ rfl
  clear N nb nc
  have hL := tlvs_lit W (8, [0, 0, 0, 0, 0, 0, 0, 1])
  replace hb := bnext hb (bnew W (Obj.cells #[.int .i64 8, sv [0, 0, 0, 0, 0, 0, 0, 1]] 32))
  go_wp2_with fail
  refine (putT_any none [] 0 _ [(8, [0, 0, 0, 0, 0, 0, 0, 1])] _ (Bytes.nil _) (by decide) hL (by decide) (by decide)).mono ?_
  rintro e w2 ⟨v2, rfl, o2, b2⟩
  rw [awake_put] at o2 ⊢
  replace o2 := o2.nil
  replace hb := bnext hb b2
  rw [List.nil_append] at o2
  obtain ⟨g2, c2, rfl, h12, -, hm2, hlt2⟩ := o2.form (by decide)
  obtain ⟨p, cap, he, -, -, hat⟩ := o2.bytes
  cases he
  obtain ⟨bb, off, he, hlt, hc⟩ := hat.pos (by decide)
  cases he
  have hS := (Bytes.upto 4 hlt hc (by decide) h12 hm2).str
  have h12' : 12 ≤ c2 := h12
  have hm' : c2 ≤ 9223372036854775807 := hm2
  clear hat hc h12 hm2 hL y z B
  go_wp2_with fail
  go_ret
  exact ⟨rfl, hb⟩

theorem tlvGets_walk (v : Value) (l : List UInt8) {w : World} (hB : Bytes w v l) (hl : l.length ≤ 140737488351232) (at' : Int) (ha : (Lit.int .i64 at').wf = true) :
    Calls Try.prog 4 #[v, .int .i64 at'] w fun e w' => e = .returned (.bool true) ∧ Below w.heap.size w w' :=
  tlvGets_from awake08_any (fun v l at' w hB hl ha => getT_any v l at' w hB hl ha) v l at' w hB (by omega) (i64_of_wf ha)

theorem tlvKinds_walk (v : Value) (zs : List Int) {w : World} (hB : Ids w v zs) (hz : zs.length * 8 ≤ 140737488351232 ∧ ∀ z ∈ zs, 0 ≤ z ∧ z < 18446744073709551616) (i : Int) (wi : (Lit.int .i64 i).wf = true)
    (m : ByteArray) (wm : m.size ≤ maxLen) (rm : m.data.toList.length ≤ reachBytes) (e : Int) (we : (Lit.int .i64 e).wf = true) (q : T2) (hq : q.2.length ≤ maxLen) :
    Calls Try.prog 5 #[v, .int .i64 i, .string m, .int .i64 e, tlvV q] w fun e w' => e = .returned (.bool true) ∧ Below w.heap.size w w' := by
  obtain ⟨c, s⟩ := q
  obtain ⟨x, hx⟩ : ∃ x, m.data.toList = x := ⟨_, rfl⟩
  have hm : m = ⟨x.toArray⟩ := by rw [← hx]
  rw [hx] at rm
  subst hm
  unfold maxLen at hq
  have hr : reachBytes = 140737488351232 := rfl
  by_cases hall : zs.length ≤ 40 ∧ x.length ≤ 900 ∧ s.length ≤ 900
  · exact tlvKinds_from awake08_any (fun v zs w h1 h2 h3 => pathT_any v zs w h1 h2 h3) (fun i m w h => manageT_any i m w h) (fun e i w => faultT_any e i w) (fun c s w h => pathOfT_any c s w h) (fun c s w h => manageOfT_any c s w h) (fun c s w h => faultOfT_any c s w h)
      v zs i x e c s w hB (by omega) hz.2 (by omega) (by omega) hall
  · exact tlvKinds_over awake08_any v zs i x e c s w hB (by omega) (by omega) (by omega) hall
end Go.Proofs.Ytdhdlpoopehmlaa
