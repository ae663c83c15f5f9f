/- carillonlaw13's DecideBetter from contracts (gen_declaws.py). -/
import Derived.Test.YtclpblhjfaodbaaDecLaws3
namespace Go.Proofs.Ytclpblhjfaodbaa
open Go.RowKit Go.Proofs
set_option maxRecDepth 50000
set_option linter.unusedVariables false
set_option linter.unusedSimpArgs false

theorem RowK.Own.setCell_of {α β : Type} {K : RowK α} {K2 : RowK β} {t t2 : TypeId} {w : World} {base base2 g n c : Nat} {v : Value} {l : List α} {m : List β} (h : K.Own t w base v l) (h2 : K2.Own t2 w base2 (.slice (some ⟨g, 0, none⟩) n c) m) (ht : t ≠ t2) (i : Nat) (u : Value) :
    K.Own t (w.setCell ⟨g, i, none⟩ u) base v l := by
  rcases id h with ⟨h0, ⟨rfl, hn⟩ | ⟨b, cap, cur, rfl, hbg, hg, r⟩⟩
  · exact ⟨h0, .inl ⟨rfl, hn⟩⟩
  · refine ⟨h0, .inr ⟨b, cap, cur, rfl, hbg, ?_, r⟩⟩
    rcases id h2 with ⟨_, ⟨e, _⟩ | ⟨b2, cap2, cur2, e, _, hg2, _⟩⟩
    · cases e
    · simp only [Value.slice.injEq, Option.some.injEq, Addr.mk.injEq, and_true] at e
      obtain ⟨rfl, -, -⟩ := e
      have hne : b ≠ g := by
        intro e
        subst e
        have h1 := hg.symm.trans hg2
        simp only [Option.some.injEq, Obj.cells.injEq] at h1
        exact ht h1.2.1
      rw [heap_setCell_other w _ b u hne]
      exact hg
theorem RowK.Own.setCell_low {α : Type} {K : RowK α} {t : TypeId} {w : World} {base G : Nat} {v : Value} {l : List α} (h : K.Own t w base v l) (hG : G < base) (i : Nat) (u : Value) : K.Own t (w.setCell ⟨G, i, none⟩ u) base v l := by
  rcases id h with ⟨h0, ⟨rfl, hn⟩ | ⟨b, cap, cur, rfl, hbg, hg, r⟩⟩
  · exact ⟨by simpa using h0, .inl ⟨rfl, hn⟩⟩
  · refine ⟨by simpa using h0, .inr ⟨b, cap, cur, rfl, hbg, ?_, r⟩⟩
    rw [heap_setCell_other w _ b u (by show b ≠ G; omega)]
    exact hg

def ptsG (g n : Nat) : List (Option Addr) := (List.range n).map fun i => some ⟨g, i * 11, none⟩
theorem ptsG_length (g n : Nat) : (ptsG g n).length = n := by simp [ptsG]
theorem ptsG_succ (g n : Nat) : ptsG g (n + 1) = ptsG g n ++ [some ⟨g, n * 11, none⟩] := by simp [ptsG, List.range_succ]
theorem ptsG_pts {w : World} {base g c : Nat} {m : List Vc} (h : vecK.Own 28 w base (.slice (some ⟨g, 0, none⟩) m.length c) m) (hg : g < w.heap.size) : Pts w (ptsG g m.length) (m.map some) := by
  refine ⟨by rw [ptsG_length]; simp, fun i hi hi' => ?_⟩
  have hi2 : i < m.length := by simpa using hi'
  have e1 : (ptsG g m.length)[i] = some ⟨g, i * 11, none⟩ := by simp [ptsG]
  have e2 : (m.map some)[i] = some m[i] := by simp
  rw [e1, e2]
  exact ⟨g, i * 11, rfl, hg, h.range i hi2⟩

theorem oat_map (m : List Vc) (i : Nat) (h : i < m.length) : oat (m.map some) (i : Int) = some (vat m (i : Int)) := by
  rw [oat_get _ i (by simpa using h), vat_get m i h]
  simp
/-- Of unlike Grands: who is better than all leads everywhere, else one is followed. -/
theorem better_get {d : Vc} {m : List Vc} (hq : 127 < d.qc) (hu : ∀ i j : Nat, i < m.length → j < m.length → i ≠ j → grandV (vat m i) (vat m j) ≠ 0) (hd : ∀ i : Nat, i < m.length → grandV d (vat m i) ≠ 0) (h0 : 0 < m.length) :
    ∃ K : Nat, K < m.length ∧ bestO (m.map some) (m.map some).length = (K : Int) ∧ ∀ i (h : i < (allD d [] (m.map some)).length), (allD d [] (m.map some))[i] = if grandV d (vat m K) < 0 then 2 else if i = K then 6 else 3 := by
  have hlen : (m.map some).length = m.length := by simp
  rcases bestO_range (m.map some) (m.map some).length with ⟨_, h1⟩ | ⟨h1, h2, b, h3⟩
  · have := h1 0 (by rw [hlen]; exact h0)
    rw [oat_map m 0 h0] at this
    cases this
  · obtain ⟨K, hK⟩ : ∃ K : Nat, bestO (m.map some) (m.map some).length = (K : Int) := ⟨_, (Int.toNat_of_nonneg h1).symm⟩
    have hKl : K < m.length := by rw [hK, hlen] at h2; omega
    refine ⟨K, hKl, hK, fun i hi => ?_⟩
    have hil : i < m.length := by rw [allD_length, hlen] at hi; exact hi
    have htop : topO (m.map some) = some (vat m K) := by
      unfold topO
      rw [hK, if_neg (by omega), oat_map m K hKl]
    rw [allD_get, htop, oat_map m i hil, hK]
    have hbe : beatsV d (some (vat m (K : Int))) = decide (grandV d (vat m (K : Int)) < 0) := by
      show decide (compV d (vat m (K : Int)) < 0) = _
      rw [comp_grand (hd K hKl)]
      exact decide_eq_decide.2 (by omega)
    have hno : ¬ ((some (vat m (i : Int))).isNone && ([] : List Bool).getD i false) = true := by simp
    unfold oneD
    rw [if_neg hno, if_neg (by omega), hbe]
    by_cases hg : grandV d (vat m (K : Int)) < 0
    · rw [if_pos hg, if_pos (decide_eq_true hg)]
    · rw [if_neg hg, decide_eq_false hg, if_neg Bool.false_ne_true]
      by_cases e : i = K
      · subst e
        rw [if_pos rfl, if_pos (by simp)]
      · have hne : nearV (some (vat m (K : Int))) (some (vat m (i : Int))) = false := by
          show decide (compV (vat m (K : Int)) (vat m (i : Int)) = -1) = false
          rw [comp_grand (hu K i hKl hil (Ne.symm e))]
          exact decide_eq_false (by omega)
        rw [if_neg e, if_neg (by rw [decide_eq_true_iff]; omega), hne, if_neg Bool.false_ne_true]
theorem better_shift {l : List Vc} (hl : l.length ≤ 30) (x : Int) : (∀ i j : Nat, i < (shN l l.length).length → j < (shN l l.length).length → i ≠ j → grandV (vat (shN l l.length) i) (vat (shN l l.length) j) ≠ 0) ∧
    ∀ (d : Vc) (i : Nat), d.gr = (x * 256 + 99) % 18446744073709551616 → i < (shN l l.length).length → grandV d (vat (shN l l.length) i) ≠ 0 := by
  have hlen := shN_length l l.length
  refine ⟨fun i j hi hj hij => ?_, fun d i hd hi => ?_⟩
  · rw [vat_get _ i hi, vat_get _ j hj, shN_get l l.length i (by omega), shN_get l l.length j (by omega), if_pos (by omega), if_pos (by omega)]
    exact grand_unlike (shifted_unlike _ _ i j (by omega) (by omega) hij)
  · rw [vat_get _ i hi, shN_get l l.length i (by omega), if_pos (by omega)]
    refine grand_unlike ?_
    rw [hd]
    exact shifted_unlike x _ 99 i (by omega) (by omega) (by omega)

set_option maxRecDepth 100000 in
set_option maxHeartbeats 8000000 in
theorem decideBetter_from (HA : CAll) (HT : CText) (HG : CGrand) (d : Vc) (hd : VcIn d) (l2 : Value) (l0 : List Vc) (w : World) (hR : vecK.Reads w l2 l0) (hin0 : ∀ a ∈ l0, VcIn a) :
    Calls Try.prog 5 #[.agg (vcL d).toArray, l2] w fun e w' => e = .returned (.bool true) ∧ Below w.heap.size w w' := by
  have hB := Box.new w (vcL d) 28
  have hb := bnew w (Obj.cells (vcL d).toArray 28)
  replace hR := hR.below hb
  obtain ⟨p, cap, rfl, hcap, hmax, hat⟩ := hR
  unfold maxLen at hmax
  have hat8 := hat.take 8
  go_enter Try.func5, Try.ntmps5
  go_upto_region 1 with fail
  change Code.wp Try.prog _ _ _ (w.alloc (Obj.cells (vcL d).toArray 28))
  generalize w.alloc (Obj.cells (vcL d).toArray 28) = W at *
  generalize hG : w.heap.size = G at *
  rw [← hG] at hb
  have hGW : G < W.heap.size := hB.lt
  go_upto_if 15 with fail
  go_cut [1] (fun s w' => W = w' ∧ ∃ (n : Nat) (l : List Vc), s = .slice p n cap ∧ n = l.length ∧ n ≤ 8 ∧ n ≤ cap ∧ vecK.At W p l ∧ ∀ a ∈ l, VcIn a)
  case first =>
    by_cases h8 : 8 < (l0.length : Int)
    · have hc8 : (8 : Int) ≤ (cap : Int) := by omega
      go_wp2_with fail
      go_meet
      exact ⟨rfl, _, l0.take 8, rfl, by rw [List.length_take]; omega, by omega, by omega, hat8, fun a ha => hin0 a (List.mem_of_mem_take ha)⟩
    · go_wp2_with fail
      go_meet
      exact ⟨rfl, _, l0, rfl, rfl, by omega, hcap, hat, hin0⟩
  case rest =>
    obtain ⟨rfl, n, l, rfl, hn, hn8, hncap, hA, hin⟩ := hcut
    have hR : vecK.Reads W (.slice p n cap) l := ⟨p, cap, by rw [hn], by omega, by unfold maxLen; omega, hA⟩
    have hcall := vectors00_any _ l W hR (by omega)
    have HN := hid hn
    clear hat hat8 hcap hin0 hn hA hR
    by_cases h0 : n = 0
    · subst h0
      go_wp2_with fail
      refine (awake13_from HA HT _).mono ?_
      rintro e w2 ⟨rfl, b2⟩
      go_wp2_with fail
      go_ret
      exact ⟨rfl, bnext hb b2⟩
    have h0I : ((n : Int) == 0) = false := by rw [beq_eq_false_iff_ne]; omega
    go_wp2_with fail
    refine hcall.mono ?_
    rintro e w1 ⟨v1, rfl, o1, b1⟩
    clear hcall
    obtain ⟨g, c1, rfl, hg0, hg1, hc1, hm1⟩ := o1.form (by have := HN.out; omega)
    rw [← HN.out] at hc1
    have o1' : vecK.Own 28 w1 W.heap.size (.slice (some ⟨g, 0, none⟩) n c1) (shN l 0) := by rw [shN_zero, HN.out]; exact o1
    have hp0 := RowK.Own.nil poK 42 w1 W.heap.size
    have hbs1 := b1.size
    clear o1
    rw [← HN.out]
    go_wp2_with fail
    go_loopw [6, 7] (fun pv iv wr => ∃ j : Nat, j ≤ n ∧ iv = .int .i64 j ∧ vecK.Own 28 wr W.heap.size (.slice (some ⟨g, 0, none⟩) n c1) (shN l j) ∧ poK.Own 42 wr W.heap.size pv (ptsG g j) ∧ Below W.heap.size W wr ∧ W.heap.size ≤ wr.heap.size) (fun _ iv _ => n - (intOf iv).toNat)
    case atStart => exact ⟨0, Nat.zero_le _, rfl, o1', hp0, b1, hbs1⟩
    case round =>
      obtain ⟨j, hj, rfl, o, oP, hbr, hbs⟩ := hrel
      by_cases hlt : j < n
      · have hjl : j < l.length := by have := HN.out; omega
        have hlj : j < (shN l j).length := by rw [shN_length]; exact hjl
        have o' : vecK.Own 28 wr W.heap.size (.slice (some ⟨g, 0, none⟩) (shN l j).length c1) (shN l j) := by rw [shN_length, ← HN.out]; exact o
        have e0 : (shN l j)[j] = l[j] := by rw [shN_get l j j hjl]; exact if_neg (by omega)
        have c5 : wr.cell? ⟨g, j * 11 + 5, none⟩ = some (.int .u64 (l[j]).gr) := o'.cell j 5 hlj (by decide) _ (by rw [e0]; rfl)
        have f5 := o'.free (j * 11 + 5)
        have hjI : (j : Int) < (n : Int) := by omega
        have hjI0 : (0 : Int) ≤ (j : Int) := by omega
        generalize hgr : (l[j]).gr = x at *
        go_upto_region 11 with fail
        have hval : IntKind.u64.wrap (IntKind.u64.wrap (x * 256) + (j : Int)) = (x * 256 + j) % 18446744073709551616 := by rw [wrap_u64_eq, wrap_u64_eq]; omega
        rw [hval]
        have op := o'.put j 5 hlj (by decide) (.int .u64 ((x * 256 + j) % 18446744073709551616)) (shG l[j] j) (by rw [e0]; unfold shG; rw [hgr]; rfl)
        rw [shN_step l j hjl] at op
        replace op : vecK.Own 28 (wr.setCell ⟨g, j * 11 + 5, none⟩ (.int .u64 ((x * 256 + j) % 18446744073709551616))) W.heap.size (.slice (some ⟨g, 0, none⟩) n c1) (shN l (j + 1)) := by rw [shN_length, ← HN.out] at op; exact op
        have oP' := oP.setCell_of o (Ne.symm ty_pov) (j * 11 + 5) (.int .u64 ((x * 256 + j) % 18446744073709551616))
        have hb' := hbr.setCell (p := ⟨g, j * 11 + 5, none⟩) hg0 (.int .u64 ((x * 256 + j) % 18446744073709551616))
        have hbs' : W.heap.size ≤ (wr.setCell ⟨g, j * 11 + 5, none⟩ (.int .u64 ((x * 256 + j) % 18446744073709551616))).heap.size := hb'.size
        have hjn : j + 1 ≤ n := hlt
        clear o o' c5 f5 hval hbr hbs oP e0
        generalize World.setCell _ _ _ = W3 at *
        have q1 := bnew W3 (Obj.cells #[.pointer (some ⟨g, j * 11, none⟩)] 42)
        have r1 : poK.Reads (W3.alloc (Obj.cells #[.pointer (some ⟨g, j * 11, none⟩)] 42)) (.slice (some ⟨W3.heap.size, 0, none⟩) 1 1) [some ⟨g, j * 11, none⟩] := RowK.Reads.one poK W3 42 (some ⟨g, j * 11, none⟩) rfl
        have oP1 := oP'.below q1
        have hbs1 := Nat.le_trans hbs' q1.size
        have hjp : (ptsG g j).length ≤ 8 := by rw [ptsG_length]; omega
        have hPs := ptsG_succ g j
        generalize hPj : ptsG g j = P at *
        go_wp2_with (at_builtin; refine RowK.wpList_append_kept poK Try.underlying34 po_info rfl (o := ⟨some 48, _, _, _, _, _⟩) rfl _ _ rfl rfl W.heap.size _ _ P [some ⟨g, j * 11, none⟩] rfl rfl oP1 r1 ?_ ?_ hbs1 ?_; (simp only [List.length_singleton]; omega); (simp only [List.length_singleton]; omega); intro vP w3 oP3 b3 k3)
        rw [← hPs] at oP3
        have op3 := (op.below q1).kept k3 ty_pov
        have hb3 := (hb'.trans (q1.mono hbs')).trans b3
        clear q1 r1 oP1 k3 oP' op hPs hPj
        go_roundw
        case rel => exact ⟨j + 1, hjn, by go_num, op3, oP3, hb3, Nat.le_trans hbs1 b3.size⟩
        case measure => (simp [intOf] <;> omega)
      · obtain rfl : j = n := by omega
        have hmeq : j = l.length := HN.out
        subst hmeq
        have hsh := better_shift (l := l) (by omega) d.gr
        have hml := shN_length l l.length
        have hmin := shN_in hin l.length
        have hpl := ptsG_length g l.length
        have oM : vecK.Own 28 wr W.heap.size (.slice (some ⟨g, 0, none⟩) (shN l l.length).length c1) (shN l l.length) := by rw [hml]; exact o
        clear o
        generalize shN l l.length = m at *
        rw [← hml] at h0 h0I hn8 oP hpl ⊢
        have Hsh := hid hsh
        have Hin := hid hmin
        have HBR := hid hbr
        clear hsh hmin hml hin HN hncap hlt hj
        replace hB := hB.below hbr
        have hbw := bnext hb hbr
        clear hbr hc1 hbs1 b1 hp0 o1'
        have c5 := hB.cell 5 _ rfl
        have f5 := hB.free 5
        go_upto_region 13 with fail
        have hval : IntKind.u64.wrap (IntKind.u64.wrap (d.gr * 256) + 99) = (d.gr * 256 + 99) % 18446744073709551616 := by rw [wrap_u64_eq, wrap_u64_eq]; omega
        rw [hval]
        clear hval c5 f5
        replace hB := hB.set 5 (.int .u64 ((d.gr * 256 + 99) % 18446744073709551616))
        replace oM := oM.setCell_low hGW 5 (.int .u64 ((d.gr * 256 + 99) % 18446744073709551616))
        replace oP := oP.setCell_low hGW 5 (.int .u64 ((d.gr * 256 + 99) % 18446744073709551616))
        replace hbw := hbw.setCell (p := ⟨G, 5, none⟩) (Nat.le_of_eq hG) (.int .u64 ((d.gr * 256 + 99) % 18446744073709551616))
        generalize wr.setCell _ _ = W4 at *
        have c1 := hB.cell 1 _ rfl
        have f1 := hB.free 1
        go_wp2_with fail
        refine (place_in d.qc 100 _ (by decide) (by decide)).mono ?_
        rintro e w9 ⟨y, rfl, hy0, hy1, -, rfl⟩
        have hy : IntKind.i64.wrap (128 + y) = 128 + y := by rw [IntKind.wrap_i64]; omega
        go_upto_region 14 with fail
        clear c1 f1 hy
        obtain ⟨d', hd'⟩ : ∃ d' : Vc, d' = { d with gr := (d.gr * 256 + 99) % 18446744073709551616, qc := 128 + y } := ⟨_, rfl⟩
        replace hB : Box (W4.setCell ⟨G, 1, none⟩ (.int .i64 (128 + y))) G (vcL d') 28 := by rw [hd']; exact hB.set 1 (.int .i64 (128 + y))
        replace oM := oM.setCell_low hGW 1 (.int .i64 (128 + y))
        replace oP := oP.setCell_low hGW 1 (.int .i64 (128 + y))
        replace hbw := hbw.setCell (p := ⟨G, 1, none⟩) (Nat.le_of_eq hG) (.int .i64 (128 + y))
        generalize W4.setCell _ _ = W5 at *
        have hdg : d'.gr = (d.gr * 256 + 99) % 18446744073709551616 := by rw [hd']
        have hdq : 127 < d'.qc := by rw [hd']; show 127 < 128 + y; omega
        have hdin : VcIn d' := by rw [hd']; exact ⟨hd.1, (show I64 (128 + y) from ⟨by omega, by omega⟩), hd.2.2.1, hd.2.2.2.1, hd.2.2.2.2.1, (show U64 _ from ⟨Int.emod_nonneg _ (by decide), Int.emod_lt_of_pos _ (by decide)⟩), hd.2.2.2.2.2.2⟩
        clear hd'
        obtain ⟨K, hKl, hKb, hAg⟩ := better_get hdq Hsh.out.1 (fun i hi => Hsh.out.2 d' i hdg hi) (by omega)
        have hgW5 : g < W5.heap.size := by
          rcases id oM with ⟨_, ⟨e, _⟩ | ⟨b2, _, _, e, _, hg2, _⟩⟩
          · cases e
          · simp only [Value.slice.injEq, Option.some.injEq, Addr.mk.injEq, and_true] at e
            obtain ⟨rfl, -, -⟩ := e
            exact (Array.getElem?_eq_some_iff.1 hg2).1
        have hPts := ptsG_pts oM hgW5
        have hos8 : (m.map some).take 8 = m.map some := List.take_of_length_le (by simp; omega)
        have hposo : ∀ a, some a ∈ m.map some → VcIn a := by
          intro a ha
          simp only [List.mem_map, Option.some.injEq, exists_eq_right] at ha
          exact Hin.out a ha
        have hPreads := oP.reads
        have hcallA := HA d' (.slice none 0 0) _ [] (ptsG g m.length) (m.map some) W5 hdin (RowK.Reads.nil boK W5) hPreads hPts (by simp; omega) hposo
        rw [hos8, hKb] at hcallA
        have hAl := allD_length d' [] (m.map some)
        rw [List.length_map] at hAl
        generalize allD d' [] (m.map some) = A at *
        generalize m.map some = os at *
        clear hPts hposo hKb hos8
        go_wp2_with (guard_target =~ wpList _ _ _ (⟨some 62, _, _, _, _, _⟩ :: _) _ _; refine wpList_load_vec (op := ⟨some 62, .load _ _, _, _, _, _⟩) (by rfl) _ (by rfl) G (by rfl) (d') _ hB ?_)
        refine hcallA.mono ?_
        rintro e wz ⟨x, rfl, hx, bz⟩
        clear hcallA
        replace hbw := bnext hbw bz
        replace hB := hB.below bz
        replace oM := oM.below bz
        clear oP bz hPreads hgW5
        obtain ⟨p9, cap9, rfl, hcap9, hmax9, hat9⟩ := hx
        have HAT := hid fun h => hat9.pos h
        have HAg := hid hAg
        have HAl := hid hAl
        unfold maxLen at hmax9
        rw [hAl] at hcap9 ⊢
        have hKI : (K : Int) < (m.length : Int) := by omega
        have hKJ : ¬ (m.length : Int) ≤ (K : Int) := by omega
        have hK0 : ¬ (K : Int) < 0 := by omega
        have hkin := Hin.out m[K] (List.getElem_mem hKl)
        have hgk : grandV d' (vat m (K : Int)) = grandV d' m[K] := by rw [vat_get m K hKl]
        clear hat9 hAg hAl
        go_upto_region 17 with fail
        refine wp_region_held_drew (S := fun w' => Below wz.drew.heap.size wz.drew w') (by kernel_rfl) (Below.refl _ _) ?_
        intro hHeld
        have hbd := Below.drew (Below.refl wz.heap.size wz)
        replace hbw := bnext hbw hbd
        replace hB := hB.below hbd
        replace oM := oM.below hbd
        have hWz := hbd
        generalize wz.drew = wd at *
        refine rtake 0 rfl (by rfl) (by kernel_rfl) (by kernel_rfl) (by kernel_rfl) (fun _ _ _ h => h) hHeld (fun wx hwx => exec_load_vec _ rfl G rfl d' _ (hB.below hwx)) ?_
        try simp only [Act.put, List.setIfInBounds_toArray, List.set_cons_zero, List.set_cons_succ]
        refine rtake 1 rfl (by rfl) (by kernel_rfl) (by kernel_rfl) (by kernel_rfl) (fun _ _ _ h => h) hHeld (fun wx hwx => by go_simp; try with_reducible rfl) ?_
        try simp only [Act.put, List.setIfInBounds_toArray, List.set_cons_zero, List.set_cons_succ]
        refine rtake 2 rfl (by rfl) (by kernel_rfl) (by kernel_rfl) (by kernel_rfl) (fun _ _ _ h => h) hHeld (fun wx hwx => by go_simp; try with_reducible rfl) ?_
        try simp only [Act.put, List.setIfInBounds_toArray, List.set_cons_zero, List.set_cons_succ]
        refine rtake 3 rfl (by rfl) (by kernel_rfl) (by kernel_rfl) (by kernel_rfl) (fun _ _ _ h => h) hHeld (fun wx hwx => by go_simp; try with_reducible rfl) ?_
        try simp only [Act.put, List.setIfInBounds_toArray, List.set_cons_zero, List.set_cons_succ]
        refine rtake 4 rfl (by rfl) (by kernel_rfl) (by kernel_rfl) (by kernel_rfl) (fun _ _ _ h => h) hHeld (fun wx hwx => exec_load_vec_at _ rfl g (K * 11) rfl m[K] ((oM.below hwx).range K hKl)) ?_
        try simp only [Act.put, List.setIfInBounds_toArray, List.set_cons_zero, List.set_cons_succ]
        refine rcall 5 rfl (by kernel_rfl) (by rfl) (fun K' hK => ?_)
        go_simp
        refine (HG d' m[K] wd hdin hkin).mono ?_
        rintro e wq ⟨rfl, bq⟩
        refine hK.out _ _ bq ?_
        clear hK K'
        refine wpAnyH_mono (S' := fun w' => Below wq.heap.size wq w') (fun w' h => bnext bq h) _ _ _ _ ?_
        replace hbw := bnext hbw bq
        replace hWz := bnext hWz bq
        clear hHeld bq hbd
        have hHeld := Below.refl wq.heap.size wq
        rw [← hgk]
        generalize grandV d' (vat m (K : Int)) = X at *
        clear hgk
        try simp only [Act.put, List.setIfInBounds_toArray, List.set_cons_zero, List.set_cons_succ]
        refine rtake 6 rfl (by rfl) (by kernel_rfl) (by kernel_rfl) (by kernel_rfl) (fun _ _ _ h => h) hHeld (fun wx hwx => by go_simp; try with_reducible rfl) ?_
        try simp only [Act.put, List.setIfInBounds_toArray, List.set_cons_zero, List.set_cons_succ]
        refine rtake 7 rfl (by rfl) (by kernel_rfl) (by kernel_rfl) (by kernel_rfl) (fun _ _ _ h => h) hHeld (fun wx hwx => by go_simp; try with_reducible rfl) ?_
        try simp only [Act.put, List.setIfInBounds_toArray, List.set_cons_zero, List.set_cons_succ]
        refine wpAnyH_done (by kernel_rfl) ?_ _
        clear hHeld
        clear hkin oM hB
        go_wp2_with fail
        go_loopw [11] (fun iv wr => ∃ j : Nat, j ≤ m.length ∧ iv = .int .i64 (j : Int) ∧ Below wq.heap.size wq wr) (fun iv _ => m.length - (intOf iv).toNat)
        case atStart => exact ⟨0, Nat.zero_le _, rfl, Below.refl _ _⟩
        case round =>
          obtain ⟨j, hj, rfl, hbr⟩ := hrel
          by_cases hlt : j < m.length
          · have hjI : (j : Int) < (m.length : Int) := by omega
            have hjA : j < A.length := by rw [HAl.out]; exact hlt
            obtain ⟨b, off, rfl, hbl, hc⟩ := HAT.out (by rw [HAl.out]; omega)
            have hz := HAg.out j hjA
            by_cases hX : X < 0
            · have hXd : decide (X < 0) = true := decide_eq_true hX
              rw [if_pos hX] at hz
              have hca := ints_cell hc j hjA hz
              rw [← (bnext hWz hbr).cell (p := ⟨b, off + j, none⟩) hbl] at hca
              clear hz hc
              go_wp2_with fail
              go_roundw
              case rel => exact ⟨j + 1, by omega, by go_num, hbr⟩
              case measure => (simp [intOf] <;> omega)
            · have hXd : decide (X < 0) = false := decide_eq_false hX
              rw [if_neg hX] at hz
              by_cases hjK : j = K
              · rw [if_pos hjK] at hz
                have hjKI : ((j : Int) == (K : Int)) = true := by rw [beq_iff_eq]; omega
                clear hjK
                have hca := ints_cell hc j hjA hz
                rw [← (bnext hWz hbr).cell (p := ⟨b, off + j, none⟩) hbl] at hca
                clear hz hc
                go_wp2_with fail
                go_roundw
                case rel => exact ⟨j + 1, by omega, by go_num, hbr⟩
                case measure => (simp [intOf] <;> omega)
              · rw [if_neg hjK] at hz
                have hjKI : ((j : Int) == (K : Int)) = false := by rw [beq_eq_false_iff_ne]; omega
                clear hjK
                have hca := ints_cell hc j hjA hz
                rw [← (bnext hWz hbr).cell (p := ⟨b, off + j, none⟩) hbl] at hca
                clear hz hc
                go_wp2_with fail
                go_roundw
                case rel => exact ⟨j + 1, by omega, by go_num, hbr⟩
                case measure => (simp [intOf] <;> omega)
          · obtain rfl : j = m.length := by omega
            go_wp2_with fail
            refine (awake13_from HA HT _).mono ?_
            rintro e w2 ⟨rfl, b2⟩
            go_wp2_with fail
            go_ret
            exact ⟨rfl, bnext (bnext hbw hbr) b2⟩
end Go.Proofs.Ytclpblhjfaodbaa
