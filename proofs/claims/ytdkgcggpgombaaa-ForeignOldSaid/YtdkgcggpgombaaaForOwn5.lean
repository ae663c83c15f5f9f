/- The program's own Best of a table: of those that were heard twice of late, the best. -/
import Derived.Test.YtdkgcggpgombaaaForOwn4
import Derived.BigQuiet
namespace Go.Proofs.Ytdkgcggpgombaaa
open Go.RowKit Go.Proofs
set_option maxRecDepth 50000
set_option linter.unusedVariables false
set_option linter.unusedSimpArgs false

theorem vecT5 : StrT vecK 42 := ⟨⟨_, Try.underlying42, rfl⟩, by kernel_rfl⟩
theorem Box.rec_vec {w : World} {g : Nat} {r : Rc} {t : TypeId} (h : Box w g (rcL r) t) : w.rangeAt g 0 (vecK.enc r.v) := fun j v hj => by
  rw [Nat.zero_add]
  have hjl : j < (vcL r.v).length := (List.getElem?_eq_some_iff.1 hj).1
  refine h.cell j v ?_
  unfold rcL
  rw [List.getElem?_append_left hjl]
  exact hj
theorem map_take {l : List Rc} {k : Nat} (h : k < l.length) (r : Rc) (hr : l[k] = r) : (l.take (k + 1)).map (·.v) = (l.take k).map (·.v) ++ [r.v] := by
  subst hr
  rw [take_snoc l k h, List.map_append]
  rfl

set_option maxRecDepth 100000 in
set_option maxHeartbeats 8000000 in
theorem ownBestF : CBestF TabR := by
  intro g t now w FA
  have h5 : (qualL t now).length ≤ 5 := by
    obtain ⟨rs, -, hn, -⟩ := tab_open FA
    exact Nat.le_trans (List.length_filter_le _ _) hn
  have hst : ∀ r ∈ qualL t now, I64 r.v.st := by
    obtain ⟨rs, -, -, -, -, -, hin⟩ := tab_open FA
    intro r hr
    exact (hin r (List.mem_filter.1 hr).1).1
  have HQ := hid fun (wx : World) (hx : FAt TabR wx g t) => ownQualF g t now wx hx
  generalize qualL t now = L at *
  have HS := hid hst
  have HN := hid h5
  clear hst h5
  obtain ⟨B, hB⟩ : ∃ B, bestN L = B := ⟨_, rfl⟩
  obtain ⟨R0, hR0⟩ : ∃ R0, bestR L = R0 := ⟨_, rfl⟩
  rw [hB, hR0]
  have hRng : (L.length = 0 ∧ bestN L = -1) ∨ (0 ≤ bestN L ∧ bestN L < L.length) := bestG_range _ L.length
  have hBR : R0 = if bestN L < 0 then zeroR else L.getD (bestN L).toNat zeroR := hR0.symm
  rw [hB] at hRng hBR
  have hBG : bestG (L.map (·.v)) L.length = B := hB
  have HRng := hid hRng
  have HBR := hid hBR
  have HBG := hid hBG
  clear hB hR0 hRng hBR hBG
  go_enter Try.func14, Try.ntmps14
  go_upto_region 1 with fail
  have z0 := bnew w (Obj.cells (rcL zeroR).toArray 46)
  have hX0 := Box.new w (rcL zeroR) 46
  change Code.wp Try.prog _ _ _ (w.alloc (Obj.cells (rcL zeroR).toArray 46))
  have FA0 := FA.below z0
  have hG : w.heap.size ≤ w.heap.size := Nat.le_refl _
  generalize w.alloc (Obj.cells (rcL zeroR).toArray 46) = W0 at *
  obtain ⟨G, hGe⟩ : ∃ G, w.heap.size = G := ⟨_, rfl⟩
  rw [hGe]
  rw [hGe] at hX0
  go_wp2_with fail
  refine (HQ.out _ FA0).mono ?_
  rintro e w1 ⟨v, rfl, hR, b1⟩
  have hX := hX0.below b1
  have hb0 := bnext z0 b1
  have hRR := hid fun (wx : World) (h : Below w1.heap.size w1 wx) => hR.below h
  obtain ⟨p, cap, rfl, hcap, hmax, hat⟩ := hR
  have HAT := hid fun h => RowK.At.pos (K := recK) hat h
  unfold maxLen at hmax
  clear hat FA0 FA hX0 z0 b1 HQ
  have hown := RowK.Own.nil vecK 42 w1 w1.heap.size
  have HX := hid hX
  clear hX
  go_wp2_with fail
  go_loopw [7, 16] (fun s i wr => ∃ k : Nat, k ≤ L.length ∧ i = .int .i64 k ∧ vecK.Own 42 wr w1.heap.size s ((L.take k).map (·.v)) ∧ Below w1.heap.size w1 wr) (fun _ i _ => L.length - (intOf i).toNat)
  case atStart => exact ⟨0, Nat.zero_le _, rfl, by simpa using hown, Below.refl _ _⟩
  case round =>
    clear hown
    obtain ⟨k, hk, rfl, hown, hb⟩ := hrel
    by_cases hlt : k < L.length
    · obtain ⟨b, off, rfl, hbl, hrow⟩ := HAT.out (by omega)
      clear hrow
      have hkI : (k : Int) < (L.length : Int) := by omega
      have hRg : wr.rangeAt b (off + k * 17) (rcL L[k]) := (hRR.out _ hb).range k hlt
      obtain ⟨r, hr⟩ : ∃ r, L[k] = r := ⟨_, rfl⟩
      have hsn := hid (map_take hlt r hr)
      have hml : ((L.take k).map (·.v)).length ≤ 5 := by
        rw [List.length_map, List.length_take]
        have := HN.out
        omega
      rw [hr] at hRg
      have hlK := hid hlt
      generalize (L.take k).map (·.v) = m at *
      clear hr hk
      have z1 := bnew wr (Obj.cells (rcL zeroR).toArray 46)
      have hX := Box.new wr (rcL zeroR) 46
      go_upto_region 6 with (first | (guard_target =~ wpList _ _ _ (⟨some 19, _, _, _, _, _⟩ :: _) _ _; refine recT.load (op := ⟨some 19, .load _ _, _, _, _, _⟩) (by rfl) _ (by rfl) b (off + k * 17) (by rfl) r hRg ?_) | (guard_target =~ wpList _ _ _ (⟨none, _, _, _, _, _⟩ :: _) _ _; refine recT.store (op := ⟨none, .store _ _ _, _, _, _, _⟩) (by rfl) _ _ (by rfl) wr.heap.size r zeroR _ (by rfl) (by rfl) hX ?_))
      have hZ := hX.rowK (rcL r)
      have hW2 := below_setRow z1 (Nat.le_refl _) (rcL r).toArray
      change Code.wp Try.prog _ _ _ ((wr.alloc (Obj.cells (rcL zeroR).toArray 46)).setRow wr.heap.size (rcL r).toArray)
      generalize (wr.alloc (Obj.cells (rcL zeroR).toArray 46)).setRow wr.heap.size (rcL r).toArray = W3 at *
      replace hown := hown.below hW2
      replace hb := bnext hb hW2
      generalize wr.heap.size = g9 at *
      clear z1 hX hRg hW2 hlt
      have z2 := bnew W3 (Obj.cells (vcL r.v).toArray 42)
      have hlit := lit_vec r.v W3
      have one2 : vecK.Reads (W3.alloc (Obj.cells (vcL r.v).toArray 42)) (.slice (some ⟨W3.heap.size, 0, none⟩) 1 1) [r.v] := vecK.one_new W3 r.v 42
      generalize W3.alloc (Obj.cells (vcL r.v).toArray 42) = W4 at *
      have own2 := hown.below z2
      have hb2 := bnext hb z2
      have hbs := hb2.size
      have hl1 : (m.length + [r.v].length) * 88 ≤ 140737488355328 := by rw [List.length_singleton]; omega
      have hl2 : m.length + [r.v].length ≤ 140737488355328 := by rw [List.length_singleton]; omega
      generalize W3.heap.size = g8 at *
      have hZv := hZ.rec_vec
      clear hml hZ
      go_upto_region 7 with (first | (guard_target =~ wpList _ _ _ (⟨some 22, _, _, _, _, _⟩ :: _) _ _; refine vecT5.load (op := ⟨some 22, .load _ _, _, _, _, _⟩) (by rfl) _ (by rfl) g9 0 (by rfl) r.v hZv ?_) | (guard_target =~ wpList _ _ _ (⟨some 23, _, _, _, _, _⟩ :: _) _ _; refine @wpList_lit _ _ ⟨some 23, .buildSlice 62 1 #[(0, .tmp 22)], _, _, _, _⟩ _ _ _ (by rfl) 62 1 _ (by rfl) #[(0, .agg (vcL r.v).toArray)] (by kernel_rfl) _ _ hlit ?_) | (guard_target =~ wpList _ _ _ (⟨some 24, _, _, _, _, _⟩ :: _) _ _; refine vecK.wpList_append Try.underlying62 vec_info rfl (o := ⟨some 24, _, _, _, _, _⟩) rfl _ _ rfl rfl w1.heap.size _ _ m [r.v] rfl rfl own2 one2 hl1 hl2 hbs ?_; intro v' w' own' bel'))
      go_wp2_with fail
      go_roundw
      case rel => exact ⟨k + 1, hlK.out, by go_num, by rw [hsn.out]; exact own', hb2.trans bel'⟩
      case measure => (have := hlK.out; simp [intOf] <;> omega)
    · obtain rfl : k = L.length := by omega
      rw [List.take_length] at hown
      clear hlt hk
      go_wp2_with fail
      refine (ownBestS _ (L.map (·.v)) _ hown.reads (by rw [List.length_map]; have := HN.out; omega) (by
        intro a ha
        obtain ⟨r, hr, rfl⟩ := List.mem_map.1 ha
        exact HS.out r hr)).mono ?_
      rintro e w2 ⟨rfl, b2⟩
      rw [List.length_map]
      have hXr := (HX.out.below hb).below b2
      have hb3 := bnext hb b2
      have hbw := bnext hb0 hb3
      rw [HBG.out]
      have hRng := HRng.out
      have hBR := HBR.out
      clear HBG HRng HBR
      rcases hRng with ⟨hL0, rfl⟩ | ⟨hB0, hB1⟩
      · rw [if_pos (by decide)] at hBR
        subst hBR
        clear hL0
        go_wp2_with (first | (guard_target =~ wpList _ _ _ (⟨some 30, _, _, _, _, _⟩ :: _) _ _; refine wpList_build_any (op := ⟨some 30, .build _ _, _, _, _, _⟩) (by rfl) _ _ (by rfl) _ (by rfl) (recK.enc zeroR).toArray (by kernel_rfl) ?_) | (guard_target =~ wpList _ _ _ (⟨none, _, _, _, _, _⟩ :: _) _ _; refine recT.store (op := ⟨none, .store _ _ _, _, _, _, _⟩) (by rfl) _ _ (by rfl) G zeroR zeroR _ (by rfl) (by rfl) hXr ?_))
        exact bodyPost_ret (v := .tuple #[.agg (recK.enc zeroR).toArray, .bool false]) (recT.result2 rfl _ _ G _ _ _ rfl rfl (hXr.rowK _)) rfl ⟨rfl, below_setRow hbw (by omega) _⟩
      · obtain ⟨K, rfl⟩ := Int.eq_ofNat_of_zero_le hB0
        have hKl : K < L.length := by omega
        have hlt0 : ((K : Int) < 0) = False := eq_false (by omega)
        obtain ⟨b, off, rfl, hbl, hrow⟩ := HAT.out (by omega)
        clear hrow
        have hRg : w2.rangeAt b (off + K * 17) (rcL L[K]) := (hRR.out _ hb3).range K hKl
        have hg : L.getD K zeroR = L[K] := by rw [List.getD_eq_getElem?_getD, List.getElem?_eq_getElem hKl]; rfl
        rw [if_neg (by omega), Int.toNat_natCast, hg] at hBR
        have hdec := hid (show decide ((0 : Int) ≤ (K : Int)) = true from decide_eq_true (by omega))
        have hK0 : ((K : Int) < 0) = False := eq_false (by omega)
        rw [← hBR] at hRg
        clear hg hBR hB0 hB1 hlt0
        go_wp2_with (first | (guard_target =~ wpList _ _ _ (⟨some 34, _, _, _, _, _⟩ :: _) _ _; refine recT.load (op := ⟨some 34, .load _ _, _, _, _, _⟩) (by rfl) _ (by rfl) b (off + K * 17) (by rfl) R0 hRg ?_) | (guard_target =~ wpList _ _ _ (⟨none, _, _, _, _, _⟩ :: _) _ _; refine recT.store (op := ⟨none, .store _ _ _, _, _, _, _⟩) (by rfl) _ _ (by rfl) G R0 zeroR _ (by rfl) (by rfl) hXr ?_))
        exact bodyPost_ret (v := .tuple #[.agg (recK.enc R0).toArray, .bool true]) (recT.result2 rfl _ _ G _ _ _ rfl rfl (hXr.rowK _)) rfl ⟨by rw [hdec.out]; rfl, below_setRow hbw (by omega) _⟩

end Go.Proofs.Ytdkgcggpgombaaa
