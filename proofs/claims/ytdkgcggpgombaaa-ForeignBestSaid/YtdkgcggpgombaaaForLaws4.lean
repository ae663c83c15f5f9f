/- carillonlaw12: Full, from contracts of the program's own (gen_forlaws.py). -/
import Derived.Test.YtdkgcggpgombaaaForLaws3
import Derived.Test.YtdkgcggpgombaaaIds
import Derived.BigQuiet
namespace Go.Proofs.Ytdkgcggpgombaaa
open Go.RowKit Go.Proofs
set_option maxRecDepth 50000
set_option linter.unusedVariables false
set_option linter.unusedSimpArgs false

def idL (L : List Rc) : List Int := L.map (·.v.sc)
theorem idL_length (L : List Rc) : (idL L).length = L.length := by simp [idL]
def tF (L : List Rc) : Ft := ⟨7, 1, 100, L⟩
def hF (z : Int) (k : Nat) : Hd := ⟨11, 0, 0, 0, z, 1, (k : Int) + 1, 0⟩
/-- What all records are. -/
def recOk (k : Nat) (r : Rc) : Prop := r.v.sc ≠ 7 ∧ r.v.sp = 1 ∧ r.v.rc = 7 ∧ r.v.rp = 1 ∧ 0 ≤ r.sq ∧ r.sq ≤ (k : Int) ∧ r.la < (k : Int)
def InvF (L : List Rc) (k : Nat) : Prop := L.length ≤ 5 ∧ ∀ r ∈ L, recOk k r
theorem recOk.later {k : Nat} {r : Rc} (h : recOk k r) : recOk (k + 1) r := by
  unfold recOk at h ⊢
  omega
theorem InvF.later {L : List Rc} {k : Nat} (h : InvF L k) : InvF L (k + 1) := ⟨h.1, fun r hr => (h.2 r hr).later⟩
theorem recOk.fresh {k : Nat} {r : Rc} (h : recOk k r) (hk : k < 30) : ¬ oldR r ((k : Int) + 1) k := by
  unfold recOk at h
  unfold oldR
  omega
theorem put_has (t : Ft) (z : Int) (k : Nat) (hk : k < 30) : ∀ (L : List Rc) (m : Nat), (∀ r ∈ L, recOk k r) → z ∈ idL L →
    ∃ L' fi, putF t (hF z k) bd0 k L m = (L', 0) ∧ idL L' = idL L ∧ ∀ r ∈ L', r ∈ L ∨ r = recF t (hF z k) bd0 fi k
  | [], m, _, hm => by simp [idL] at hm
  | r :: rs, m, hr, hm => by
    by_cases h : r.v.sc = z
    · have ho := (hr r (by simp)).fresh hk
      refine ⟨recF t (hF z k) bd0 r.la k :: rs, r.la, ?_, ?_, ?_⟩
      · unfold putF
        rw [if_pos ⟨h, (hr r (by simp)).2.1⟩]
        exact if_neg ho
      · show z :: idL rs = r.v.sc :: idL rs
        rw [h]
      · intro x hx
        rcases List.mem_cons.1 hx with rfl | hx
        · exact .inr rfl
        · exact .inl (by simp [hx])
    · have hm2 : z ∈ idL rs := by
        rcases List.mem_cons.1 (show z ∈ r.v.sc :: idL rs from hm) with e | e
        · exact absurd e.symm h
        · exact e
      obtain ⟨L', fi, h1, h2, h3⟩ := put_has t z k hk rs (m + 1) (fun x hx => hr x (by simp [hx])) hm2
      refine ⟨r :: L', fi, ?_, ?_, ?_⟩
      · unfold putF
        rw [if_neg (fun hh => h hh.1), h1]
      · show r.v.sc :: idL L' = r.v.sc :: idL rs
        rw [h2]
      · intro x hx
        rcases List.mem_cons.1 hx with rfl | hx
        · exact .inl (by simp)
        · rcases h3 x hx with h4 | h4
          · exact .inl (by simp [h4])
          · exact .inr h4
theorem put_full (t : Ft) (h : Hd) (d : Bd) (now : Int) : ∀ (l : List Rc) (m : Nat), (∀ r ∈ l, r.v.sc ≠ h.sc) → 5 ≤ l.length + m → putF t h d now l m = (l, 7)
  | [], m, _, hl => by
    unfold putF
    rw [if_pos (by simpa using hl)]
  | r :: rs, m, hn, hl => by
    have ih := put_full t h d now rs (m + 1) (fun x hx => hn x (by simp [hx])) (by rw [List.length_cons] at hl; omega)
    unfold putF
    rw [if_neg (fun hh => hn r (by simp) hh.1), ih]
theorem not_id {L : List Rc} {z : Int} (h : z ∉ idL L) : ∀ r ∈ L, r.v.sc ≠ z := fun r hr e => h (by rw [← e]; exact List.mem_map.2 ⟨r, hr, rfl⟩)
theorem hear_F (L : List Rc) (z : Int) (k : Nat) (hk : k < 30) (hz : z ≠ 7) : hearE (tF L) (hF z k) bd0 k = (putF (tF L) (hF z k) bd0 k L 0).2 ∧ hearT (tF L) (hF z k) bd0 k = tF (putF (tF L) (hF z k) bd0 k L 0).1 := by
  have e0 : ¬ (hF z k).ty ≠ 11 := by show ¬ (11 : Int) ≠ 11; decide
  have e1 : ¬ ((k : Int) < 0 ∨ 1099511627776 < (k : Int)) := by omega
  have e2 : ¬ ((hF z k).sc = (tF L).own ∨ 255 ≤ bd0.sr ∨ ((hF z k).fl / 256) % 2 = 1) := by
    show ¬ (z = 7 ∨ (255 : Int) ≤ 0 ∨ ((0 : Int) / 256) % 2 = 1)
    omega
  refine ⟨?_, ?_⟩
  · unfold hearE
    rw [if_neg e0, if_neg e1, if_neg e2]
    rfl
  · unfold hearT
    rw [if_neg e0, if_neg e1, if_neg e2]
    rfl
theorem full_own (L : List Rc) (k : Nat) (hk : k < 30) : hearE (tF L) (hF 7 k) bd0 k = 11 ∧ hearT (tF L) (hF 7 k) bd0 k = tF L := by
  have e0 : ¬ (hF 7 k).ty ≠ 11 := by show ¬ (11 : Int) ≠ 11; decide
  have e1 : ¬ ((k : Int) < 0 ∨ 1099511627776 < (k : Int)) := by omega
  refine ⟨?_, ?_⟩
  · unfold hearE
    rw [if_neg e0, if_neg e1]
    exact if_pos (.inl rfl)
  · unfold hearT
    rw [if_neg e0, if_neg e1]
    exact if_pos (.inl rfl)
theorem full_has (L : List Rc) (z : Int) (k : Nat) (hk : k < 30) (hz : z ≠ 7) (hI : InvF L k) (hm : z ∈ idL L) :
    hearE (tF L) (hF z k) bd0 k = 0 ∧ ∃ L', hearT (tF L) (hF z k) bd0 k = tF L' ∧ idL L' = idL L ∧ InvF L' (k + 1) := by
  obtain ⟨e, t⟩ := hear_F L z k hk hz
  obtain ⟨L', fi, h1, h2, h3⟩ := put_has (tF L) z k hk L 0 hI.2 hm
  rw [h1] at e t
  refine ⟨e, L', t, h2, ?_, fun r hr => ?_⟩
  · rw [← idL_length, h2, idL_length]
    exact hI.1
  · rcases h3 r hr with h4 | h4
    · exact (hI.2 r h4).later
    · subst h4
      show z ≠ 7 ∧ (1 : Int) = 1 ∧ (7 : Int) = 7 ∧ (1 : Int) = 1 ∧ 0 ≤ (k : Int) + 1 ∧ (k : Int) + 1 ≤ ((k + 1 : Nat) : Int) ∧ (k : Int) < ((k + 1 : Nat) : Int)
      omega
theorem full_none (L : List Rc) (z : Int) (k : Nat) (hk : k < 30) (hz : z ≠ 7) (hm : z ∉ idL L) (hl : 5 ≤ L.length) : hearE (tF L) (hF z k) bd0 k = 7 ∧ hearT (tF L) (hF z k) bd0 k = tF L := by
  obtain ⟨e, t⟩ := hear_F L z k hk hz
  rw [put_full _ _ _ _ L 0 (not_id hm) (by omega)] at e t
  exact ⟨e, t⟩
theorem full_new (L : List Rc) (z : Int) (k : Nat) (hk : k < 30) (hz : z ≠ 7) (hI : InvF L k) (hm : z ∉ idL L) (hl : L.length < 5) :
    hearE (tF L) (hF z k) bd0 k = 0 ∧ ∃ L', hearT (tF L) (hF z k) bd0 k = tF L' ∧ idL L' = idL L ++ [z] ∧ InvF L' (k + 1) := by
  obtain ⟨e, t⟩ := hear_F L z k hk hz
  rw [putF_new _ _ _ _ L 0 (not_id hm) (by omega)] at e t
  refine ⟨e, _, t, by simp [idL, recF, hF], by simp; omega, fun r hr => ?_⟩
  rcases List.mem_append.1 hr with h4 | h4
  · exact (hI.2 r h4).later
  · rw [List.mem_singleton.1 h4]
    show z ≠ 7 ∧ (1 : Int) = 1 ∧ (7 : Int) = 7 ∧ (1 : Int) = 1 ∧ 0 ≤ (k : Int) + 1 ∧ (k : Int) + 1 ≤ ((k + 1 : Nat) : Int) ∧ (k : Int) < ((k + 1 : Nat) : Int)
    omega
theorem msF (z : Int) (k : Nat) (hz : 0 ≤ z ∧ z < 18446744073709551616) : MsIn (hF z k) bd0 := by
  unfold MsIn hF bd0
  simp only
  omega

theorem ids_lit (w : World) (z : Int) : Ids (w.alloc (Obj.cells #[.int .u64 z] 25)) (.slice (some ⟨w.heap.size, 0, none⟩) 1 1) [z] := by
  have hB := Box.new w [.int .u64 z] 25
  exact ⟨some ⟨w.heap.size, 0, none⟩, 1, rfl, by simp, by unfold maxLen; omega, .inr ⟨w.heap.size, 0, rfl, hB.lt, fun j v hj => by rw [Nat.zero_add]; exact hB.cell j v hj⟩⟩
theorem OwnI.below {w w' : World} {base : Nat} {v : Value} {l : List Int} (h : OwnI w base v l) (hb : Below w.heap.size w w') : OwnI w' base v l := by
  obtain ⟨h1, h2⟩ := h
  refine ⟨h1, ?_⟩
  rcases h2 with h2 | ⟨g, cap, cur, hv, hg, hh, r⟩
  · exact .inl h2
  · exact .inr ⟨g, cap, cur, hv, hg, by rw [hb.block g (Array.getElem?_eq_some_iff.1 hh).1]; exact hh, r⟩
theorem OwnI.only {w w' : World} {base g : Nat} {v : Value} {l : List Int} (h : OwnI w base v l) (ho : Only g w w') (hg : g < base) : OwnI w' base v l := by
  obtain ⟨h1, h2⟩ := h
  refine ⟨h1, ?_⟩
  rcases h2 with h2 | ⟨b, cap, cur, hv, hb, hh, rest⟩
  · exact .inl h2
  · exact .inr ⟨b, cap, cur, hv, hb, by rw [ho.block b (Array.getElem?_eq_some_iff.1 hh).1 (by omega)]; exact hh, rest⟩
theorem drawn_below {B : Nat} {w w1 : World} (h : Below B w w1) (n : Nat) : Below B w (w1.drewN n) := h.trans ⟨rfl, rfl, rfl, Nat.le_refl _, fun _ _ => rfl⟩
theorem take_mem {l : List Int} {q : Nat} (h : q < l.length) (z : Int) : decide (z ∈ l.take (q + 1)) = (decide (z ∈ l.take q) || (l[q] == z)) := by
  rw [Bool.eq_iff_iff, Bool.or_eq_true, decide_eq_true_eq, decide_eq_true_eq, List.take_succ_eq_append_getElem h, List.mem_append, List.mem_singleton, beq_iff_eq, eq_comm (a := z)]
set_option maxRecDepth 100000 in
set_option maxHeartbeats 8000000 in
theorem foreignFull_from {R : List Value → Ft → Prop} (HNew : CNewF R) (HH : CHearF R) (HQ : CQualF R) (HBst : CBestF R) (HRec : CRecF R) (v : Value) (zs : List Int) (again : Int) (w : World) (hI : Ids w v zs) (hz : ∀ z ∈ zs, 0 ≤ z ∧ z < 18446744073709551616) :
    Calls Try.prog 4 #[v, .int .i64 again] w fun e w' => e = .returned (.bool true) ∧ Below w.heap.size w w' := by
  have HAT := hid fun (wx : World) (h : Below w.heap.size w wx) => hI.below h
  obtain ⟨pz, capz, rfl, hcapz, hmaxz, -⟩ := id hI
  clear hI
  unfold maxLen at hmaxz
  go_enter Try.func4, Try.ntmps4
  go_wp2_with fail
  refine (HNew 7 1 100 w (by decide)).mono ?_
  rintro e w1 ⟨gt, rfl, hg, FA, hb⟩
  rw [show clampW 100 = 100 by decide] at FA
  have hgb : gt < w1.heap.size := FA.lt
  have hgb1 := hgb
  obtain ⟨base, hbase⟩ : ∃ b, w1.heap.size = b := ⟨_, rfl⟩
  rw [hbase] at hgb
  have hbs : w.heap.size ≤ base := by rw [← hbase]; exact hb.size
  have hb1 : base ≤ w1.heap.size := by omega
  clear hgb1
  go_wp2_with fail
  go_loopw [6, 7] (fun v i wr => ∃ (k : Nat) (L : List Rc), k ≤ zs.length ∧ k ≤ 30 ∧ i = .int .i64 (k : Int) ∧ InvF L k ∧ FAt R wr gt (tF L) ∧ OwnI wr base v (idL L) ∧ Below w.heap.size w wr ∧ base ≤ wr.heap.size) (fun _ i _ => 30 - (intOf i).toNat)
  case atStart => exact ⟨0, [], Nat.zero_le _, by decide, rfl, ⟨by decide, by simp⟩, FA, OwnI.nil _ _, hb, hb1⟩
  case round =>
    obtain ⟨k, L, hkz, hk30, rfl, hIv, FA, own, hb, hbw⟩ := hrel
    by_cases hlt : k < zs.length ∧ k < 30
    · obtain ⟨hkz2, hk2⟩ := hlt
      obtain ⟨p', cap', hpe, -, -, hat⟩ := HAT.out wr hb
      cases hpe
      obtain ⟨b0, off, rfl, irow⟩ := hat.row (by omega)
      have hz2 := hz (zs[k]) (List.getElem_mem hkz2)
      have hk2I : (k : Int) < 30 := by omega
      have hkzI : (k : Int) < (zs.length : Int) := by omega
      have hcellz := fun wx h => irow wx h k hkz2
      generalize hzk : zs[k] = z at *
      obtain ⟨pin, cin, hown, hcin, hmin, hatin⟩ := own.ids
      subst hown
      have hin := hid fun (q : Nat) (hq : q < (idL L).length) => hatin.row (Nat.lt_of_le_of_lt (Nat.zero_le _) hq)
      have hL5 := hIv.1
      have hLl := idL_length L
      generalize hD : idL L = D at *
      have hDle : D.length ≤ 5 := by omega
      replace hLl := hid hLl
      go_wp2_with fail
      go_loopw [8, 9] (fun hv jv wq => ∃ (q : Nat) (hs : Bool), q ≤ D.length ∧ jv = .int .i64 (q : Int) ∧ hv = .bool hs ∧ Hid (hs = decide (z ∈ D.take q)) ∧ Below wr.heap.size wr wq) (fun _ j _ => D.length - (intOf j).toNat)
      case atStart => exact ⟨0, false, Nat.zero_le _, rfl, rfl, hid (by simp), Below.refl _ _⟩
      case round =>
        obtain ⟨q, hs, hqD, rfl, rfl, hH, bq⟩ := hrel
        by_cases hq : q < D.length
        · obtain ⟨b1, off1, rfl, irow1⟩ := hin.out q hq
          have c1 := irow1 _ bq q hq
          have c2 := hcellz _ bq
          have hT := take_mem hq z
          generalize D[q] = x at *
          have hqI : (q : Int) < (D.length : Int) := by omega
          have hq0 : (0 : Int) ≤ (q : Int) := by omega
          cases hs
          · have hH2 := hid (show (x == z) = decide (z ∈ D.take (q + 1)) by rw [hT, ← hH.out, Bool.false_or])
            clear hT
            go_upto_region 12 with fail
            go_quiet (fail)
            go_wp2_with fail
            go_roundw
            case rel => exact ⟨q + 1, _, hq, by go_num, rfl, hH2, drawn_below bq _⟩
            case measure => simp [intOf]; omega
          · have hH2 := hid (show true = decide (z ∈ D.take (q + 1)) by rw [hT, ← hH.out, Bool.true_or])
            clear hT
            go_upto_region 12 with fail
            go_quiet (fail)
            go_wp2_with fail
            go_roundw
            case rel => exact ⟨q + 1, _, hq, by go_num, rfl, hH2, drawn_below bq _⟩
            case measure => simp [intOf]; omega
        · obtain rfl : q = D.length := by omega
          have hH2 : hs = decide (z ∈ D) := by rw [hH.out, List.take_length]
          have FA2 := FA.below bq
          have own2 := own.below bq
          have hb2 := bnext hb bq
          have hbw2 := Nat.le_trans hbw bq.size
          have c2 := hcellz _ bq
          have hm1 := msF z k hz2
          clear hin hcellz hH bq irow hatin FA own hb hbw hat
          by_cases h7 : z = 7
          · clear hH2
            obtain ⟨f1, f2⟩ : hearE (tF L) (hF z k) bd0 k = 11 ∧ hearT (tF L) (hF z k) bd0 k = tF L := by rw [h7]; exact full_own L k hk2
            have h7B : (z == 7) = true := beq_iff_eq.2 h7
            replace h7 := hid h7
            go_wp2_with (guard_target =~ wpList _ _ _ (⟨some 53, _, _, _, _, _⟩ :: _) _ _; refine wpList_build_any (op := ⟨some 53, .build _ _, _, _, _, _⟩) (by rfl) _ _ (by rfl) _ (by rfl) (msgF (hF z k) bd0).toArray (by kernel_rfl) ?_)
            refine (HH gt (tF L) (hF z k) bd0 k _ FA2 hm1).mono ?_
            rintro e w5 ⟨rfl, FA5, o5⟩
            replace hb2 := Only.below hb2 o5 hg hb2.size
            replace own2 := own2.only o5 hgb
            replace hbw2 := Nat.le_trans hbw2 o5.size
            replace FA2 := FA5
            clear FA5 o5 c2
            rw [f2] at FA2
            rw [f1]
            clear f1 f2
            obtain ⟨p', cap', hpe, -, -, hat⟩ := HAT.out w5 hb2
            cases hpe
            obtain ⟨b2, off2, hpe, irow⟩ := hat.row (by omega)
            cases hpe
            have c2 := irow w5 (Below.refl _ _) k hkz2
            rw [hzk] at c2
            clear irow hat
            go_wp2_with fail
            go_roundw
            case rel => exact ⟨k + 1, L, hkz2, hk2, by go_num, hIv.later, FA2, by rw [hD]; exact own2, hb2, hbw2⟩
            case measure => simp [intOf]; omega
          · have h7B : (z == 7) = false := beq_false_of_ne h7
            by_cases hm : z ∈ D
            · rw [decide_eq_true hm] at hH2
              subst hH2
              rw [← hD] at hm
              obtain ⟨f1, L', f2, f3, f4⟩ := full_has L z k hk2 h7 hIv hm
              rw [hD] at f3
              go_wp2_with (guard_target =~ wpList _ _ _ (⟨some 53, _, _, _, _, _⟩ :: _) _ _; refine wpList_build_any (op := ⟨some 53, .build _ _, _, _, _, _⟩) (by rfl) _ _ (by rfl) _ (by rfl) (msgF (hF z k) bd0).toArray (by kernel_rfl) ?_)
              refine (HH gt (tF L) (hF z k) bd0 k _ FA2 hm1).mono ?_
              rintro e w5 ⟨rfl, FA5, o5⟩
              replace hb2 := Only.below hb2 o5 hg hb2.size
              replace own2 := own2.only o5 hgb
              replace hbw2 := Nat.le_trans hbw2 o5.size
              replace FA2 := FA5
              clear FA5 o5 c2
              rw [f2] at FA2
              rw [f1]
              clear f1 f2
              obtain ⟨p', cap', hpe, -, -, hat⟩ := HAT.out w5 hb2
              cases hpe
              obtain ⟨b2, off2, hpe, irow⟩ := hat.row (by omega)
              cases hpe
              have c2 := irow w5 (Below.refl _ _) k hkz2
              rw [hzk] at c2
              clear irow hat
              go_wp2_with fail
              go_roundw
              case rel => exact ⟨k + 1, L', hkz2, hk2, by go_num, f4, FA2, by rw [f3]; exact own2, hb2, hbw2⟩
              case measure => simp [intOf]; omega
            · rw [decide_eq_false hm] at hH2
              subst hH2
              rw [← hD] at hm
              by_cases hl : L.length = 5
              · obtain ⟨f1, f2⟩ := full_none L z k hk2 h7 hm (by omega)
                have hD5 : D.length = 5 := by have := hLl.out; omega
                rw [hD5] at own2 ⊢
                replace hD5 := hid hD5
                go_wp2_with (guard_target =~ wpList _ _ _ (⟨some 53, _, _, _, _, _⟩ :: _) _ _; refine wpList_build_any (op := ⟨some 53, .build _ _, _, _, _, _⟩) (by rfl) _ _ (by rfl) _ (by rfl) (msgF (hF z k) bd0).toArray (by kernel_rfl) ?_)
                refine (HH gt (tF L) (hF z k) bd0 k _ FA2 hm1).mono ?_
                rintro e w5 ⟨rfl, FA5, o5⟩
                replace hb2 := Only.below hb2 o5 hg hb2.size
                replace own2 := own2.only o5 hgb
                replace hbw2 := Nat.le_trans hbw2 o5.size
                replace FA2 := FA5
                clear FA5 o5 c2
                rw [f2] at FA2
                rw [f1]
                clear f1 f2
                obtain ⟨p', cap', hpe, -, -, hat⟩ := HAT.out w5 hb2
                cases hpe
                obtain ⟨b2, off2, hpe, irow⟩ := hat.row (by omega)
                cases hpe
                have c2 := irow w5 (Below.refl _ _) k hkz2
                rw [hzk] at c2
                clear irow hat
                go_wp2_with fail
                go_roundw
                case rel => exact ⟨k + 1, L, hkz2, hk2, by go_num, hIv.later, FA2, by rw [hD]; exact own2, hb2, hbw2⟩
                case measure => simp [intOf]; omega
              · obtain ⟨f1, L', f2, f3, f4⟩ := full_new L z k hk2 h7 hIv hm (by omega)
                have hD5 : ((D.length : Int) == 5) = false := beq_false_of_ne (by have := hLl.out; omega)
                rw [hD] at f3
                go_wp2_with (guard_target =~ wpList _ _ _ (⟨some 53, _, _, _, _, _⟩ :: _) _ _; refine wpList_build_any (op := ⟨some 53, .build _ _, _, _, _, _⟩) (by rfl) _ _ (by rfl) _ (by rfl) (msgF (hF z k) bd0).toArray (by kernel_rfl) ?_)
                refine (HH gt (tF L) (hF z k) bd0 k _ FA2 hm1).mono ?_
                rintro e w5 ⟨rfl, FA5, o5⟩
                replace hb2 := Only.below hb2 o5 hg hb2.size
                replace own2 := own2.only o5 hgb
                replace hbw2 := Nat.le_trans hbw2 o5.size
                replace FA2 := FA5
                clear FA5 o5 c2
                rw [f2] at FA2
                rw [f1]
                clear f1 f2
                obtain ⟨p', cap', hpe, -, -, hat⟩ := HAT.out w5 hb2
                cases hpe
                obtain ⟨b2, off2, hpe, irow⟩ := hat.row (by omega)
                cases hpe
                have c2 := irow w5 (Below.refl _ _) k hkz2
                rw [hzk] at c2
                clear irow hat
                have o4 := own2.below (bnew w5 (Obj.cells #[.int .u64 z] 25))
                have x4 := ids_lit w5 z
                have FA4 := FA2.below (bnew w5 (Obj.cells #[.int .u64 z] 25))
                have hb4 := bnext hb2 (bnew w5 (Obj.cells #[.int .u64 z] 25))
                have hbw4 := Nat.le_trans hbw2 (bnew w5 (Obj.cells #[.int .u64 z] 25)).size
                have hb5 := Below.refl base (w5.alloc (Obj.cells #[.int .u64 z] 25))
                go_wp2_with (at_builtin; refine wpList_append_ids (o := ⟨some 85, _, _, _, _, _⟩) rfl _ _ rfl rfl base _ _ D [z] rfl rfl o4 x4 ?_ hbw4 ?_; (simp only [List.length_singleton]; have := hLl.out; omega); intro v6 w6 o6 b6)
                have FA6 : FAt R w6 gt (tF L') := by
                  obtain ⟨xs, hB6, hR6⟩ := FA4
                  refine ⟨xs, ?_, hR6⟩
                  unfold Box at hB6 ⊢
                  rw [b6.block gt hgb]
                  exact hB6
                have hb6 := hb4.trans (b6.mono hbs)
                go_roundw
                case rel => exact ⟨k + 1, L', hkz2, hk2, by go_num, f4, FA6, by rw [f3]; exact o6, hb6, Nat.le_trans hbw4 b6.size⟩
                case measure => simp [intOf]; omega
    · go_wp2_with fail
      all_goals
        refine (HRec gt (tF L) wr FA).mono ?_
        rintro e w8 ⟨v8, rfl, r8, b8⟩
        obtain ⟨p8, cap8, rfl, -, -, h8⟩ := r8
        obtain ⟨pin, cin, hown, -, -, hatin⟩ := (own.below b8).ids
        subst hown
        rw [show (tF L).l.length = L.length from rfl, idL_length L]
        replace h8 : recK.At w8 p8 L := h8
        have hb8 := bnext hb b8
        have hLe := hIv.1
        clear own FA hb b8 hbw
        go_wp2_with fail
        go_loopw [13] (fun jv wq => ∃ j : Nat, j ≤ L.length ∧ jv = .int .i64 (j : Int) ∧ Below w8.heap.size w8 wq) (fun jv _ => L.length - (intOf jv).toNat)
        case atStart => exact ⟨0, Nat.zero_le _, rfl, Below.refl _ _⟩
        case round =>
          obtain ⟨j, hjL, rfl, bq⟩ := hrel
          by_cases hj : j < L.length
          · obtain ⟨bb, off8, rfl, hbb, hc⟩ := h8.pos (by omega)
            obtain ⟨b1, off1, rfl, irow1⟩ := hatin.row (by rw [idL_length]; omega)
            have ci := irow1 _ bq j (by rw [idL_length]; exact hj)
            rw [show (idL L)[j]'(by rw [idL_length]; exact hj) = L[j].v.sc by simp [idL]] at ci
            have d7 := RowK.At.cell (K := recK) hc j 7 hj (by decide) _ rfl
            have d9 := RowK.At.cell (K := recK) hc j 9 hj (by decide) _ rfl
            have d10 := RowK.At.cell (K := recK) hc j 10 hj (by decide) _ rfl
            rw [show off8 + (j * recK.n + 7) = off8 + j * 17 + 7 from (Nat.add_assoc _ _ _).symm, ← bq.cell (p := ⟨bb, off8 + j * 17 + 7, none⟩) hbb] at d7
            rw [show off8 + (j * recK.n + 9) = off8 + j * 17 + 9 from (Nat.add_assoc _ _ _).symm, ← bq.cell (p := ⟨bb, off8 + j * 17 + 9, none⟩) hbb] at d9
            rw [show off8 + (j * recK.n + 10) = off8 + j * 17 + 10 from (Nat.add_assoc _ _ _).symm, ← bq.cell (p := ⟨bb, off8 + j * 17 + 10, none⟩) hbb] at d10
            obtain ⟨-, -, e9, e10, -⟩ := hIv.2 L[j] (List.getElem_mem hj)
            replace d7 : _ = some (Value.int .u64 L[j].v.sc) := d7
            replace d9 : _ = some (Value.int .u64 L[j].v.rc) := d9
            replace d10 : _ = some (Value.int .i64 L[j].v.rp) := d10
            rw [e9] at d9
            rw [e10] at d10
            generalize L[j].v.sc = x at *
            clear e9 e10 hc irow1
            have hjI : (j : Int) < (L.length : Int) := by omega
            go_upto_region 29 with fail
            go_quiet (fail)
            go_wp2_with fail
            go_roundw
            case rel => exact ⟨j + 1, hj, by go_num, drawn_below bq _⟩
            case measure => simp [intOf]; omega
          · have hjI : ¬ (j : Int) < (L.length : Int) := by omega
            go_wp2_with fail
            refine (awake12_from HNew HH HQ HBst HRec _).mono ?_
            rintro e w11 ⟨rfl, b11⟩
            go_wp2_with fail
            go_ret
            exact ⟨rfl, bnext (bnext hb8 bq) b11⟩

end Go.Proofs.Ytdkgcggpgombaaa
