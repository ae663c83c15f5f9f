/- The walk of the law TlvPuts (gen_tlvputs.py). -/
import Derived.Test.YtdhdlpoopehmlaaTlvLaws3
namespace Go.Proofs.Ytdhdlpoopehmlaa
open Go.RowKit Go.Proofs
set_option linter.unusedVariables false
set_option linter.unusedSimpArgs false

theorem cell_later {w : World} {base g cap n : Nat} {l : List UInt8} {c : UInt8} (h : Own w base (.slice (some ⟨g, 0, none⟩) n cap) (l ++ [c])) {w1 : World} (hb : Below w.heap.size w w1) :
    ∀ w', Below w1.heap.size w1 w' → w'.cell? ⟨g, l.length, none⟩ = some (bv c) := by
  intro w' hb'
  have hc := (h.below (bnext hb hb')).cell l.length (by simp)
  simpa using hc

/-- A block stays where another one is written. -/
theorem Box.keepT {w : World} {g g' : Nat} {xs : List Value} {t : TypeId} (h : Box w g xs t) (hne : g ≠ g') (cs : Array Value) : Box (w.setRow g' cs) g xs t := by
  unfold Box at h ⊢
  rw [setRow_other w g' g cs hne]
  exact h

theorem cat_bytes (a b : List UInt8) : (⟨a.toArray⟩ : ByteArray) ++ ⟨b.toArray⟩ = ⟨(a ++ b).toArray⟩ := by
  apply ByteArray.ext
  simp

theorem putT_short (l : List T2) : (putT l).1.length ≤ 3232 := by
  unfold putT
  split
  · rename_i h
    obtain ⟨h8, hall⟩ := h
    have : ∀ (l : List T2), l.all checkT = true → (flatT l).length ≤ 404 * l.length := by
      intro l
      induction l with
      | nil => intro _; simp [flatT]
      | cons q l ih =>
        intro h
        simp only [List.all_cons, Bool.and_eq_true] at h
        have h1 := ih h.2
        obtain ⟨c, s⟩ := q
        obtain ⟨h2, h3, h4, h5⟩ := check_yes h.1
        have h6 : (putS c 2).length = 2 := putS_length _ 2 (by decide) (by decide)
        have h7 : (putS s.length 2).length = 2 := putS_length _ 2 (by decide) (by decide)
        simp only [flatT, List.flatMap_cons, List.length_append, tlvS, List.length_cons] at h1 ⊢
        omega
    have := this l hall
    show (flatT l).length ≤ _
    omega
  · simp

set_option maxRecDepth 100000 in
set_option maxHeartbeats 8000000 in
theorem tlvPuts_walk (v0 : Value) (b : List UInt8) {w : World} (hB : Bytes w v0 b) (hbl : b.length ≤ 140737488351232) (v : Value) (l : List T2) (hT : Tlvs w v l) (hl : l.length * 24 ≤ 140737488351232) (typ : Int) (wt : (Lit.int .i64 typ).wf = true) :
    Calls Try.prog 3 #[v0, v, .int .i64 typ] w fun e w' => e = .returned (.bool true) ∧ Below w.heap.size w w' := by
  have hfew := few_any v l w hT (by omega)
  have HT := hid fun (wx : World) (h : Below w.heap.size w wx) => hT.below h
  have HB := hid fun (wx : World) (h : Below w.heap.size w wx) => hB.below h
  obtain ⟨p, capT, rfl, -, -, -⟩ := hT
  obtain ⟨p0, cap0, rfl, -, -, -⟩ := id hB
  have HL := hid hl
  have HBL := hid hbl
  clear hl wt
  cases hF : fewB l with
  | false =>
    rw [hF] at hfew
    go_enter Try.func3, Try.ntmps3
    go_wp2_with fail
    refine hfew.mono ?_
    rintro e w1 ⟨rfl, rfl⟩
    go_wp2_with fail
    refine (awake08_any w).mono ?_
    rintro e w1 ⟨rfl, b1⟩
    go_wp2_with fail
    go_ret
    exact ⟨rfl, b1⟩
  | true =>
    rw [hF] at hfew
    have hsz : ∀ q ∈ l, q.2.length ≤ 140737488355328 := fun q hq => by
      obtain ⟨k, hk, rfl⟩ := List.getElem_of_mem hq
      have := few_at hF k hk
      omega
    have HFEW := hid (few_at hF)
    have HPUT := hid fun (p : Option Addr) (cap : Nat) (v : Value) (w : World) (hB : Bytes w (.slice p b.length cap) b) (hT : Tlvs w v l) => putT_any p b cap v l w hB HBL.out hT (by have := HL.out; omega) hsz
    have HREF := hid fun (v : Value) (w : World) (hT : Tlvs w v l) => refPutT_any v l w hT (by have := HL.out; omega) hsz
    have hshort := putT_short l
    have h20 := few_len hF
    clear hF hsz
    generalize putT l = F at *
    obtain ⟨FS, FB⟩ := F
    have hshort : FS.length ≤ 3232 := hshort
    have hs1 : ¬ 9223372036854775807 < b.length + FS.length := by omega
    have HSH := hid hshort
    clear hshort
    have hn := Own.nil w w.heap.size
    have hb := hB
    have h99 := fun wx : World => (Own.lit wx [99] (by decide)).bytes
    go_enter Try.func3, Try.ntmps3
    go_wp2_with fail
    refine hfew.mono ?_
    rintro e w1 ⟨rfl, rfl⟩
    clear hfew
    go_upto_region 4 with (first
      | (at_builtin; refine wpList_append_bytes (o := ⟨some 22, _, _, _, _, _⟩) rfl _ _ rfl rfl w.heap.size _ _ [] b rfl rfl hn hb ?_ (Nat.le_refl _) ?_; (simp; omega); intro c1 wa own1 bel1; rw [List.nil_append] at own1; have ownA := own1.below (bnew wa (.cells (cellsOf [99]).toArray 5)); have h99a := h99 wa; have hsz := bel1.size)
      | (at_builtin; refine wpList_append_bytes (o := ⟨some 24, _, _, _, _, _⟩) rfl _ _ rfl rfl w.heap.size _ _ b [99] rfl rfl ?_ ?_ ?_ ?_ ?_; assumption; assumption; (simp; omega); (simp; omega); intro c2 wb own2 bel2; obtain ⟨g, cap, rfl, hg1, hg2, hg3, hg4⟩ := own2.form (by simp); have hg5 : b.length + 1 ≤ cap := (by simpa using hg1); clear hg1))
    have hWb : Below w.heap.size w wb := bel1.trans ((bnew wa _).mono hsz |>.trans bel2)
    have hc : Bytes wb (.slice (some ⟨g, 0, none⟩) b.length cap) b := by
      have h := Bytes.cut (w := wb) (b := g) (off := 0) (cap := cap) (l := b ++ [99]) 0 b.length cap hg4 (fun i hi => by rw [Nat.zero_add]; exact own2.cell i hi) (by simp) (by simp; omega) hg3 (by omega)
      simpa using h
    have H99 := hid (cell_later own2 (Below.refl _ _))
    clear h99 hn hb own1 bel1 ownA h99a hsz bel2 hB own2
    unfold maxLen at hg3
    have hb := hWb
    go_wp2_with fail
    refine (tlvs00_any _ l wb (HT.out _ hb) (by have := HL.out; omega)).mono ?_
    rintro e w4 ⟨v4, rfl, o4, b4⟩
    replace hb := bnext hb b4
    replace hc := hc.below b4
    go_wp2_with fail
    refine (HPUT.out _ _ _ w4 hc o4.tlvs).mono ?_
    rintro e w5 ⟨v5, rfl, o5, b5⟩
    replace hb := bnext hb b5
    have b45 := bnext b4 b5
    clear hc o4 b4 b5
    go_wp2_with fail
    refine (HREF.out _ w5 (HT.out _ hb)).mono ?_
    rintro e w6 ⟨v6, rfl, o6, b6⟩
    have hb6 := bnext hb b6
    have hS1 := (o5.bytes.below b6).str
    have hS2 := (HB.out _ hb6).str
    have hS3 := o6.bytes.str
    have h99 := H99.out _ (bnext b45 b6)
    have hw1 : IntKind.i64.wrap ((b.length : Int) + 1) = (b.length : Int) + 1 := by rw [IntKind.wrap_i64]; omega
    clear H99
    have hb := hb6
    clear hb6 b45 b6
    have hcat := cat_bytes b FS
    have hx : FB = true ∨ FB = false := by cases FB <;> simp
    rcases hx with rfl | rfl
    all_goals
      go_wp2_with fail
      clear hS1 hS2 hS3 h99 o5 o6 hw1 hcat hs1
      go_loopw [12] (fun i wr => ∃ k : Nat, k ≤ l.length ∧ i = .int .i64 k ∧ Below w.heap.size w wr) (fun i _ => l.length - (intOf i).toNat)
      case atStart => exact ⟨0, Nat.zero_le _, rfl, hb⟩
      case round =>
        obtain ⟨k, hk, rfl, hb⟩ := hrel
        by_cases hlt : k < l.length
        · obtain ⟨p', cap', he, -, -, hat⟩ := HT.out _ hb
          cases he
          obtain ⟨bk, off, rfl, hrow⟩ := hat.row (by omega)
          obtain ⟨c, s, hq, H1, H2⟩ := hrow.get k hlt
          have hs6 := HFEW.out k hlt
          rw [hq] at hs6
          have hs6 : s.length ≤ 600 := hs6
          have hks : k + 1 ≤ l.length := hlt
          have hkI : (k : Int) < (l.length : Int) := by omega
          have hkI2 : (0 : Int) ≤ (k : Int) := by omega
          have hc1 := fun wx => checkT_any c s wx (by omega)
          have hc2 := fun wx => refCheckT_any c s wx (by omega)
          have hc3 := fun wx => knownT_any c s wx (by omega)
          have hc4 := fun wx => refKnownT_any c s wx (by omega)
          clear hat hq hrow hs6
          generalize checkT (c, s) = X at *
          generalize knownT (c, s) = Y at *
          go_upto_region 11 with fail
          cases X <;> cases Y
          all_goals
            refine wp_region_held_drew (S := fun w' => Below wr.heap.size wr w') (by kernel_rfl) (Below.drew (Below.refl _ _)) ?_
            intro hHeld
            generalize wr.drew = wd at *
            refine rtake 0 rfl (by rfl) (by kernel_rfl) (by kernel_rfl) (by kernel_rfl) (fun _ _ _ h => h) hHeld (fun wx hwx => by go_simp; try with_reducible rfl) ?_
            try simp only [Act.put, List.setIfInBounds_toArray, List.set_cons_zero, List.set_cons_succ]
            refine rtake 1 rfl (by rfl) (by kernel_rfl) (by kernel_rfl) (by kernel_rfl) (fun _ _ _ h => h) hHeld (fun wx hwx => by go_simp; try with_reducible rfl) ?_
            try simp only [Act.put, List.setIfInBounds_toArray, List.set_cons_zero, List.set_cons_succ]
            refine rtake 2 rfl (by rfl) (by kernel_rfl) (by kernel_rfl) (by kernel_rfl) (fun _ _ _ h => h) hHeld (fun wx hwx => by go_simp; try with_reducible rfl) ?_
            try simp only [Act.put, List.setIfInBounds_toArray, List.set_cons_zero, List.set_cons_succ]
            refine rtake 3 rfl (by rfl) (by kernel_rfl) (by kernel_rfl) (by kernel_rfl) (fun _ _ _ h => h) hHeld (fun wx hwx => by have h1 := H1.out wx hwx; have h2 := H2.out wx hwx; go_simp; try with_reducible rfl) ?_
            try simp only [Act.put, List.setIfInBounds_toArray, List.set_cons_zero, List.set_cons_succ]
            refine rtake 5 rfl (by rfl) (by kernel_rfl) (by kernel_rfl) (by kernel_rfl) (fun _ _ _ h => h) hHeld (fun wx hwx => by go_simp; try with_reducible rfl) ?_
            try simp only [Act.put, List.setIfInBounds_toArray, List.set_cons_zero, List.set_cons_succ]
            refine rtake 6 rfl (by rfl) (by kernel_rfl) (by kernel_rfl) (by kernel_rfl) (fun _ _ _ h => h) hHeld (fun wx hwx => by go_simp; try with_reducible rfl) ?_
            try simp only [Act.put, List.setIfInBounds_toArray, List.set_cons_zero, List.set_cons_succ]
            refine rtake 7 rfl (by rfl) (by kernel_rfl) (by kernel_rfl) (by kernel_rfl) (fun _ _ _ h => h) hHeld (fun wx hwx => by go_simp; try with_reducible rfl) ?_
            try simp only [Act.put, List.setIfInBounds_toArray, List.set_cons_zero, List.set_cons_succ]
            refine rtake 8 rfl (by rfl) (by kernel_rfl) (by kernel_rfl) (by kernel_rfl) (fun _ _ _ h => h) hHeld (fun wx hwx => by have h1 := H1.out wx hwx; have h2 := H2.out wx hwx; go_simp; try with_reducible rfl) ?_
            try simp only [Act.put, List.setIfInBounds_toArray, List.set_cons_zero, List.set_cons_succ]
            -- CALL 4: some 75 := Op.call { callee := Callee.value (Operand.func 15), args := #[Operand.tmp 74], argTypes := #[32] }
            refine rcall 4 rfl (by kernel_rfl) (by rfl) (fun K hK => ?_)
            go_simp
            refine (hc1 _).mono ?_
            rintro e wx4 ⟨rfl, hbel4⟩
            have hH := bnext hHeld hbel4
            refine hK.out _ _ hH ?_
            clear hK K hHeld
            have hHeld := hH
            clear hH
            try simp only [Act.put, List.setIfInBounds_toArray, List.set_cons_zero, List.set_cons_succ]
            -- CALL 9: some 80 := Op.call { callee := Callee.value (Operand.func 16), args := #[Operand.tmp 79], argTypes := #[32] }
            refine rcall 9 rfl (by kernel_rfl) (by rfl) (fun K hK => ?_)
            go_simp
            refine (hc2 _).mono ?_
            rintro e wx9 ⟨rfl, hbel9⟩
            have hH := bnext hHeld hbel9
            refine hK.out _ _ hH ?_
            clear hK K hHeld
            have hHeld := hH
            clear hH
            try simp only [Act.put, List.setIfInBounds_toArray, List.set_cons_zero, List.set_cons_succ]
            refine rtake 10 rfl (by rfl) (by kernel_rfl) (by kernel_rfl) (by kernel_rfl) (fun _ _ _ h => h) hHeld (fun wx hwx => by go_simp; try with_reducible rfl) ?_
            try simp only [Act.put, List.setIfInBounds_toArray, List.set_cons_zero, List.set_cons_succ]
            refine rtake 11 rfl (by rfl) (by kernel_rfl) (by kernel_rfl) (by kernel_rfl) (fun _ _ _ h => h) hHeld (fun wx hwx => by go_simp; try with_reducible rfl) ?_
            try simp only [Act.put, List.setIfInBounds_toArray, List.set_cons_zero, List.set_cons_succ]
            refine rtake 12 rfl (by rfl) (by kernel_rfl) (by kernel_rfl) (by kernel_rfl) (fun _ _ _ h => h) hHeld (fun wx hwx => by go_simp; try with_reducible rfl) ?_
            try simp only [Act.put, List.setIfInBounds_toArray, List.set_cons_zero, List.set_cons_succ]
            refine rtake 13 rfl (by rfl) (by kernel_rfl) (by kernel_rfl) (by kernel_rfl) (fun _ _ _ h => h) hHeld (fun wx hwx => by go_simp; try with_reducible rfl) ?_
            try simp only [Act.put, List.setIfInBounds_toArray, List.set_cons_zero, List.set_cons_succ]
            refine rtake 14 rfl (by rfl) (by kernel_rfl) (by kernel_rfl) (by kernel_rfl) (fun _ _ _ h => h) hHeld (fun wx hwx => by go_simp; try with_reducible rfl) ?_
            try simp only [Act.put, List.setIfInBounds_toArray, List.set_cons_zero, List.set_cons_succ]
            refine rtake 15 rfl (by rfl) (by kernel_rfl) (by kernel_rfl) (by kernel_rfl) (fun _ _ _ h => h) hHeld (fun wx hwx => by have h1 := H1.out wx hwx; have h2 := H2.out wx hwx; go_simp; try with_reducible rfl) ?_
            try simp only [Act.put, List.setIfInBounds_toArray, List.set_cons_zero, List.set_cons_succ]
            refine rtake 17 rfl (by rfl) (by kernel_rfl) (by kernel_rfl) (by kernel_rfl) (fun _ _ _ h => h) hHeld (fun wx hwx => by go_simp; try with_reducible rfl) ?_
            try simp only [Act.put, List.setIfInBounds_toArray, List.set_cons_zero, List.set_cons_succ]
            refine rtake 18 rfl (by rfl) (by kernel_rfl) (by kernel_rfl) (by kernel_rfl) (fun _ _ _ h => h) hHeld (fun wx hwx => by go_simp; try with_reducible rfl) ?_
            try simp only [Act.put, List.setIfInBounds_toArray, List.set_cons_zero, List.set_cons_succ]
            refine rtake 19 rfl (by rfl) (by kernel_rfl) (by kernel_rfl) (by kernel_rfl) (fun _ _ _ h => h) hHeld (fun wx hwx => by go_simp; try with_reducible rfl) ?_
            try simp only [Act.put, List.setIfInBounds_toArray, List.set_cons_zero, List.set_cons_succ]
            refine rtake 20 rfl (by rfl) (by kernel_rfl) (by kernel_rfl) (by kernel_rfl) (fun _ _ _ h => h) hHeld (fun wx hwx => by have h1 := H1.out wx hwx; have h2 := H2.out wx hwx; go_simp; try with_reducible rfl) ?_
            try simp only [Act.put, List.setIfInBounds_toArray, List.set_cons_zero, List.set_cons_succ]
            -- CALL 16: some 87 := Op.call { callee := Callee.value (Operand.func 17), args := #[Operand.tmp 86], argTypes := #[32] }
            refine rcall 16 rfl (by kernel_rfl) (by rfl) (fun K hK => ?_)
            go_simp
            refine (hc3 _).mono ?_
            rintro e wx16 ⟨rfl, hbel16⟩
            have hH := bnext hHeld hbel16
            refine hK.out _ _ hH ?_
            clear hK K hHeld
            have hHeld := hH
            clear hH
            try simp only [Act.put, List.setIfInBounds_toArray, List.set_cons_zero, List.set_cons_succ]
            -- CALL 21: some 92 := Op.call { callee := Callee.value (Operand.func 18), args := #[Operand.tmp 91], argTypes := #[32] }
            refine rcall 21 rfl (by kernel_rfl) (by rfl) (fun K hK => ?_)
            go_simp
            refine (hc4 _).mono ?_
            rintro e wx21 ⟨rfl, hbel21⟩
            have hH := bnext hHeld hbel21
            refine hK.out _ _ hH ?_
            clear hK K hHeld
            have hHeld := hH
            clear hH
            try simp only [Act.put, List.setIfInBounds_toArray, List.set_cons_zero, List.set_cons_succ]
            refine rtake 22 rfl (by rfl) (by kernel_rfl) (by kernel_rfl) (by kernel_rfl) (fun _ _ _ h => h) hHeld (fun wx hwx => by go_simp; try with_reducible rfl) ?_
            try simp only [Act.put, List.setIfInBounds_toArray, List.set_cons_zero, List.set_cons_succ]
            refine rtake 23 rfl (by rfl) (by kernel_rfl) (by kernel_rfl) (by kernel_rfl) (fun _ _ _ h => h) hHeld (fun wx hwx => by go_simp; try with_reducible rfl) ?_
            try simp only [Act.put, List.setIfInBounds_toArray, List.set_cons_zero, List.set_cons_succ]
            refine wpAnyH_done (by kernel_rfl) ?_ _
            clear hc1 hc2 hc3 hc4
            go_wp2_with fail
            go_roundw
            case rel => exact ⟨k + 1, hks, by go_num, bnext hb hHeld⟩
            case measure => simp [intOf]; omega
        · have hcall := fun v w hT => findT_any v l typ w hT (by have := HL.out; omega)
          have hcall2 := refFind_any (.slice p l.length capT) l typ
          have hE := equal_tlv (findT l typ).1 (findT l typ).1
          simp only [beq_self_eq_true] at hE
          generalize findT l typ = F at *
          obtain ⟨⟨fc, fs⟩, fb⟩ := F
          have hx : fb = true ∨ fb = false := by cases fb <;> simp
          rcases hx with rfl | rfl
          all_goals
            go_wp2_with fail
            refine (tlvs00_any _ l wr (HT.out _ hb) (by have := HL.out; omega)).mono ?_
            rintro e w7 ⟨v7, rfl, o7, b7⟩
            replace hb := bnext hb b7
            go_wp2_with fail
            refine (hcall _ w7 o7.tlvs).mono ?_
            rintro e w8 ⟨rfl, b8⟩
            replace hb := bnext hb b8
            have Na := Box.new w8 [.int .i64 0, .string ⟨#[]⟩] 32
            have nb := bnew w8 (Obj.cells #[.int .i64 0, .string ⟨#[]⟩] 32)
            go_upto_region 14 with (guard_target =~ wpList _ _ _ (⟨none, _, _, _, _, _⟩ :: _) _ _; refine wpList_store_tlv (op := ⟨none, .store _ _ _, _, _, _, _⟩) (by rfl) _ _ (by rfl) w8.heap.size (fc, fs) (tL (0, [])) _ (by rfl) (by rfl) Na rfl ?_; have B8 := Na.rowT (tL (fc, fs)); replace nb := below_setRow nb (Nat.le_refl _) (tL (fc, fs)).toArray; generalize World.setRow _ _ _ = W8 at *; generalize hg : w8.heap.size = G8 at *)
            have nc : Below w8.heap.size w8 W8 := by rw [hg]; exact nb
            replace hb := bnext hb nc
            clear Na nb
            go_wp2_with fail
            refine (hcall2 W8 (HT.out _ hb) (by have := HL.out; omega)).mono ?_
            rintro e w9 ⟨rfl, b9⟩
            replace hb := bnext hb b9
            replace B8 := B8.below b9
            have hne : G8 ≠ w9.heap.size := by have := B8.lt; omega
            have B8n := B8.below (bnew w9 (Obj.cells #[.int .i64 0, .string ⟨#[]⟩] 32))
            have B8r := B8n.keepT hne (tL (fc, fs)).toArray
            clear nc B8 B8n
            have Nb := Box.new w9 [.int .i64 0, .string ⟨#[]⟩] 32
            have nb := bnew w9 (Obj.cells #[.int .i64 0, .string ⟨#[]⟩] 32)
            go_upto_region 15 with (guard_target =~ wpList _ _ _ (⟨none, _, _, _, _, _⟩ :: _) _ _; refine wpList_store_tlv (op := ⟨none, .store _ _ _, _, _, _, _⟩) (by rfl) _ _ (by rfl) w9.heap.size (fc, fs) (tL (0, [])) _ (by rfl) (by rfl) Nb rfl ?_; have B9 := Nb.rowT (tL (fc, fs)); replace nb := below_setRow nb (Nat.le_refl _) (tL (fc, fs)).toArray; generalize World.setRow _ _ _ = W9 at *; generalize hg : w9.heap.size = G9 at *)
            have nc : Below w9.heap.size w9 W9 := by rw [hg]; exact nb
            replace hb := bnext hb nc
            clear Nb nb
            have y8 := B8r.cell 0 _ rfl
            have z8 := B8r.cell 1 _ rfl
            have y9 := B9.cell 0 _ rfl
            have z9 := B9.cell 1 _ rfl
            go_wp2_with fail
            refine (awake08_any W9).mono ?_
            rintro e w10 ⟨rfl, b10⟩
            go_wp2_with fail
            go_ret
            exact ⟨rfl, bnext hb b10⟩
end Go.Proofs.Ytdhdlpoopehmlaa
