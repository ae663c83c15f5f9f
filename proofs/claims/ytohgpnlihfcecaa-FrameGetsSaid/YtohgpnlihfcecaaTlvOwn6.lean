/- The program's own Put (chapter 8). -/
import Derived.Test.YtohgpnlihfcecaaB1
import Derived.Test.YtohgpnlihfcecaaB2
import Derived.Test.YtohgpnlihfcecaaTlvOwn2
namespace Go.Proofs.Ytohgpnlihfcecaa
open Go.RowKit Go.Proofs
set_option maxRecDepth 50000
set_option linter.unusedVariables false
set_option linter.unusedSimpArgs false

theorem putT_true {l : List T2} (h : (putT l).2 = true) : l.length ≤ 8 ∧ (∀ j (hj : j < l.length), checkT l[j] = true) ∧ (putT l).1 = flatT l := by
  unfold putT at h ⊢
  split at h
  · rename_i hh
    rw [if_pos hh]
    exact ⟨hh.1, fun j hj => List.all_eq_true.1 hh.2 _ (List.getElem_mem hj), rfl⟩
  · cases h

theorem putT_false {l : List T2} (h : (putT l).2 = false) : (putT l).1 = [] := by
  unfold putT at h ⊢
  split at h
  · cases h
  · rename_i hh
    rw [if_neg hh]

set_option maxRecDepth 100000 in
set_option maxHeartbeats 4000000 in
theorem putT_any (p : Option Addr) (b : List UInt8) (cap : Nat) (v : Value) (l : List T2) (w : World) (hB : Bytes w (.slice p b.length cap) b) (hb : b.length ≤ 140737488351232) (hT : Tlvs w v l) (hl : l.length ≤ 140737488355328) (hz : ∀ q ∈ l, q.2.length ≤ 140737488355328) :
    Calls Try.prog 21 #[.slice p b.length cap, v] w fun e w' => ∃ v', e = .returned (.tuple #[v', .bool (putT l).2]) ∧ OwnZ p w' w.heap.size v' (b ++ (putT l).1) ∧ Below w.heap.size w w' := by
  have hZ := OwnZ.none p w w.heap.size
  have hM := fun (wx : World) (h : Below w.heap.size w wx) => mayT_any v l wx (hT.below h) hl hz
  have HT := hid fun (wx : World) (h : Below w.heap.size w wx) => hT.below h
  obtain ⟨p', cap', rfl, -, -, -⟩ := id hT
  have hcap : b.length ≤ cap := by obtain ⟨q, c, he, h1, -⟩ := hB; cases he; exact h1
  have hmax : cap ≤ 9223372036854775807 := by obtain ⟨q, c, he, -, h1, -⟩ := hB; cases he; exact h1
  have PT := hid (@putT_true l)
  have PF := hid (@putT_false l)
  have HZ := hid hz
  clear hz
  generalize putT l = F at *
  obtain ⟨FS, FB⟩ := F
  go_enter Try.func21, Try.ntmps21
  go_wp2_with (at_builtin; refine wpList_append_bytesZ (o := ⟨some 13, _, _, _, _, _⟩) rfl _ _ rfl rfl p w.heap.size _ _ [] b rfl rfl hZ hB ?_ (Nat.le_refl _) ?_; (simp; omega); intro v1 w1 o1 b1; rw [List.nil_append] at o1)
  refine (hM w1 b1).mono ?_
  rintro e w2 ⟨rfl, b2⟩
  replace o1 := o1.below b2
  have hb2 := bnext b1 b2
  clear hM hB hT hZ b1 b2
  cases FB with
  | false =>
    have hF : FS = [] := PF.out rfl
    subst hF
    clear PF PT
    go_wp2_with fail
    go_ret2
    exact ⟨_, rfl, by rw [List.append_nil]; exact o1, hb2⟩
  | true =>
    obtain ⟨h8, hA, hf⟩ := PT.out rfl
    have hf : FS = flatT l := hf
    subst hf
    have HA := hid hA
    clear hA PF PT
    go_wp2_with fail
    go_loopw [6, 20] (fun a i wr => ∃ k : Nat, k ≤ l.length ∧ i = .int .i64 k ∧ OwnZ p wr w.heap.size a (b ++ flatT (l.take k)) ∧ Hid ((b ++ flatT (l.take k)).length ≤ b.length + 404 * k) ∧ Below w.heap.size w wr) (fun _ i _ => l.length - (intOf i).toNat)
    case atStart => exact ⟨0, Nat.zero_le _, rfl, by simpa [flatT] using o1, hid (by simp [flatT]), hb2⟩
    case round =>
      obtain ⟨k, hk, rfl, own, hT', hb⟩ := hrel
      by_cases hlt : k < l.length
      · obtain ⟨p', cap', he, -, -, hat⟩ := HT.out _ hb
        cases he
        obtain ⟨bb, off, rfl, hrow⟩ := hat.row (by omega)
        obtain ⟨c, s, hq, H1, H2⟩ := hrow.get k hlt
        have N := Box.new wr [.int .i64 0, .string ⟨#[]⟩] 47
        have nb := bnew wr (Obj.cells #[.int .i64 0, .string ⟨#[]⟩] 47)
        have c1 := H1.out _ (Below.refl _ _)
        have c2 := H2.out _ (Below.refl _ _)
        have hck := HA.out k hlt
        rw [hq] at hck
        obtain ⟨hc0, hc1, hs2, hs4⟩ := check_yes hck
        have hS : Hid (b ++ flatT (l.take (k + 1)) = (b ++ flatT (l.take k)) ++ ((putS c 2 ++ putS s.length 2) ++ s)) := hid (by rw [take_snoc l k hlt, flatT_snoc, hq]; simp only [tlvS, List.append_assoc])
        have l1 : (putS c 2).length = 2 := putS_length _ 2 (by decide) (by decide)
        have l2 : (putS s.length 2).length = 2 := putS_length _ 2 (by decide) (by decide)
        have hTl := hT'.out
        clear hrow hq hck hat hs2
        replace own := own.known
        have hks : k + 1 ≤ l.length := hlt
        generalize hTT : b ++ flatT (l.take k) = T at *
        go_upto_region 7 with (guard_target =~ wpList _ _ _ (⟨none, _, _, _, _, _⟩ :: _) _ _; refine wpList_store_tlv (op := ⟨none, .store _ _ _, _, _, _, _⟩) (by rfl) _ _ (by rfl) wr.heap.size (c, s) (tL (0, [])) _ (by rfl) (by rfl) N rfl ?_; have B := N.rowT (tL (c, s)); replace nb := below_setRow nb (Nat.le_refl _) (tL (c, s)).toArray; generalize World.setRow _ _ _ = W at *; generalize hg : wr.heap.size = g at *)
        clear N c1 c2
        have nc : Below wr.heap.size wr W := by rw [hg]; exact nb
        replace own := own.below nc
        replace hb := bnext hb nc
        have y := B.cell 0 _ rfl
        have z := B.cell 1 _ rfl
        clear nb nc
        go_wp2_with fail
        refine (put_any (.slice none 0 0) [] c 2 W (Bytes.nil W) (by decide)).mono ?_
        rintro _ w3 ⟨v3, rfl, o3, b3⟩
        rw [List.nil_append] at o3
        replace own := own.below b3
        replace hb := bnext hb b3
        replace B := B.below b3
        clear y z b3
        have y := B.cell 0 _ rfl
        have z := B.cell 1 _ rfl
        generalize putS c 2 = pc at *
        go_wp2_with fail
        refine (put_any v3 pc s.length 2 w3 o3.bytes (by omega)).mono ?_
        rintro _ w4 ⟨v4, rfl, o4, b4⟩
        replace own := own.below b4
        replace hb := bnext hb b4
        replace B := B.below b4
        clear y z b4
        have z := B.cell 1 _ rfl
        have l3 : (pc ++ putS s.length 2).length = 4 := by rw [List.length_append, l1, l2]
        generalize pc ++ putS s.length 2 = H at *
        have l4 : (T ++ H).length = T.length + 4 := by rw [List.length_append, l3]
        go_upto_region 10 with (at_builtin; refine wpList_append_keepZ (o := ⟨some 34, _, _, _, _, _⟩) rfl _ _ rfl rfl p w.heap.size g _ _ T H rfl rfl own o4.bytes (by omega) ?_ hb.size ?_; (omega); intro v5 w5 o5 k5 b5; have hz5 := k5.out g _ _ (Nat.le_refl _) B; replace hb := hb.trans b5)
        clear z
        have z := hz5.cell 1 _ rfl
        generalize hTH : T ++ H = TH at *
        go_wp2_with (at_builtin; refine wpList_append_str (o := ⟨some 38, _, _, _, _, _⟩) rfl _ _ rfl rfl w.heap.size _ TH s rfl rfl o5 ?_ hb.size ?_; (omega); intro v6 w6 o6 b6; replace hb := hb.trans b6)
        go_roundw
        case rel =>
          refine ⟨k + 1, hks, by go_num, .inl ?_, hid ?_, hb⟩
          · rw [hS.out, ← List.append_assoc, hTH]
            exact o6
          · rw [hS.out, ← List.append_assoc, hTH, List.length_append]
            omega
        case measure => simp [intOf]; omega
      · have hke : k = l.length := by omega
        subst hke
        rw [List.take_length] at own
        go_wp2_with fail
        go_ret2
        exact ⟨_, rfl, own, hb⟩
end Go.Proofs.Ytohgpnlihfcecaa
