/- carillonlaw14's UpdateSays from contracts (gen_parlaws.py). -/
import Derived.Test.YtdknecekebmkmaaParLaws1
import Derived.Test.YtdknecekebmkmaaChain2
import Derived.Test.YtdknecekebmkmaaNum
namespace Go.Proofs.Ytdknecekebmkmaa
open Go.RowKit Go.Proofs
set_option maxRecDepth 50000
set_option linter.unusedVariables false
set_option linter.unusedSimpArgs false

set_option maxRecDepth 100000 in
set_option maxHeartbeats 8000000 in
theorem updateSays_from (HO : COwnP) (HF : CFol) (HY : CSay) (HS : CSam) (c : Cf) (v0 : Vc) (hv0 : VcIn v0) (t : Tm) (port seq : Int) (w : World) :
    Calls Try.prog 4 #[.agg (cfK.enc c).toArray, .agg (vecK.enc v0).toArray, .agg (tmK.enc t).toArray, .int .i64 port, .int .i64 seq] w fun e w' => e = .returned (.bool true) ∧ Below w.heap.size w w' := by
  have hmask : bits .and .i64 v0.st 65535 = v0.st % 65536 := and_mask v0.st 16 (by decide)
  have z0 := bnew w (Obj.cells (cfL c).toArray 28)
  have hC := Box.new w (cfL c) 28
  have z1 := bnew (w.alloc (Obj.cells (cfL c).toArray 28)) (Obj.cells (vcL v0).toArray 32)
  have hV := Box.new (w.alloc (Obj.cells (cfL c).toArray 28)) (vcL v0) 32
  replace hC := hC.below z1
  have z2 := bnew ((w.alloc (Obj.cells (cfL c).toArray 28)).alloc (Obj.cells (vcL v0).toArray 32)) (Obj.cells (tmL t).toArray 26)
  have hT := Box.new ((w.alloc (Obj.cells (cfL c).toArray 28)).alloc (Obj.cells (vcL v0).toArray 32)) (tmL t) 26
  replace hC := hC.below z2
  replace hV := hV.below z2
  have hb := z0
  replace hb := bnext hb z1
  replace hb := bnext hb z2
  clear z0
  clear z1
  clear z2
  have s1 : (w.alloc (Obj.cells (cfL c).toArray 28)).heap.size = w.heap.size + 1 := by simp
  rw [s1] at hV
  have s2 : ((w.alloc (Obj.cells (cfL c).toArray 28)).alloc (Obj.cells (vcL v0).toArray 32)).heap.size = w.heap.size + 1 + 1 := by simp
  rw [s2] at hT
  go_enter Try.func4, Try.ntmps4
  go_upto_region 1 with fail
  change Code.wp Try.prog _ _ _ (((w.alloc (Obj.cells (cfL c).toArray 28)).alloc (Obj.cells (vcL v0).toArray 32)).alloc (Obj.cells (tmL t).toArray 26))
  generalize (((w.alloc (Obj.cells (cfL c).toArray 28)).alloc (Obj.cells (vcL v0).toArray 32)).alloc (Obj.cells (tmL t).toArray 26)) = W at *
  clear s1 s2
  generalize hG : w.heap.size = G at *
  have c6 := hV.cell 6 _ rfl
  have f6 := hV.free 6
  have hne1 : G ≠ G + 1 := by omega
  have hne2 : G + 1 + 1 ≠ G + 1 := by omega
  go_upto_region 2 with fail
  replace hV : Box (W.setCell ⟨G + 1, 6, none⟩ (.int .i64 (v0.st % 65536))) (G + 1) (vecK.enc { v0 with st := v0.st % 65536 }) 32 := hV.set 6 (.int .i64 (v0.st % 65536))
  replace hC := hC.other hne1 6 (.int .i64 (v0.st % 65536))
  replace hT := hT.other hne2 6 (.int .i64 (v0.st % 65536))
  replace hb := hb.setCell (p := ⟨G + 1, 6, none⟩) (by show G ≤ G + 1; omega) (.int .i64 (v0.st % 65536))
  obtain ⟨v, hvd⟩ : ∃ v : Vc, v = { v0 with st := v0.st % 65536 } := ⟨_, rfl⟩
  have hv : VcIn v := by
    rw [hvd]
    exact ⟨hv0.1, hv0.2.1, hv0.2.2.1, hv0.2.2.2.1, hv0.2.2.2.2.1, hv0.2.2.2.2.2.1, (show I64 (v0.st % 65536) from ⟨by have := Int.emod_nonneg v0.st (b := 65536) (by decide); omega, by have := Int.emod_lt_of_pos v0.st (b := 65536) (by decide); omega⟩), hv0.2.2.2.2.2.2.2⟩
  rw [← hvd] at hV
  generalize W.setCell _ _ = W2 at *
  clear c6 f6 hne1 hne2 hmask hvd
  rw [← hG] at hb
  have hf := fun w => HF v t w
  have hy := fun p w => HY c p port seq w
  have hm1 : (sayM c (folP v t) port seq).2.sr = wrap64 (v.st + 1) := rfl
  have HC9 := hid fun (wx : World) (h : Below W2.heap.size W2 wx) => hC.below h
  have HV9 := hid fun (wx : World) (h : Below W2.heap.size W2 wx) => hV.below h
  have HT9 := hid fun (wx : World) (h : Below W2.heap.size W2 wx) => hT.below h
  clear hC hV hT
  apply share2 (P := fun (g8 : Nat) (w' : World) => Below W2.heap.size W2 w' ∧ Box w' g8 (msK.enc (sayM c (folP v t) port seq)) 38)
  case h1 =>
    intro tail
    have hbW := Below.drew (Below.refl W2.heap.size W2)
    refine wp_region_held_drew (S := fun w' => Below W2.drew.heap.size W2.drew w') (by kernel_rfl) (Below.refl _ _) ?_
    intro hHeld
    generalize W2.drew = WD at *
    refine rtake 0 rfl (by rfl) (by kernel_rfl) (by kernel_rfl) (by kernel_rfl) (fun _ _ _ h => h) hHeld (fun wx hwx => cfT.exec _ rfl G 0 rfl (c) (HC9.out wx (bnext hbW hwx)).rangeK) ?_
    try simp only [Act.put, List.setIfInBounds_toArray, List.set_cons_zero, List.set_cons_succ]
    refine rtake 1 rfl (by rfl) (by kernel_rfl) (by kernel_rfl) (by kernel_rfl) (fun _ _ _ h => h) hHeld (fun wx hwx => vecT.exec _ rfl (G + 1) 0 rfl (v) (HV9.out wx (bnext hbW hwx)).rangeK) ?_
    try simp only [Act.put, List.setIfInBounds_toArray, List.set_cons_zero, List.set_cons_succ]
    refine rtake 2 rfl (by rfl) (by kernel_rfl) (by kernel_rfl) (by kernel_rfl) (fun _ _ _ h => h) hHeld (fun wx hwx => tmT.exec _ rfl (G + 1 + 1) 0 rfl (t) (HT9.out wx (bnext hbW hwx)).rangeK) ?_
    try simp only [Act.put, List.setIfInBounds_toArray, List.set_cons_zero, List.set_cons_succ]
    refine rtake 4 rfl (by rfl) (by kernel_rfl) (by kernel_rfl) (by kernel_rfl) (fun _ _ _ h => h) hHeld (fun wx hwx => by go_simp; try with_reducible rfl) ?_
    try simp only [Act.put, List.setIfInBounds_toArray, List.set_cons_zero, List.set_cons_succ]
    refine rtake 5 rfl (by rfl) (by kernel_rfl) (by kernel_rfl) (by kernel_rfl) (fun _ _ _ h => h) hHeld (fun wx hwx => by go_simp; try with_reducible rfl) ?_
    try simp only [Act.put, List.setIfInBounds_toArray, List.set_cons_zero, List.set_cons_succ]
    refine rtwo 3 7 rfl rfl (by kernel_rfl) (by rfl) (by rfl) (fun K' hK => ?_) (fun K' hK => ?_)
    · skip
      go_simp
      refine (hf _).mono ?_
      rintro e wq3 ⟨rfl, bq⟩
      replace hHeld := bnext hHeld bq
      refine hK.out _ _ hHeld ?_
      clear hK K' bq
      try simp only [Act.put, List.setIfInBounds_toArray, List.set_cons_zero, List.set_cons_succ]
      refine rtwo 6 7 rfl rfl (by kernel_rfl) (by rfl) (by rfl) (fun K' hK => ?_) (fun K' hK => ?_)
      · skip
        go_simp
        refine (hy _ _).mono ?_
        rintro e wq6 ⟨rfl, bq⟩
        replace hHeld := bnext hHeld bq
        refine hK.out _ _ hHeld ?_
        clear hK K' bq
        try simp only [Act.put, List.setIfInBounds_toArray, List.set_cons_zero, List.set_cons_succ]
        refine rcall 7 rfl (by kernel_rfl) (by rfl) (fun K' hK => ?_)
        go_simp
        have hA := Box.new wq6 (msK.enc zeroM) 38
        have hna := bnew wq6 (Obj.cells (msK.enc zeroM).toArray 38)
        have hgs := hHeld.size
        change K' _ (wq6.alloc (Obj.cells (msK.enc zeroM).toArray 38))
        replace hHeld := bnext hHeld hna
        refine hK.out _ _ hHeld ?_
        clear hK K' hna
        generalize wq6.alloc _ = WA at *
        try simp only [Act.put, List.setIfInBounds_toArray, List.set_cons_zero, List.set_cons_succ]
        refine rcall 8 rfl (by kernel_rfl) (by rfl) (fun K' hK => ?_)
        refine msT.op_store (op := ⟨none, .store _ _ _, _, _, _, _⟩) _ _ rfl wq6.heap.size (sayM c (folP v t) port seq) zeroM _ rfl rfl hA ?_
        replace hA := hA.rowK (msK.enc (sayM c (folP v t) port seq))
        replace hHeld := below_setRow hHeld hgs (msK.enc (sayM c (folP v t) port seq)).toArray
        refine hK.out _ _ hHeld ?_
        clear hK K'
        generalize World.setRow _ _ _ = WS at *
        refine wpAnyH_done (by kernel_rfl) ?_ _
        have hZ := bnext hbW hHeld
        clear hHeld hgs
        generalize wq6.heap.size = g8 at hA ⊢
        exact tail g8 WS ⟨hZ, hA⟩
      · skip
        go_simp
        have hA := Box.new wq3 (msK.enc zeroM) 38
        have hna := bnew wq3 (Obj.cells (msK.enc zeroM).toArray 38)
        have hgs := hHeld.size
        change K' _ (wq3.alloc (Obj.cells (msK.enc zeroM).toArray 38))
        replace hHeld := bnext hHeld hna
        refine hK.out _ _ hHeld ?_
        clear hK K' hna
        generalize wq3.alloc _ = WA at *
        try simp only [Act.put, List.setIfInBounds_toArray, List.set_cons_zero, List.set_cons_succ]
        refine rcall 6 rfl (by kernel_rfl) (by rfl) (fun K' hK => ?_)
        go_simp
        refine (hy _ _).mono ?_
        rintro e wq6 ⟨rfl, bq⟩
        replace hHeld := bnext hHeld bq
        replace hA := hA.below bq
        refine hK.out _ _ hHeld ?_
        clear hK K' bq
        try simp only [Act.put, List.setIfInBounds_toArray, List.set_cons_zero, List.set_cons_succ]
        refine rcall 8 rfl (by kernel_rfl) (by rfl) (fun K' hK => ?_)
        refine msT.op_store (op := ⟨none, .store _ _ _, _, _, _, _⟩) _ _ rfl wq3.heap.size (sayM c (folP v t) port seq) zeroM _ rfl rfl hA ?_
        replace hA := hA.rowK (msK.enc (sayM c (folP v t) port seq))
        replace hHeld := below_setRow hHeld hgs (msK.enc (sayM c (folP v t) port seq)).toArray
        refine hK.out _ _ hHeld ?_
        clear hK K'
        generalize World.setRow _ _ _ = WS at *
        refine wpAnyH_done (by kernel_rfl) ?_ _
        have hZ := bnext hbW hHeld
        clear hHeld hgs
        generalize wq3.heap.size = g8 at hA ⊢
        exact tail g8 WS ⟨hZ, hA⟩
    · skip
      go_simp
      have hA := Box.new WD (msK.enc zeroM) 38
      have hna := bnew WD (Obj.cells (msK.enc zeroM).toArray 38)
      have hgs := hHeld.size
      change K' _ (WD.alloc (Obj.cells (msK.enc zeroM).toArray 38))
      replace hHeld := bnext hHeld hna
      refine hK.out _ _ hHeld ?_
      clear hK K' hna
      generalize WD.alloc _ = WA at *
      try simp only [Act.put, List.setIfInBounds_toArray, List.set_cons_zero, List.set_cons_succ]
      refine rcall 3 rfl (by kernel_rfl) (by rfl) (fun K' hK => ?_)
      go_simp
      refine (hf _).mono ?_
      rintro e wq3 ⟨rfl, bq⟩
      replace hHeld := bnext hHeld bq
      replace hA := hA.below bq
      refine hK.out _ _ hHeld ?_
      clear hK K' bq
      try simp only [Act.put, List.setIfInBounds_toArray, List.set_cons_zero, List.set_cons_succ]
      refine rcall 6 rfl (by kernel_rfl) (by rfl) (fun K' hK => ?_)
      go_simp
      refine (hy _ _).mono ?_
      rintro e wq6 ⟨rfl, bq⟩
      replace hHeld := bnext hHeld bq
      replace hA := hA.below bq
      refine hK.out _ _ hHeld ?_
      clear hK K' bq
      try simp only [Act.put, List.setIfInBounds_toArray, List.set_cons_zero, List.set_cons_succ]
      refine rcall 8 rfl (by kernel_rfl) (by rfl) (fun K' hK => ?_)
      refine msT.op_store (op := ⟨none, .store _ _ _, _, _, _, _⟩) _ _ rfl WD.heap.size (sayM c (folP v t) port seq) zeroM _ rfl rfl hA ?_
      replace hA := hA.rowK (msK.enc (sayM c (folP v t) port seq))
      replace hHeld := below_setRow hHeld hgs (msK.enc (sayM c (folP v t) port seq)).toArray
      refine hK.out _ _ hHeld ?_
      clear hK K'
      generalize World.setRow _ _ _ = WS at *
      refine wpAnyH_done (by kernel_rfl) ?_ _
      have hZ := bnext hbW hHeld
      clear hHeld hgs
      generalize WD.heap.size = g8 at hA ⊢
      exact tail g8 WS ⟨hZ, hA⟩
  rintro g8 W5 ⟨hbel, hA⟩
  have hC := HC9.out _ hbel
  have hV := HV9.out _ hbel
  have hT := HT9.out _ hbel
  clear HC9 HV9 HT9
  replace hb := bnext hb hbel
  clear hbel hm1
  have a4 : W5.cell? ⟨g8, 4, none⟩ = some (.int .u64 (c.cl)) := hA.cell 4 _ rfl
  have a11 : W5.cell? ⟨g8, 11, none⟩ = some (.int .i64 (t.ut)) := hA.cell 11 _ rfl
  have a12 : W5.cell? ⟨g8, 12, none⟩ = some (.int .i64 (v.p1)) := hA.cell 12 _ rfl
  have a13 : W5.cell? ⟨g8, 13, none⟩ = some (.int .i64 (v.qc)) := hA.cell 13 _ rfl
  have a14 : W5.cell? ⟨g8, 14, none⟩ = some (.int .i64 (v.qa)) := hA.cell 14 _ rfl
  have a15 : W5.cell? ⟨g8, 15, none⟩ = some (.int .i64 (v.qv)) := hA.cell 15 _ rfl
  have a16 : W5.cell? ⟨g8, 16, none⟩ = some (.int .i64 (v.p2)) := hA.cell 16 _ rfl
  have a17 : W5.cell? ⟨g8, 17, none⟩ = some (.int .u64 (v.gr)) := hA.cell 17 _ rfl
  have a18 : W5.cell? ⟨g8, 18, none⟩ = some (.int .i64 (wrap64 (v.st + 1))) := hA.cell 18 _ rfl
  have a19 : W5.cell? ⟨g8, 19, none⟩ = some (.int .i64 (t.og)) := hA.cell 19 _ rfl
  have v0 := hV.cell 0 _ rfl
  have v1 := hV.cell 1 _ rfl
  have v2 := hV.cell 2 _ rfl
  have v3 := hV.cell 3 _ rfl
  have v4 := hV.cell 4 _ rfl
  have v5 := hV.cell 5 _ rfl
  have v6 := hV.cell 6 _ rfl
  have t0 := hT.cell 0 _ rfl
  have t2 := hT.cell 2 _ rfl
  have c0 := hC.cell 0 _ rfl
  go_upto_region 5 with fail
  clear a4 a11 a12 a13 a14 a15 a16 a17 a18 a19 v0 v1 v2 v3 v4 v5 v6 t0 t2 c0
  have ho := fun w => HO c w
  clear hA
  have HC9 := hid fun (wx : World) (h : Below W5.heap.size W5 wx) => hC.below h
  have HV9 := hid fun (wx : World) (h : Below W5.heap.size W5 wx) => hV.below h
  have HT9 := hid fun (wx : World) (h : Below W5.heap.size W5 wx) => hT.below h
  clear hC hV hT
  apply share2 (P := fun (g8 : Nat) (w' : World) => Below W5.heap.size W5 w' ∧ Box w' g8 (msK.enc (sayM c (ownP c) port seq)) 38)
  case h1 =>
    intro tail
    have hbW := Below.drew (Below.refl W5.heap.size W5)
    refine wp_region_held_drew (S := fun w' => Below W5.drew.heap.size W5.drew w') (by kernel_rfl) (Below.refl _ _) ?_
    intro hHeld
    generalize W5.drew = WD at *
    refine rtake 0 rfl (by rfl) (by kernel_rfl) (by kernel_rfl) (by kernel_rfl) (fun _ _ _ h => h) hHeld (fun wx hwx => cfT.exec _ rfl G 0 rfl (c) (HC9.out wx (bnext hbW hwx)).rangeK) ?_
    try simp only [Act.put, List.setIfInBounds_toArray, List.set_cons_zero, List.set_cons_succ]
    refine rtake 1 rfl (by rfl) (by kernel_rfl) (by kernel_rfl) (by kernel_rfl) (fun _ _ _ h => h) hHeld (fun wx hwx => cfT.exec _ rfl G 0 rfl (c) (HC9.out wx (bnext hbW hwx)).rangeK) ?_
    try simp only [Act.put, List.setIfInBounds_toArray, List.set_cons_zero, List.set_cons_succ]
    refine rtake 3 rfl (by rfl) (by kernel_rfl) (by kernel_rfl) (by kernel_rfl) (fun _ _ _ h => h) hHeld (fun wx hwx => by go_simp; try with_reducible rfl) ?_
    try simp only [Act.put, List.setIfInBounds_toArray, List.set_cons_zero, List.set_cons_succ]
    refine rtake 4 rfl (by rfl) (by kernel_rfl) (by kernel_rfl) (by kernel_rfl) (fun _ _ _ h => h) hHeld (fun wx hwx => by go_simp; try with_reducible rfl) ?_
    try simp only [Act.put, List.setIfInBounds_toArray, List.set_cons_zero, List.set_cons_succ]
    refine rtwo 2 6 rfl rfl (by kernel_rfl) (by rfl) (by rfl) (fun K' hK => ?_) (fun K' hK => ?_)
    · skip
      go_simp
      refine (ho _).mono ?_
      rintro e wq2 ⟨rfl, bq⟩
      replace hHeld := bnext hHeld bq
      refine hK.out _ _ hHeld ?_
      clear hK K' bq
      try simp only [Act.put, List.setIfInBounds_toArray, List.set_cons_zero, List.set_cons_succ]
      refine rtwo 5 6 rfl rfl (by kernel_rfl) (by rfl) (by rfl) (fun K' hK => ?_) (fun K' hK => ?_)
      · skip
        go_simp
        refine (hy _ _).mono ?_
        rintro e wq5 ⟨rfl, bq⟩
        replace hHeld := bnext hHeld bq
        refine hK.out _ _ hHeld ?_
        clear hK K' bq
        try simp only [Act.put, List.setIfInBounds_toArray, List.set_cons_zero, List.set_cons_succ]
        refine rcall 6 rfl (by kernel_rfl) (by rfl) (fun K' hK => ?_)
        go_simp
        have hA := Box.new wq5 (msK.enc zeroM) 38
        have hna := bnew wq5 (Obj.cells (msK.enc zeroM).toArray 38)
        have hgs := hHeld.size
        change K' _ (wq5.alloc (Obj.cells (msK.enc zeroM).toArray 38))
        replace hHeld := bnext hHeld hna
        refine hK.out _ _ hHeld ?_
        clear hK K' hna
        generalize wq5.alloc _ = WA at *
        try simp only [Act.put, List.setIfInBounds_toArray, List.set_cons_zero, List.set_cons_succ]
        refine rcall 7 rfl (by kernel_rfl) (by rfl) (fun K' hK => ?_)
        refine msT.op_store (op := ⟨none, .store _ _ _, _, _, _, _⟩) _ _ rfl wq5.heap.size (sayM c (ownP c) port seq) zeroM _ rfl rfl hA ?_
        replace hA := hA.rowK (msK.enc (sayM c (ownP c) port seq))
        replace hHeld := below_setRow hHeld hgs (msK.enc (sayM c (ownP c) port seq)).toArray
        refine hK.out _ _ hHeld ?_
        clear hK K'
        generalize World.setRow _ _ _ = WS at *
        refine wpAnyH_done (by kernel_rfl) ?_ _
        have hZ := bnext hbW hHeld
        clear hHeld hgs
        generalize wq5.heap.size = g8 at hA ⊢
        exact tail g8 WS ⟨hZ, hA⟩
      · skip
        go_simp
        have hA := Box.new wq2 (msK.enc zeroM) 38
        have hna := bnew wq2 (Obj.cells (msK.enc zeroM).toArray 38)
        have hgs := hHeld.size
        change K' _ (wq2.alloc (Obj.cells (msK.enc zeroM).toArray 38))
        replace hHeld := bnext hHeld hna
        refine hK.out _ _ hHeld ?_
        clear hK K' hna
        generalize wq2.alloc _ = WA at *
        try simp only [Act.put, List.setIfInBounds_toArray, List.set_cons_zero, List.set_cons_succ]
        refine rcall 5 rfl (by kernel_rfl) (by rfl) (fun K' hK => ?_)
        go_simp
        refine (hy _ _).mono ?_
        rintro e wq5 ⟨rfl, bq⟩
        replace hHeld := bnext hHeld bq
        replace hA := hA.below bq
        refine hK.out _ _ hHeld ?_
        clear hK K' bq
        try simp only [Act.put, List.setIfInBounds_toArray, List.set_cons_zero, List.set_cons_succ]
        refine rcall 7 rfl (by kernel_rfl) (by rfl) (fun K' hK => ?_)
        refine msT.op_store (op := ⟨none, .store _ _ _, _, _, _, _⟩) _ _ rfl wq2.heap.size (sayM c (ownP c) port seq) zeroM _ rfl rfl hA ?_
        replace hA := hA.rowK (msK.enc (sayM c (ownP c) port seq))
        replace hHeld := below_setRow hHeld hgs (msK.enc (sayM c (ownP c) port seq)).toArray
        refine hK.out _ _ hHeld ?_
        clear hK K'
        generalize World.setRow _ _ _ = WS at *
        refine wpAnyH_done (by kernel_rfl) ?_ _
        have hZ := bnext hbW hHeld
        clear hHeld hgs
        generalize wq2.heap.size = g8 at hA ⊢
        exact tail g8 WS ⟨hZ, hA⟩
    · skip
      go_simp
      have hA := Box.new WD (msK.enc zeroM) 38
      have hna := bnew WD (Obj.cells (msK.enc zeroM).toArray 38)
      have hgs := hHeld.size
      change K' _ (WD.alloc (Obj.cells (msK.enc zeroM).toArray 38))
      replace hHeld := bnext hHeld hna
      refine hK.out _ _ hHeld ?_
      clear hK K' hna
      generalize WD.alloc _ = WA at *
      try simp only [Act.put, List.setIfInBounds_toArray, List.set_cons_zero, List.set_cons_succ]
      refine rcall 2 rfl (by kernel_rfl) (by rfl) (fun K' hK => ?_)
      go_simp
      refine (ho _).mono ?_
      rintro e wq2 ⟨rfl, bq⟩
      replace hHeld := bnext hHeld bq
      replace hA := hA.below bq
      refine hK.out _ _ hHeld ?_
      clear hK K' bq
      try simp only [Act.put, List.setIfInBounds_toArray, List.set_cons_zero, List.set_cons_succ]
      refine rcall 5 rfl (by kernel_rfl) (by rfl) (fun K' hK => ?_)
      go_simp
      refine (hy _ _).mono ?_
      rintro e wq5 ⟨rfl, bq⟩
      replace hHeld := bnext hHeld bq
      replace hA := hA.below bq
      refine hK.out _ _ hHeld ?_
      clear hK K' bq
      try simp only [Act.put, List.setIfInBounds_toArray, List.set_cons_zero, List.set_cons_succ]
      refine rcall 7 rfl (by kernel_rfl) (by rfl) (fun K' hK => ?_)
      refine msT.op_store (op := ⟨none, .store _ _ _, _, _, _, _⟩) _ _ rfl WD.heap.size (sayM c (ownP c) port seq) zeroM _ rfl rfl hA ?_
      replace hA := hA.rowK (msK.enc (sayM c (ownP c) port seq))
      replace hHeld := below_setRow hHeld hgs (msK.enc (sayM c (ownP c) port seq)).toArray
      refine hK.out _ _ hHeld ?_
      clear hK K'
      generalize World.setRow _ _ _ = WS at *
      refine wpAnyH_done (by kernel_rfl) ?_ _
      have hZ := bnext hbW hHeld
      clear hHeld hgs
      generalize WD.heap.size = g8 at hA ⊢
      exact tail g8 WS ⟨hZ, hA⟩
  rintro gn W6 ⟨hbel, hA⟩
  have hC := HC9.out _ hbel
  have hV := HV9.out _ hbel
  have hT := HT9.out _ hbel
  clear HC9 HV9 HT9
  replace hb := bnext hb hbel
  clear hbel
  go_wp2_with (guard_target =~ wpList _ _ _ (⟨some 87, _, _, _, _, _⟩ :: _) _ _; refine cfT.load (op := ⟨some 87, .load _ _, _, _, _, _⟩) (by rfl) _ (by rfl) G 0 (by rfl) (c) hC.rangeK ?_)
  refine (refOwn11_any c _).mono ?_
  rintro e w7 ⟨rfl, b7⟩
  replace hb := bnext hb b7
  replace hA := hA.below b7
  clear hC hV hT b7
  have hn1 := bnew w7 (Obj.cells (vecK.enc zeroV).toArray 32)
  have hN0 := Box.new w7 (vecK.enc zeroV) 32
  go_upto_region 7 with (guard_target =~ wpList _ _ _ (⟨none, _, _, _, _, _⟩ :: _) _ _; refine vecT.store (op := ⟨none, .store _ _ _, _, _, _, _⟩) (by rfl) _ _ (by rfl) (w7.heap.size) (ownV c) (zeroV) _ (by rfl) (by rfl) hN0 ?_)
  have hN := hN0.rowK (vecK.enc (ownV c))
  replace hA := (hA.below hn1).rowK_other (k := w7.heap.size) (by have := hA.lt; omega) (vecK.enc (ownV c)).toArray
  replace hb := bnext hb (below_setRow hn1 (Nat.le_refl _) (vecK.enc (ownV c)).toArray)
  change Code.wp Try.prog _ _ _ ((w7.alloc (Obj.cells (vecK.enc zeroV).toArray 32)).setRow w7.heap.size (vecK.enc (ownV c)).toArray)
  generalize (w7.alloc (Obj.cells (vecK.enc zeroV).toArray 32)).setRow w7.heap.size (vecK.enc (ownV c)).toArray = W8 at *
  generalize w7.heap.size = g9 at *
  clear hn1 hN0
  have a4 : W8.cell? ⟨gn, 4, none⟩ = some (.int .u64 (c.cl)) := hA.cell 4 _ rfl
  have a5 : W8.cell? ⟨gn, 5, none⟩ = some (.int .i64 (port)) := hA.cell 5 _ rfl
  have a6 : W8.cell? ⟨gn, 6, none⟩ = some (.int .i64 (seq)) := hA.cell 6 _ rfl
  have a12 : W8.cell? ⟨gn, 12, none⟩ = some (.int .i64 (c.p1)) := hA.cell 12 _ rfl
  have a13 : W8.cell? ⟨gn, 13, none⟩ = some (.int .i64 (c.qc)) := hA.cell 13 _ rfl
  have a14 : W8.cell? ⟨gn, 14, none⟩ = some (.int .i64 (c.qa)) := hA.cell 14 _ rfl
  have a15 : W8.cell? ⟨gn, 15, none⟩ = some (.int .i64 (c.qv)) := hA.cell 15 _ rfl
  have a17 : W8.cell? ⟨gn, 17, none⟩ = some (.int .u64 (c.cl)) := hA.cell 17 _ rfl
  have a18 : W8.cell? ⟨gn, 18, none⟩ = some (.int .i64 (0)) := hA.cell 18 _ rfl
  have v0 : W8.cell? ⟨g9, 0, none⟩ = some (.int .i64 (c.p1)) := hN.cell 0 _ rfl
  have v1 : W8.cell? ⟨g9, 1, none⟩ = some (.int .i64 (c.qc)) := hN.cell 1 _ rfl
  have v2 : W8.cell? ⟨g9, 2, none⟩ = some (.int .i64 (c.qa)) := hN.cell 2 _ rfl
  have v3 : W8.cell? ⟨g9, 3, none⟩ = some (.int .i64 (c.qv)) := hN.cell 3 _ rfl
  have v4 : W8.cell? ⟨g9, 4, none⟩ = some (.int .i64 (c.p2)) := hN.cell 4 _ rfl
  have v5 : W8.cell? ⟨g9, 5, none⟩ = some (.int .u64 (c.cl)) := hN.cell 5 _ rfl
  go_wp2_with fail
  refine (awake14_from HF HS _).mono ?_
  rintro e w9 ⟨rfl, b9⟩
  go_wp2_with fail
  go_ret
  exact ⟨rfl, bnext hb b9⟩
end Go.Proofs.Ytdknecekebmkmaa
