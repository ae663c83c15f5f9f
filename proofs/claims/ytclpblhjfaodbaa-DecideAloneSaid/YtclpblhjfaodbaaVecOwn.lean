/- The program's own Grand, Compare, Own (gen_vecown.py). -/
import Derived.Test.YtclpblhjfaodbaaVecLaws0
import Derived.Test.YtclpblhjfaodbaaIdent
import Derived.Test.YtclpblhjfaodbaaQualb
import Derived.Test.YtclpblhjfaodbaaChain2
import Derived.Test.YtclpblhjfaodbaaHop
namespace Go.Proofs.Ytclpblhjfaodbaa
open Go.RowKit Go.Proofs
set_option maxRecDepth 50000
set_option linter.unusedVariables false
set_option linter.unusedSimpArgs false

/-- The first of four that is not 0. -/
def or4 (a b c d : Int) : Int := if a ≠ 0 then a else if b ≠ 0 then b else if c ≠ 0 then c else d
theorem cmpP_lex (c p c' p' : Int) : cmpP c p c' p' = lexL [c, p] [c', p'] := by
  unfold cmpP cmpI lexL lexL lexL
  by_cases h1 : c < c'
  · simp [h1, show ¬ c = c' by omega]
  · by_cases h2 : c' < c
    · simp [h1, h2, show ¬ c = c' by omega]
    · simp [h1, h2, show c = c' by omega]
theorem lexL_app (a b : Int) (xs ys : List Int) : lexL (a :: xs) (b :: ys) = if cmpI a b ≠ 0 then cmpI a b else lexL xs ys := by
  rw [lexL_cons]
  unfold cmpI
  by_cases h1 : a < b
  · simp [h1]
  · by_cases h2 : b < a
    · simp [h1, h2]
    · simp [h1, h2]
theorem lexL_none : lexL [] [] = 0 := rfl
theorem cmpQ_lex (c a v c' a' v' : Int) : cmpQ c a v c' a' v' = lexL [c, a, v] [c', a', v'] := by
  rw [← orI_three]
  simp only [orI, lexL_app, lexL_none]
  by_cases h1 : cmpI c c' = 0
  · by_cases h2 : cmpI a a' = 0
    · by_cases h3 : cmpI v v' = 0 <;> simp [h1, h2, h3]
    · simp [h1, h2]
  · simp [h1]
theorem grand_or (a b : Vc) : grandV a b = or4 (cmpI a.p1 b.p1) (cmpQ a.qc a.qa a.qv b.qc b.qa b.qv) (cmpI a.p2 b.p2) (cmpI a.gr b.gr) := by
  rw [cmpQ_lex]
  unfold grandV keyG or4
  simp only [lexL_app, lexL_none]
  by_cases h1 : cmpI a.p1 b.p1 = 0
  · by_cases h2 : cmpI a.qc b.qc = 0
    · by_cases h3 : cmpI a.qa b.qa = 0
      · by_cases h4 : cmpI a.qv b.qv = 0
        · by_cases h5 : cmpI a.p2 b.p2 = 0
          · by_cases h6 : cmpI a.gr b.gr = 0 <;> simp [h1, h2, h3, h4, h5, h6]
          · simp [h1, h2, h3, h4, h5]
        · simp [h1, h2, h3, h4]
      · simp [h1, h2, h3]
    · simp [h1, h2]
  · simp [h1]
theorem or4_1 {a b c d : Int} (h : a ≠ 0) : or4 a b c d = a := if_pos h
theorem or4_2 {b c d : Int} (h : b ≠ 0) : or4 0 b c d = b := by unfold or4; simp [h]
theorem or4_3 {c d : Int} (h : c ≠ 0) : or4 0 0 c d = c := by unfold or4; simp [h]
theorem or4_4 {d : Int} : or4 0 0 0 d = d := by unfold or4; simp

theorem op_store4 {op : Oper} {a : Act} {w : World} {K : Act → World → Prop} {Q : Exit → Act → World → Prop} (x y : Operand) (ho : op.op = .store 52 x y)
    (g : Nat) (x1 x2 x3 x4 : Int) (t : TypeId) (hx : a.eval x = .pointer (some ⟨g, 0, none⟩)) (hy : a.eval y = .agg #[.int .i64 x1, .int .i64 x2, .int .i64 x3, .int .i64 x4]) (hB : Box w g [.int .i64 0, .int .i64 0, .int .i64 0, .int .i64 0] t)
    (h : K (a.put op.dst undef) (w.setRow g ([.int .i64 x1, .int .i64 x2, .int .i64 x3, .int .i64 x4] : List Value).toArray)) : op.wp Try.prog a w K Q :=
  wp_store_row _ x y ho g ([.int .i64 x1, .int .i64 x2, .int .i64 x3, .int .i64 x4] : List Value).toArray hx hy t ([.int .i64 0, .int .i64 0, .int .i64 0, .int .i64 0] : List Value).toArray hB (by kernel_rfl) rfl (by simp [Value.oneCell']) h
theorem Box.row4 {w : World} {g : Nat} {xs : List Value} {t : TypeId} (h : Box w g xs t) (x1 x2 x3 x4 : Int) : Box (w.setRow g ([.int .i64 x1, .int .i64 x2, .int .i64 x3, .int .i64 x4] : List Value).toArray) g [.int .i64 x1, .int .i64 x2, .int .i64 x3, .int .i64 x4] t := by
  unfold Box at h ⊢
  rw [setRow_heap w g _ _ t _ h]

theorem box_vec2 (w : World) (a b : Vc) : ∃ W, W = (w.alloc (Obj.cells (vcL a).toArray 28)).alloc (Obj.cells (vcL b).toArray 28) ∧ Below w.heap.size w W ∧ Box W w.heap.size (vcL a) 28 ∧ Box W (w.heap.size + 1) (vcL b) 28 := by
  refine ⟨_, rfl, bnew2 _ _ _, (Box.new w (vcL a) 28).below (bnew _ _), ?_⟩
  have := Box.new (w.alloc (Obj.cells (vcL a).toArray 28)) (vcL b) 28
  rwa [show (w.alloc (Obj.cells (vcL a).toArray 28)).heap.size = w.heap.size + 1 by simp] at this

/-- Grand of any two; Compare of any two whose steps are Go's. -/
def CGrandS : Prop := ∀ (a b : Vc) (w : World),
  Calls Try.prog 13 #[.agg (vcL a).toArray, .agg (vcL b).toArray] w fun e w' => e = .returned (.int .i64 (grandV a b)) ∧ Below w.heap.size w w'

def CCompS : Prop := ∀ (a b : Vc) (w : World), I64 a.st → I64 b.st →
  Calls Try.prog 15 #[.agg (vcL a).toArray, .agg (vcL b).toArray] w fun e w' => e = .returned (.int .i64 (compV a b)) ∧ Below w.heap.size w w'

set_option maxRecDepth 100000 in
set_option maxHeartbeats 8000000 in
theorem ownGrandS : CGrandS := by
  intro a b w
  have HG := hid (grand_or a b)
  go_enter Try.func13, Try.ntmps13
  go_upto_region 1 with fail
  obtain ⟨W, hWe, hbw, hP, hQ⟩ := box_vec2 w a b
  rw [← hWe]
  clear hWe
  have HP := hid hP
  have HQ := hid hQ
  clear hP hQ
  apply share2 (P := fun (g8 : Nat) (w' : World) => Below w.heap.size w w' ∧ Box w' g8 [.int .i64 (cmpI a.p1 b.p1), .int .i64 (cmpQ a.qc a.qa a.qv b.qc b.qa b.qv), .int .i64 (cmpI a.p2 b.p2), .int .i64 (cmpI a.gr b.gr)] 52)
  case h1 =>
    intro tail
    have hbW := Below.drew (Below.refl W.heap.size W)
    have pP := fun wx (h : Below W.drew.heap.size W.drew wx) => HP.out.below (bdrew h)
    have pQ := fun wx (h : Below W.drew.heap.size W.drew wx) => HQ.out.below (bdrew h)
    refine wp_region_held_drew (S := fun w' => Below W.drew.heap.size W.drew w') (by kernel_rfl) (Below.refl _ _) ?_
    intro hHeld
    generalize W.drew = wd at *
    have cP0 := fun wx h => (pP wx h).cell 0 _ rfl
    have cQ0 := fun wx h => (pQ wx h).cell 0 _ rfl
    have cP1 := fun wx h => (pP wx h).cell 1 _ rfl
    have cQ1 := fun wx h => (pQ wx h).cell 1 _ rfl
    have cP2 := fun wx h => (pP wx h).cell 2 _ rfl
    have cQ2 := fun wx h => (pQ wx h).cell 2 _ rfl
    have cP3 := fun wx h => (pP wx h).cell 3 _ rfl
    have cQ3 := fun wx h => (pQ wx h).cell 3 _ rfl
    have cP4 := fun wx h => (pP wx h).cell 4 _ rfl
    have cQ4 := fun wx h => (pQ wx h).cell 4 _ rfl
    have cP5 := fun wx h => (pP wx h).cell 5 _ rfl
    have cQ5 := fun wx h => (pQ wx h).cell 5 _ rfl
    clear pP pQ
    refine rtake 0 rfl (by rfl) (by kernel_rfl) (by kernel_rfl) (by kernel_rfl) (fun _ _ _ h => h) hHeld (fun wx hwx => by go_simp; try with_reducible rfl) ?_
    try simp only [Act.put, List.setIfInBounds_toArray, List.set_cons_zero, List.set_cons_succ]
    refine rtake 1 rfl (by rfl) (by kernel_rfl) (by kernel_rfl) (by kernel_rfl) (fun _ _ _ h => h) hHeld (fun wx hwx => by go_simp; try with_reducible rfl) ?_
    try simp only [Act.put, List.setIfInBounds_toArray, List.set_cons_zero, List.set_cons_succ]
    refine rtake 2 rfl (by rfl) (by kernel_rfl) (by kernel_rfl) (by kernel_rfl) (fun _ _ _ h => h) hHeld (fun wx hwx => by go_simp; try with_reducible rfl) ?_
    try simp only [Act.put, List.setIfInBounds_toArray, List.set_cons_zero, List.set_cons_succ]
    refine rtake 3 rfl (by rfl) (by kernel_rfl) (by kernel_rfl) (by kernel_rfl) (fun _ _ _ h => h) hHeld (fun wx hwx => by go_simp; try with_reducible rfl) ?_
    try simp only [Act.put, List.setIfInBounds_toArray, List.set_cons_zero, List.set_cons_succ]
    refine rtake 5 rfl (by rfl) (by kernel_rfl) (by kernel_rfl) (by kernel_rfl) (fun _ _ _ h => h) hHeld (fun wx hwx => by go_simp; try with_reducible rfl) ?_
    try simp only [Act.put, List.setIfInBounds_toArray, List.set_cons_zero, List.set_cons_succ]
    refine rtake 6 rfl (by rfl) (by kernel_rfl) (by kernel_rfl) (by kernel_rfl) (fun _ _ _ h => h) hHeld (fun wx hwx => by go_simp; try with_reducible rfl) ?_
    try simp only [Act.put, List.setIfInBounds_toArray, List.set_cons_zero, List.set_cons_succ]
    refine rtake 7 rfl (by rfl) (by kernel_rfl) (by kernel_rfl) (by kernel_rfl) (fun _ _ _ h => h) hHeld (fun wx hwx => by go_simp; try with_reducible rfl) ?_
    try simp only [Act.put, List.setIfInBounds_toArray, List.set_cons_zero, List.set_cons_succ]
    refine rtake 8 rfl (by rfl) (by kernel_rfl) (by kernel_rfl) (by kernel_rfl) (fun _ _ _ h => h) hHeld (fun wx hwx => by go_simp; try with_reducible rfl) ?_
    try simp only [Act.put, List.setIfInBounds_toArray, List.set_cons_zero, List.set_cons_succ]
    refine rtake 10 rfl (by rfl) (by kernel_rfl) (by kernel_rfl) (by kernel_rfl) (fun _ _ _ h => h) hHeld (fun wx hwx => by go_simp; try with_reducible rfl) ?_
    try simp only [Act.put, List.setIfInBounds_toArray, List.set_cons_zero, List.set_cons_succ]
    refine rtake 11 rfl (by rfl) (by kernel_rfl) (by kernel_rfl) (by kernel_rfl) (fun _ _ _ h => h) hHeld (fun wx hwx => by go_simp; try with_reducible rfl) ?_
    try simp only [Act.put, List.setIfInBounds_toArray, List.set_cons_zero, List.set_cons_succ]
    refine rtake 12 rfl (by rfl) (by kernel_rfl) (by kernel_rfl) (by kernel_rfl) (fun _ _ _ h => h) hHeld (fun wx hwx => by go_simp; try with_reducible rfl) ?_
    try simp only [Act.put, List.setIfInBounds_toArray, List.set_cons_zero, List.set_cons_succ]
    refine rtake 13 rfl (by rfl) (by kernel_rfl) (by kernel_rfl) (by kernel_rfl) (fun _ _ _ h => h) hHeld (fun wx hwx => by go_simp; try with_reducible rfl) ?_
    try simp only [Act.put, List.setIfInBounds_toArray, List.set_cons_zero, List.set_cons_succ]
    refine rtake 15 rfl (by rfl) (by kernel_rfl) (by kernel_rfl) (by kernel_rfl) (fun _ _ _ h => h) hHeld (fun wx hwx => by go_simp; try with_reducible rfl) ?_
    try simp only [Act.put, List.setIfInBounds_toArray, List.set_cons_zero, List.set_cons_succ]
    refine rtake 16 rfl (by rfl) (by kernel_rfl) (by kernel_rfl) (by kernel_rfl) (fun _ _ _ h => h) hHeld (fun wx hwx => by go_simp; try with_reducible rfl) ?_
    try simp only [Act.put, List.setIfInBounds_toArray, List.set_cons_zero, List.set_cons_succ]
    refine rtake 17 rfl (by rfl) (by kernel_rfl) (by kernel_rfl) (by kernel_rfl) (fun _ _ _ h => h) hHeld (fun wx hwx => by go_simp; try with_reducible rfl) ?_
    try simp only [Act.put, List.setIfInBounds_toArray, List.set_cons_zero, List.set_cons_succ]
    refine rtake 18 rfl (by rfl) (by kernel_rfl) (by kernel_rfl) (by kernel_rfl) (fun _ _ _ h => h) hHeld (fun wx hwx => by go_simp; try with_reducible rfl) ?_
    try simp only [Act.put, List.setIfInBounds_toArray, List.set_cons_zero, List.set_cons_succ]
    clear cP0 cP1 cP2 cP3 cP4 cP5 cQ0 cQ1 cQ2 cQ3 cQ4 cQ5
    refine rtwo 4 21 rfl rfl (by kernel_rfl) (by rfl) (by rfl) (fun K hK => ?_) (fun K hK => ?_)
    · skip
      go_simp
      refine (cmpI_any _ _ _).mono ?_
      rintro e wy ⟨rfl, rfl⟩
      refine hK.out _ _ hHeld ?_
      clear hK K
      try simp only [Act.put, List.setIfInBounds_toArray, List.set_cons_zero, List.set_cons_succ]
      refine rtwo 9 21 rfl rfl (by kernel_rfl) (by rfl) (by rfl) (fun K hK => ?_) (fun K hK => ?_)
      · skip
        go_simp
        refine (compareQ_any _ _ _ _ _ _ _).mono ?_
        rintro e wq ⟨rfl, hbq⟩
        replace hHeld := bnext hHeld hbq
        refine hK.out _ _ hHeld ?_
        clear hK K hbq
        try simp only [Act.put, List.setIfInBounds_toArray, List.set_cons_zero, List.set_cons_succ]
        refine rtwo 14 21 rfl rfl (by kernel_rfl) (by rfl) (by rfl) (fun K hK => ?_) (fun K hK => ?_)
        · skip
          go_simp
          refine (cmpI_any _ _ _).mono ?_
          rintro e wy ⟨rfl, rfl⟩
          refine hK.out _ _ hHeld ?_
          clear hK K
          try simp only [Act.put, List.setIfInBounds_toArray, List.set_cons_zero, List.set_cons_succ]
          refine rtwo 19 21 rfl rfl (by kernel_rfl) (by rfl) (by rfl) (fun K hK => ?_) (fun K hK => ?_)
          · skip
            go_simp
            refine (cmpU_any _ _ _).mono ?_
            rintro e wy ⟨rfl, rfl⟩
            refine hK.out _ _ hHeld ?_
            clear hK K
            try simp only [Act.put, List.setIfInBounds_toArray, List.set_cons_zero, List.set_cons_succ]
            refine rtake 20 rfl (by rfl) (by kernel_rfl) (by kernel_rfl) (by kernel_rfl) (fun _ _ _ h => h) hHeld (fun wx hwx => by go_simp; try with_reducible rfl) ?_
            try simp only [Act.put, List.setIfInBounds_toArray, List.set_cons_zero, List.set_cons_succ]
            refine rcall 21 rfl (by kernel_rfl) (by rfl) (fun K hK => ?_)
            go_simp
            have hA := Box.new wq [.int .i64 0, .int .i64 0, .int .i64 0, .int .i64 0] 52
            have hna := bnew wq (Obj.cells ([.int .i64 0, .int .i64 0, .int .i64 0, .int .i64 0] : List Value).toArray 52)
            have hgs := hHeld.size
            change K _ (wq.alloc (Obj.cells ([.int .i64 0, .int .i64 0, .int .i64 0, .int .i64 0] : List Value).toArray 52))
            replace hHeld := bnext hHeld hna
            refine hK.out _ _ hHeld ?_
            clear hK K hna
            generalize wq.alloc _ = WA at *
            try simp only [Act.put, List.setIfInBounds_toArray, List.set_cons_zero, List.set_cons_succ]
            refine rcall 22 rfl (by kernel_rfl) (by rfl) (fun K hK => ?_)
            refine op_store4 (op := ⟨none, .store _ _ _, _, _, _, _⟩) _ _ rfl wq.heap.size _ _ _ _ _ rfl rfl hA ?_
            replace hA := hA.row4 (cmpI a.p1 b.p1) (cmpQ a.qc a.qa a.qv b.qc b.qa b.qv) (cmpI a.p2 b.p2) (cmpI a.gr b.gr)
            replace hHeld := below_setRow hHeld hgs ([.int .i64 (cmpI a.p1 b.p1), .int .i64 (cmpQ a.qc a.qa a.qv b.qc b.qa b.qv), .int .i64 (cmpI a.p2 b.p2), .int .i64 (cmpI a.gr b.gr)] : List Value).toArray
            refine hK.out _ _ hHeld ?_
            clear hK K
            generalize World.setRow _ _ _ = WS at *
            refine wpAnyH_done (by kernel_rfl) ?_ _
            have hZ := bnext hbw (bnext hbW hHeld)
            clear hHeld hgs
            generalize wq.heap.size = g8 at hA ⊢
            exact tail g8 WS ⟨hZ, hA⟩
          · skip
            go_simp
            have hA := Box.new wq [.int .i64 0, .int .i64 0, .int .i64 0, .int .i64 0] 52
            have hna := bnew wq (Obj.cells ([.int .i64 0, .int .i64 0, .int .i64 0, .int .i64 0] : List Value).toArray 52)
            have hgs := hHeld.size
            change K _ (wq.alloc (Obj.cells ([.int .i64 0, .int .i64 0, .int .i64 0, .int .i64 0] : List Value).toArray 52))
            replace hHeld := bnext hHeld hna
            refine hK.out _ _ hHeld ?_
            clear hK K hna
            generalize wq.alloc _ = WA at *
            try simp only [Act.put, List.setIfInBounds_toArray, List.set_cons_zero, List.set_cons_succ]
            refine rcall 19 rfl (by kernel_rfl) (by rfl) (fun K hK => ?_)
            go_simp
            refine (cmpU_any _ _ _).mono ?_
            rintro e wy ⟨rfl, rfl⟩
            refine hK.out _ _ hHeld ?_
            clear hK K
            try simp only [Act.put, List.setIfInBounds_toArray, List.set_cons_zero, List.set_cons_succ]
            refine rtake 20 rfl (by rfl) (by kernel_rfl) (by kernel_rfl) (by kernel_rfl) (fun _ _ _ h => h) hHeld (fun wx hwx => by go_simp; try with_reducible rfl) ?_
            try simp only [Act.put, List.setIfInBounds_toArray, List.set_cons_zero, List.set_cons_succ]
            refine rcall 22 rfl (by kernel_rfl) (by rfl) (fun K hK => ?_)
            refine op_store4 (op := ⟨none, .store _ _ _, _, _, _, _⟩) _ _ rfl wq.heap.size _ _ _ _ _ rfl rfl hA ?_
            replace hA := hA.row4 (cmpI a.p1 b.p1) (cmpQ a.qc a.qa a.qv b.qc b.qa b.qv) (cmpI a.p2 b.p2) (cmpI a.gr b.gr)
            replace hHeld := below_setRow hHeld hgs ([.int .i64 (cmpI a.p1 b.p1), .int .i64 (cmpQ a.qc a.qa a.qv b.qc b.qa b.qv), .int .i64 (cmpI a.p2 b.p2), .int .i64 (cmpI a.gr b.gr)] : List Value).toArray
            refine hK.out _ _ hHeld ?_
            clear hK K
            generalize World.setRow _ _ _ = WS at *
            refine wpAnyH_done (by kernel_rfl) ?_ _
            have hZ := bnext hbw (bnext hbW hHeld)
            clear hHeld hgs
            generalize wq.heap.size = g8 at hA ⊢
            exact tail g8 WS ⟨hZ, hA⟩
        · skip
          go_simp
          have hA := Box.new wq [.int .i64 0, .int .i64 0, .int .i64 0, .int .i64 0] 52
          have hna := bnew wq (Obj.cells ([.int .i64 0, .int .i64 0, .int .i64 0, .int .i64 0] : List Value).toArray 52)
          have hgs := hHeld.size
          change K _ (wq.alloc (Obj.cells ([.int .i64 0, .int .i64 0, .int .i64 0, .int .i64 0] : List Value).toArray 52))
          replace hHeld := bnext hHeld hna
          refine hK.out _ _ hHeld ?_
          clear hK K hna
          generalize wq.alloc _ = WA at *
          try simp only [Act.put, List.setIfInBounds_toArray, List.set_cons_zero, List.set_cons_succ]
          refine rcall 14 rfl (by kernel_rfl) (by rfl) (fun K hK => ?_)
          go_simp
          refine (cmpI_any _ _ _).mono ?_
          rintro e wy ⟨rfl, rfl⟩
          refine hK.out _ _ hHeld ?_
          clear hK K
          try simp only [Act.put, List.setIfInBounds_toArray, List.set_cons_zero, List.set_cons_succ]
          refine rcall 19 rfl (by kernel_rfl) (by rfl) (fun K hK => ?_)
          go_simp
          refine (cmpU_any _ _ _).mono ?_
          rintro e wy ⟨rfl, rfl⟩
          refine hK.out _ _ hHeld ?_
          clear hK K
          try simp only [Act.put, List.setIfInBounds_toArray, List.set_cons_zero, List.set_cons_succ]
          refine rtake 20 rfl (by rfl) (by kernel_rfl) (by kernel_rfl) (by kernel_rfl) (fun _ _ _ h => h) hHeld (fun wx hwx => by go_simp; try with_reducible rfl) ?_
          try simp only [Act.put, List.setIfInBounds_toArray, List.set_cons_zero, List.set_cons_succ]
          refine rcall 22 rfl (by kernel_rfl) (by rfl) (fun K hK => ?_)
          refine op_store4 (op := ⟨none, .store _ _ _, _, _, _, _⟩) _ _ rfl wq.heap.size _ _ _ _ _ rfl rfl hA ?_
          replace hA := hA.row4 (cmpI a.p1 b.p1) (cmpQ a.qc a.qa a.qv b.qc b.qa b.qv) (cmpI a.p2 b.p2) (cmpI a.gr b.gr)
          replace hHeld := below_setRow hHeld hgs ([.int .i64 (cmpI a.p1 b.p1), .int .i64 (cmpQ a.qc a.qa a.qv b.qc b.qa b.qv), .int .i64 (cmpI a.p2 b.p2), .int .i64 (cmpI a.gr b.gr)] : List Value).toArray
          refine hK.out _ _ hHeld ?_
          clear hK K
          generalize World.setRow _ _ _ = WS at *
          refine wpAnyH_done (by kernel_rfl) ?_ _
          have hZ := bnext hbw (bnext hbW hHeld)
          clear hHeld hgs
          generalize wq.heap.size = g8 at hA ⊢
          exact tail g8 WS ⟨hZ, hA⟩
      · skip
        go_simp
        have hA := Box.new wd [.int .i64 0, .int .i64 0, .int .i64 0, .int .i64 0] 52
        have hna := bnew wd (Obj.cells ([.int .i64 0, .int .i64 0, .int .i64 0, .int .i64 0] : List Value).toArray 52)
        have hgs := hHeld.size
        change K _ (wd.alloc (Obj.cells ([.int .i64 0, .int .i64 0, .int .i64 0, .int .i64 0] : List Value).toArray 52))
        replace hHeld := bnext hHeld hna
        refine hK.out _ _ hHeld ?_
        clear hK K hna
        generalize wd.alloc _ = WA at *
        try simp only [Act.put, List.setIfInBounds_toArray, List.set_cons_zero, List.set_cons_succ]
        refine rcall 9 rfl (by kernel_rfl) (by rfl) (fun K hK => ?_)
        go_simp
        refine (compareQ_any _ _ _ _ _ _ _).mono ?_
        rintro e wq ⟨rfl, hbq⟩
        replace hHeld := bnext hHeld hbq
        replace hA := hA.below hbq
        refine hK.out _ _ hHeld ?_
        clear hK K hbq
        try simp only [Act.put, List.setIfInBounds_toArray, List.set_cons_zero, List.set_cons_succ]
        refine rcall 14 rfl (by kernel_rfl) (by rfl) (fun K hK => ?_)
        go_simp
        refine (cmpI_any _ _ _).mono ?_
        rintro e wy ⟨rfl, rfl⟩
        refine hK.out _ _ hHeld ?_
        clear hK K
        try simp only [Act.put, List.setIfInBounds_toArray, List.set_cons_zero, List.set_cons_succ]
        refine rcall 19 rfl (by kernel_rfl) (by rfl) (fun K hK => ?_)
        go_simp
        refine (cmpU_any _ _ _).mono ?_
        rintro e wy ⟨rfl, rfl⟩
        refine hK.out _ _ hHeld ?_
        clear hK K
        try simp only [Act.put, List.setIfInBounds_toArray, List.set_cons_zero, List.set_cons_succ]
        refine rtake 20 rfl (by rfl) (by kernel_rfl) (by kernel_rfl) (by kernel_rfl) (fun _ _ _ h => h) hHeld (fun wx hwx => by go_simp; try with_reducible rfl) ?_
        try simp only [Act.put, List.setIfInBounds_toArray, List.set_cons_zero, List.set_cons_succ]
        refine rcall 22 rfl (by kernel_rfl) (by rfl) (fun K hK => ?_)
        refine op_store4 (op := ⟨none, .store _ _ _, _, _, _, _⟩) _ _ rfl wd.heap.size _ _ _ _ _ rfl rfl hA ?_
        replace hA := hA.row4 (cmpI a.p1 b.p1) (cmpQ a.qc a.qa a.qv b.qc b.qa b.qv) (cmpI a.p2 b.p2) (cmpI a.gr b.gr)
        replace hHeld := below_setRow hHeld hgs ([.int .i64 (cmpI a.p1 b.p1), .int .i64 (cmpQ a.qc a.qa a.qv b.qc b.qa b.qv), .int .i64 (cmpI a.p2 b.p2), .int .i64 (cmpI a.gr b.gr)] : List Value).toArray
        refine hK.out _ _ hHeld ?_
        clear hK K
        generalize World.setRow _ _ _ = WS at *
        refine wpAnyH_done (by kernel_rfl) ?_ _
        have hZ := bnext hbw (bnext hbW hHeld)
        clear hHeld hgs
        generalize wd.heap.size = g8 at hA ⊢
        exact tail g8 WS ⟨hZ, hA⟩
    · skip
      go_simp
      have hA := Box.new wd [.int .i64 0, .int .i64 0, .int .i64 0, .int .i64 0] 52
      have hna := bnew wd (Obj.cells ([.int .i64 0, .int .i64 0, .int .i64 0, .int .i64 0] : List Value).toArray 52)
      have hgs := hHeld.size
      change K _ (wd.alloc (Obj.cells ([.int .i64 0, .int .i64 0, .int .i64 0, .int .i64 0] : List Value).toArray 52))
      replace hHeld := bnext hHeld hna
      refine hK.out _ _ hHeld ?_
      clear hK K hna
      generalize wd.alloc _ = WA at *
      try simp only [Act.put, List.setIfInBounds_toArray, List.set_cons_zero, List.set_cons_succ]
      refine rcall 4 rfl (by kernel_rfl) (by rfl) (fun K hK => ?_)
      go_simp
      refine (cmpI_any _ _ _).mono ?_
      rintro e wy ⟨rfl, rfl⟩
      refine hK.out _ _ hHeld ?_
      clear hK K
      try simp only [Act.put, List.setIfInBounds_toArray, List.set_cons_zero, List.set_cons_succ]
      refine rcall 9 rfl (by kernel_rfl) (by rfl) (fun K hK => ?_)
      go_simp
      refine (compareQ_any _ _ _ _ _ _ _).mono ?_
      rintro e wq ⟨rfl, hbq⟩
      replace hHeld := bnext hHeld hbq
      replace hA := hA.below hbq
      refine hK.out _ _ hHeld ?_
      clear hK K hbq
      try simp only [Act.put, List.setIfInBounds_toArray, List.set_cons_zero, List.set_cons_succ]
      refine rcall 14 rfl (by kernel_rfl) (by rfl) (fun K hK => ?_)
      go_simp
      refine (cmpI_any _ _ _).mono ?_
      rintro e wy ⟨rfl, rfl⟩
      refine hK.out _ _ hHeld ?_
      clear hK K
      try simp only [Act.put, List.setIfInBounds_toArray, List.set_cons_zero, List.set_cons_succ]
      refine rcall 19 rfl (by kernel_rfl) (by rfl) (fun K hK => ?_)
      go_simp
      refine (cmpU_any _ _ _).mono ?_
      rintro e wy ⟨rfl, rfl⟩
      refine hK.out _ _ hHeld ?_
      clear hK K
      try simp only [Act.put, List.setIfInBounds_toArray, List.set_cons_zero, List.set_cons_succ]
      refine rtake 20 rfl (by rfl) (by kernel_rfl) (by kernel_rfl) (by kernel_rfl) (fun _ _ _ h => h) hHeld (fun wx hwx => by go_simp; try with_reducible rfl) ?_
      try simp only [Act.put, List.setIfInBounds_toArray, List.set_cons_zero, List.set_cons_succ]
      refine rcall 22 rfl (by kernel_rfl) (by rfl) (fun K hK => ?_)
      refine op_store4 (op := ⟨none, .store _ _ _, _, _, _, _⟩) _ _ rfl wd.heap.size _ _ _ _ _ rfl rfl hA ?_
      replace hA := hA.row4 (cmpI a.p1 b.p1) (cmpQ a.qc a.qa a.qv b.qc b.qa b.qv) (cmpI a.p2 b.p2) (cmpI a.gr b.gr)
      replace hHeld := below_setRow hHeld hgs ([.int .i64 (cmpI a.p1 b.p1), .int .i64 (cmpQ a.qc a.qa a.qv b.qc b.qa b.qv), .int .i64 (cmpI a.p2 b.p2), .int .i64 (cmpI a.gr b.gr)] : List Value).toArray
      refine hK.out _ _ hHeld ?_
      clear hK K
      generalize World.setRow _ _ _ = WS at *
      refine wpAnyH_done (by kernel_rfl) ?_ _
      have hZ := bnext hbw (bnext hbW hHeld)
      clear hHeld hgs
      generalize wd.heap.size = g8 at hA ⊢
      exact tail g8 WS ⟨hZ, hA⟩
  rintro g8 W5 ⟨hbel, hA⟩
  generalize cmpI a.p1 b.p1 = x1 at *
  generalize cmpQ a.qc a.qa a.qv b.qc b.qa b.qv = x2 at *
  generalize cmpI a.p2 b.p2 = x3 at *
  generalize cmpI a.gr b.gr = x4 at *
  have c0 := hA.cell 0 _ rfl
  have c1 := hA.cell 1 _ rfl
  have c2 := hA.cell 2 _ rfl
  have c3 := hA.cell 3 _ rfl
  clear hA
  have i0 : ∀ w : World, (Instr.index 52 (.agg #[.int .i64 x1, .int .i64 x2, .int .i64 x3, .int .i64 x4]) (.int .i64 0)).run Try.prog w = .ok (.int .i64 x1) w := fun _ => by kernel_rfl
  have i1 : ∀ w : World, (Instr.index 52 (.agg #[.int .i64 x1, .int .i64 x2, .int .i64 x3, .int .i64 x4]) (.int .i64 1)).run Try.prog w = .ok (.int .i64 x2) w := fun _ => by kernel_rfl
  have i2 : ∀ w : World, (Instr.index 52 (.agg #[.int .i64 x1, .int .i64 x2, .int .i64 x3, .int .i64 x4]) (.int .i64 2)).run Try.prog w = .ok (.int .i64 x3) w := fun _ => by kernel_rfl
  have i3 : ∀ w : World, (Instr.index 52 (.agg #[.int .i64 x1, .int .i64 x2, .int .i64 x3, .int .i64 x4]) (.int .i64 3)).run Try.prog w = .ok (.int .i64 x4) w := fun _ => by kernel_rfl
  go_wp2_with fail
  refine wp_loop_rounds 5 ?_
  by_cases h1 : x1 = 0
  · subst h1
    rw [rounds_succ]
    go_wp2_with fail
    by_cases h2 : x2 = 0
    · subst h2
      rw [rounds_succ]
      go_wp2_with fail
      by_cases h3 : x3 = 0
      · subst h3
        rw [rounds_succ]
        go_wp2_with fail
        by_cases h4 : x4 = 0
        · subst h4
          rw [rounds_succ]
          go_wp2_with fail
          rw [rounds_succ]
          go_wp2_with fail
          go_ret
          exact ⟨ret_int (by rw [HG.out]; exact or4_4.symm), hbel⟩
        · rw [rounds_succ]
          go_wp2_with fail
          go_ret
          exact ⟨ret_int (by rw [HG.out]; exact (or4_4).symm), hbel⟩
      · rw [rounds_succ]
        go_wp2_with fail
        go_ret
        exact ⟨ret_int (by rw [HG.out]; exact (or4_3 h3).symm), hbel⟩
    · rw [rounds_succ]
      go_wp2_with fail
      go_ret
      exact ⟨ret_int (by rw [HG.out]; exact (or4_2 h2).symm), hbel⟩
  · rw [rounds_succ]
    go_wp2_with fail
    go_ret
    exact ⟨ret_int (by rw [HG.out]; exact (or4_1 h1).symm), hbel⟩

set_option maxRecDepth 100000 in
set_option maxHeartbeats 8000000 in
theorem farther_any (a : Vc) (n : Int) (w : World) (ha : I64 a.st) (hn : n < a.st) (hn0 : I64 n) :
    Calls Try.prog 21 #[.agg (vcL a).toArray, .int .i64 n] w fun e w' => e = .returned (.int .i64 (if n + 1 < a.st then 2 else longV a)) ∧ Below w.heap.size w w' := by
  have hw : IntKind.i64.wrap (n + 1) = n + 1 := by unfold I64 at *; rw [IntKind.wrap_i64]; omega
  have HL := hid (show longV a = if cmpP a.rc a.rp a.sc a.sp = -1 then 2 else if cmpP a.rc a.rp a.sc a.sp = 1 then 1 else 0 by unfold longV portC; rw [cmpP_lex])
  have hr : cmpP a.rc a.rp a.sc a.sp = -1 ∨ cmpP a.rc a.rp a.sc a.sp = 0 ∨ cmpP a.rc a.rp a.sc a.sp = 1 := by rw [cmpP_lex]; exact lexL_range _ _
  have hB := Box.new w (vcL a) 28
  have hb := bnew w (Obj.cells (vcL a).toArray 28)
  by_cases h : n + 1 < a.st
  · rw [if_pos h]
    go_enter Try.func21, Try.ntmps21
    go_upto_region 1 with fail
    change Code.wp Try.prog _ _ _ (w.alloc (Obj.cells (vcL a).toArray 28))
    generalize w.alloc (Obj.cells (vcL a).toArray 28) = W at *
    generalize hG : w.heap.size = G at *
    have c4 := hB.cell 6 _ rfl
    clear HL hr hn hn0 ha
    go_wp2_with fail
    go_ret
    exact ⟨rfl, hG ▸ hb⟩
  · rw [if_neg h]
    go_enter Try.func21, Try.ntmps21
    go_upto_region 1 with fail
    change Code.wp Try.prog _ _ _ (w.alloc (Obj.cells (vcL a).toArray 28))
    generalize w.alloc (Obj.cells (vcL a).toArray 28) = W at *
    have c6 := hB.cell 6 _ rfl
    clear hn hn0 ha
    go_upto_region 4 with fail
    have hn1 := bnew W (Obj.cells ([.int .i64 2, .int .i64 0, .int .i64 1] : List Value).toArray 60)
    have hN := Box.new W [.int .i64 2, .int .i64 0, .int .i64 1] 60
    replace hB := hB.below hn1
    replace hb := bnext hb hn1
    change Code.wp Try.prog _ _ _ (W.alloc (Obj.cells ([.int .i64 2, .int .i64 0, .int .i64 1] : List Value).toArray 60))
    generalize W.alloc (Obj.cells ([.int .i64 2, .int .i64 0, .int .i64 1] : List Value).toArray 60) = W2 at *
    generalize W.heap.size = g9 at *
    clear c6 hn1 h hw
    have c7 := hB.cell 7 _ rfl
    have c8 := hB.cell 8 _ rfl
    have c9 := hB.cell 9 _ rfl
    have c10 := hB.cell 10 _ rfl
    go_wp2_with fail
    refine (compare_any _ _ _ _ _).mono ?_
    rintro e w3 ⟨rfl, b3⟩
    replace hN := hN.below b3
    replace hb := bnext hb b3
    clear b3 c7 c8 c9 c10 hB
    have c0 := hN.cell 0 _ rfl
    have c1 := hN.cell 1 _ rfl
    have c2 := hN.cell 2 _ rfl
    generalize cmpP a.rc a.rp a.sc a.sp = C at *
    rcases hr with rfl | rfl | rfl
    all_goals
      (go_wp2_with fail
       go_ret
       exact ⟨ret_int (by rw [HL.out]; rfl), hb⟩)

theorem comp_far {a b : Vc} (h0 : grandV a b = 0) (h : b.st < a.st) : compV a b = if b.st + 1 < a.st then 2 else longV a := by
  unfold compV
  rw [if_neg (by omega)]
  by_cases h1 : b.st + 1 < a.st
  · rw [if_pos h1, if_pos h1]
  · rw [if_neg h1, if_neg h1, if_neg (by omega), if_pos h]
theorem comp_near {a b : Vc} (h0 : grandV a b = 0) (h : a.st < b.st) : compV a b = - (if a.st + 1 < b.st then 2 else longV b) := by
  unfold compV
  rw [if_neg (by omega)]
  by_cases h1 : a.st + 1 < b.st
  · rw [if_neg (by omega), if_pos h1, if_pos h1]
  · rw [if_neg (by omega), if_neg h1, if_neg (by omega), if_pos h, if_neg h1]
theorem comp_level {a b : Vc} (h0 : grandV a b = 0) (h : a.st = b.st) : compV a b = if cmpP a.sc a.sp b.sc b.sp ≠ 0 then cmpP a.sc a.sp b.sc b.sp else cmpI a.rp b.rp := by
  unfold compV
  rw [if_neg (by omega), if_neg (by omega), if_neg (by omega), if_neg (by omega), if_neg (by omega), cmpP_lex]
  simp only [lexL_app, lexL_none]
  by_cases h1 : cmpI a.sc b.sc = 0
  · by_cases h2 : cmpI a.sp b.sp = 0
    · by_cases h3 : cmpI a.rp b.rp = 0 <;> simp [h1, h2, h3]
    · simp [h1, h2]
  · simp [h1]
theorem cmpI_range (a b : Int) : cmpI a b = -1 ∨ cmpI a b = 0 ∨ cmpI a b = 1 := by
  unfold cmpI
  split
  · left; rfl
  · split
    · right; right; rfl
    · right; left; rfl

theorem ownGrand : CGrand := fun a b w _ _ => ownGrandS a b w

set_option maxRecDepth 100000 in
set_option maxHeartbeats 8000000 in
theorem ownCompS : CCompS := by
  intro a b w ha hb
  have HR := hid (ownGrandS a b)
  have hr := grand_range a b
  go_enter Try.func15, Try.ntmps15
  go_upto_region 1 with fail
  obtain ⟨W, hWe, hbw, hP, hQ⟩ := box_vec2 w a b
  rw [← hWe]
  clear hWe
  generalize hg1 : w.heap.size = g1 at *
  generalize g1 + 1 = g2 at *
  refine wp_scope_hop ?_
  intro Q' hret hgo
  go_wp2_with (first | (guard_target =~ wpList _ _ _ (⟨some 6, .load _ _, _, _, _, _⟩ :: _) _ _; refine wpList_load_vec (op := ⟨some 6, .load _ _, _, _, _, _⟩) (by rfl) _ (by rfl) g1 (by rfl) a _ hP ?_) | (guard_target =~ wpList _ _ _ (⟨some 7, .load _ _, _, _, _, _⟩ :: _) _ _; refine wpList_load_vec (op := ⟨some 7, .load _ _, _, _, _, _⟩) (by rfl) _ (by rfl) g2 (by rfl) b _ hQ ?_))
  refine (HR.out W).mono ?_
  rintro e w1 ⟨rfl, b1⟩
  rw [← hg1] at hbw
  replace hbw := bnext hbw b1
  replace hP := hP.below b1
  replace hQ := hQ.below b1
  rcases hr with hg | hg | hg
  · have hc := comp_grand (a := a) (b := b) (by omega)
    rw [hg] at hc ⊢
    clear HR
    have HC := hid hc
    clear hc hg b1 hP hQ
    go_wp2_with fail
    go_step3
    refine hgo 0 _ _ _ rfl ?_
    go_wp2_with fail
    rw [Exit.noGoto_ret]
    go_ret
    exact ⟨ret_int HC.out.symm, hbw⟩
  · have HS := hid hg
    rw [hg]
    clear HR hg b1
    by_cases hlt : b.st < a.st
    · have HC := hid (comp_far HS.out hlt)
      have HF := hid (farther_any a b.st)
      have hst : I64 a.st := ha
      have hst2 : I64 b.st := hb
      have HI := hid (And.intro hst hst2)
      clear hst hst2 ha hb
      have cP6 := hP.cell 6 _ rfl
      have cQ6 := hQ.cell 6 _ rfl
      go_wp2_with (guard_target =~ wpList _ _ _ (⟨some 17, .load _ _, _, _, _, _⟩ :: _) _ _; refine wpList_load_vec (op := ⟨some 17, .load _ _, _, _, _, _⟩) (by rfl) _ (by rfl) g1 (by rfl) a _ hP ?_)
      refine (HF.out _ HI.out.1 hlt HI.out.2).mono ?_
      rintro e w2 ⟨rfl, b2⟩
      rw [← HC.out]
      replace hbw := bnext hbw b2
      clear HF b2 cP6 cQ6 hP hQ
      go_wp2_with fail
      go_step3
      refine hgo 0 _ _ _ rfl ?_
      go_wp2_with fail
      rw [Exit.noGoto_ret]
      go_ret
      exact ⟨rfl, hbw⟩
    · by_cases hgt : a.st < b.st
      · have HC := hid (comp_near HS.out hgt)
        have HF := hid (farther_any b a.st)
        have HI := hid (And.intro ha hb)
        have HN := hid (comp_range a b)
        have cP6 := hP.cell 6 _ rfl
        have cQ6 := hQ.cell 6 _ rfl
        clear ha hb
        go_wp2_with (guard_target =~ wpList _ _ _ (⟨some 26, .load _ _, _, _, _, _⟩ :: _) _ _; refine wpList_load_vec (op := ⟨some 26, .load _ _, _, _, _, _⟩) (by rfl) _ (by rfl) g2 (by rfl) b _ hQ ?_)
        refine (HF.out _ HI.out.2 hgt HI.out.1).mono ?_
        rintro e w2 ⟨rfl, b2⟩
        replace hbw := bnext hbw b2
        have hn := HN.out
        have hc := HC.out
        clear HF b2 cP6 cQ6 hP hQ
        generalize (if a.st + 1 < b.st then (2 : Int) else longV b) = F at *
        have hwr : IntKind.i64.wrap (-F) = -F := by rw [IntKind.wrap_i64]; omega
        clear hn
        have HC := hid hc
        clear hc
        go_wp2_with fail
        go_step3
        refine hgo 0 _ _ _ rfl ?_
        go_wp2_with fail
        rw [Exit.noGoto_ret]
        go_ret
        exact ⟨ret_int HC.out.symm, hbw⟩
      · have heq : a.st = b.st := by omega
        have HC := hid (comp_level HS.out heq)
        have cP6 := hP.cell 6 _ rfl
        have cQ6 := hQ.cell 6 _ rfl
        rw [heq] at cP6
        have hnn : ¬ b.st < b.st := by omega
        clear hlt hgt heq ha hb HS
        have cP7 := hP.cell 7 _ rfl
        have cQ7 := hQ.cell 7 _ rfl
        have cP8 := hP.cell 8 _ rfl
        have cQ8 := hQ.cell 8 _ rfl
        have hri : cmpP a.sc a.sp b.sc b.sp = -1 ∨ cmpP a.sc a.sp b.sc b.sp = 0 ∨ cmpP a.sc a.sp b.sc b.sp = 1 := by rw [cmpP_lex]; exact lexL_range _ _
        have hrj := cmpI_range a.rp b.rp
        go_wp2_with fail
        refine (compare_any _ _ _ _ _).mono ?_
        rintro e w2 ⟨rfl, b2⟩
        replace hbw := bnext hbw b2
        replace hP := hP.below b2
        replace hQ := hQ.below b2
        clear cP6 cQ6 cP7 cP8 cQ7 cQ8 b2
        have cP10 := hP.cell 10 _ rfl
        have cQ10 := hQ.cell 10 _ rfl
        have hc := HC.out
        clear HC
        generalize cmpP a.sc a.sp b.sc b.sp = C at *
        rcases hri with rfl | rfl | rfl
        · have HC := hid hc
          clear hc
          go_wp2_with fail
          go_step3
          refine hgo 0 _ _ _ rfl ?_
          go_wp2_with fail
          rw [Exit.noGoto_ret]
          go_ret
          exact ⟨ret_int (by rw [HC.out]; rfl), hbw⟩
        · have HC := hid hc
          clear hc
          go_wp2_with fail
          refine (cmpI_any _ _ _).mono ?_
          rintro e w3 ⟨rfl, rfl⟩
          have hc := HC.out
          clear HC
          generalize cmpI a.rp b.rp = D at *
          have HC := hid hc
          clear hc
          rcases hrj with rfl | rfl | rfl
          all_goals
            (go_wp2_with fail
             refine wp_label ?_
             go_wp2_with fail
             refine hret _ _ ?_
             go_ret
             exact ⟨ret_int (by rw [HC.out]; rfl), hbw⟩)
        · have HC := hid hc
          clear hc
          go_wp2_with fail
          go_step3
          refine hgo 0 _ _ _ rfl ?_
          go_wp2_with fail
          rw [Exit.noGoto_ret]
          go_ret
          exact ⟨ret_int (by rw [HC.out]; rfl), hbw⟩
  · have hc := comp_grand (a := a) (b := b) (by omega)
    rw [hg] at hc ⊢
    clear HR
    have HC := hid hc
    clear hc hg b1 hP hQ
    go_wp2_with fail
    go_step3
    refine hgo 0 _ _ _ rfl ?_
    go_wp2_with fail
    rw [Exit.noGoto_ret]
    go_ret
    exact ⟨ret_int HC.out.symm, hbw⟩

theorem ownComp : CComp := fun a b w ha hb => ownCompS a b w ha.2.2.2.2.2.2.1 hb.2.2.2.2.2.2.1

end Go.Proofs.Ytclpblhjfaodbaa
