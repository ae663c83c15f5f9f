/-
  No cell of these rows narrows 'for every input' (looked for: loops, veiled, ifaces, maps, wideKeys, modest, calm, conditions, laid).
  DERIVED. THE GIVEN ROWS OF THIS SEAT. 4 by the template 'for every input the law returns true; each argument reads behind the call as it read before'; 0 by the template 'total and deterministic' (their statements: YtofhdhgfcomhiaaGreatTotals.lean).
  GIVEN WITH THE SEED: the statements are not yours to turn. If you find one false, say at which input.
  Laid BY PROGRAM, IN A SANDBOX (cutbox-rows.mjs): the forced cells as the released guide's own fill.sh prints them over the translation 58b7f3f698036f43… (all of the seat's roots in one cut). By AI agents, Wed Nov 11 2026. No macro, syntax, notation, axiom, sorry.
-/
import Derived.Test.YtofhdhgfcomhiaaGreatChecked
import GoSem.Claim
import GoSem.ClaimJoined
import GoSem.ClaimMapViews
import Derived.JoinedTies
import Derived.KernelRfl
namespace Go.Proofs.YtofhdhgfcomhiaaGreat
/- THE CELL 'sum', in the pinned program and in every row, IS THE sha256 OF THE DUMP (.gsa) THAT YtofhdhgfcomhiaaGreatProg.lean LOADS. Nothing in Lean hashes anything: it is a label: what it is worth is what the hold of that sum in a sandbox is worth. -/
noncomputable def Tryz.pinned : Pinned := { name := "ytofhdhgfcomhiaagreat", sum := "58b7f3f698036f432fc3646dd1e388e0edb64886c98af32d5678f77ee60b38b9", checked := Tryz.checked }
namespace Rows
def none {H : Type} : Left H := { results := [], args := [] }

/-- 'carillonlaw23.ClockConfs': WHATEVER THE INPUT: true; the input reads as it did. -/
def clockConfsSpec : ChangeSpec := { name := "clockConfs", fn := fun _ => fun
  | [d] => { results := [.lit (.bool true)], args := [d] }
  | _ => none }
def clockConfsRow : OpenClaim := { program := "ytofhdhgfcomhiaagreat", sum := "58b7f3f698036f432fc3646dd1e388e0edb64886c98af32d5678f77ee60b38b9", func := "carillon/carillonlaw23.ClockConfs", spec := "clockConfs", inPlace := ["math.Float64bits"], unfollowed := true, recurses := true, apart := false }
def ClockConfsSaid : Prop := clockConfsRow.holds Tryz.pinned (OpenSpec.ofChange clockConfsSpec)

/-- ITS FALSE NEIGHBOUR: 'it returns false'. Refute it at one input. -/
def clockConfsWrong : ChangeSpec := { name := "clockConfs", fn := fun _ => fun
  | [d] => { results := [.lit (.bool false)], args := [d] }
  | _ => none }
def ClockConfsWrongFalsely : Prop := clockConfsRow.holds Tryz.pinned (OpenSpec.ofChange clockConfsWrong)

/-- 'carillonlaw23.ClockRestarts': WHATEVER THE INPUT: true; the input reads as it did. -/
def clockRestartsSpec : ChangeSpec := { name := "clockRestarts", fn := fun _ => fun
  | [d1, d2, d3, d4] => { results := [.lit (.bool true)], args := [d1, d2, d3, d4] }
  | _ => none }
def clockRestartsRow : OpenClaim := { program := "ytofhdhgfcomhiaagreat", sum := "58b7f3f698036f432fc3646dd1e388e0edb64886c98af32d5678f77ee60b38b9", func := "carillon/carillonlaw23.ClockRestarts", spec := "clockRestarts", inPlace := ["math.Float64bits"], unfollowed := true, recurses := true, apart := false }
def ClockRestartsSaid : Prop := clockRestartsRow.holds Tryz.pinned (OpenSpec.ofChange clockRestartsSpec)

/-- ITS FALSE NEIGHBOUR: 'it returns false'. Refute it at one input. -/
def clockRestartsWrong : ChangeSpec := { name := "clockRestarts", fn := fun _ => fun
  | [d1, d2, d3, d4] => { results := [.lit (.bool false)], args := [d1, d2, d3, d4] }
  | _ => none }
def ClockRestartsWrongFalsely : Prop := clockRestartsRow.holds Tryz.pinned (OpenSpec.ofChange clockRestartsWrong)

/-- 'carillonlaw23.ClockSpoilt': WHATEVER THE INPUT: true; the input reads as it did. -/
def clockSpoiltSpec : ChangeSpec := { name := "clockSpoilt", fn := fun _ => fun
  | [d1, d2, d3, d4, d5, d6] => { results := [.lit (.bool true)], args := [d1, d2, d3, d4, d5, d6] }
  | _ => none }
def clockSpoiltRow : OpenClaim := { program := "ytofhdhgfcomhiaagreat", sum := "58b7f3f698036f432fc3646dd1e388e0edb64886c98af32d5678f77ee60b38b9", func := "carillon/carillonlaw23.ClockSpoilt", spec := "clockSpoilt", inPlace := ["math.Float64bits"], unfollowed := true, recurses := true, apart := false }
def ClockSpoiltSaid : Prop := clockSpoiltRow.holds Tryz.pinned (OpenSpec.ofChange clockSpoiltSpec)

/-- ITS FALSE NEIGHBOUR: 'it returns false'. Refute it at one input. -/
def clockSpoiltWrong : ChangeSpec := { name := "clockSpoilt", fn := fun _ => fun
  | [d1, d2, d3, d4, d5, d6] => { results := [.lit (.bool false)], args := [d1, d2, d3, d4, d5, d6] }
  | _ => none }
def ClockSpoiltWrongFalsely : Prop := clockSpoiltRow.holds Tryz.pinned (OpenSpec.ofChange clockSpoiltWrong)

/-- 'carillonlaw23.ClockOuts': WHATEVER THE INPUT: true; the input reads as it did. -/
def clockOutsSpec : ChangeSpec := { name := "clockOuts", fn := fun _ => fun
  | [d1, d2, d3] => { results := [.lit (.bool true)], args := [d1, d2, d3] }
  | _ => none }
def clockOutsRow : OpenClaim := { program := "ytofhdhgfcomhiaagreat", sum := "58b7f3f698036f432fc3646dd1e388e0edb64886c98af32d5678f77ee60b38b9", func := "carillon/carillonlaw23.ClockOuts", spec := "clockOuts", inPlace := ["math.Float64bits"], unfollowed := true, recurses := true, apart := false }
def ClockOutsSaid : Prop := clockOutsRow.holds Tryz.pinned (OpenSpec.ofChange clockOutsSpec)

/-- ITS FALSE NEIGHBOUR: 'it returns false'. Refute it at one input. -/
def clockOutsWrong : ChangeSpec := { name := "clockOuts", fn := fun _ => fun
  | [d1, d2, d3] => { results := [.lit (.bool false)], args := [d1, d2, d3] }
  | _ => none }
def ClockOutsWrongFalsely : Prop := clockOutsRow.holds Tryz.pinned (OpenSpec.ofChange clockOutsWrong)

/- THE SECOND FORM. 'bulk': how many values and letters a reading holds, each counted each time it is reached (what is shared counts as often as it is met; a slice's spare places count too). A statement '..UptoSaid' is the law's where the arguments, and the package variables that the reading takes, are together of bulk at most 1048576: NARROWER than '..Said'. Prove '..Said' where nothing that the law and all that it calls make is longer than what came in: it says more and counts as full. Else prove '..UptoSaid'. A law counts once. -/
mutual
def uptoBulk {H : Type} : DataW H → Nat
  | .lit (.string bytes) => bytes.length + 1
  | .lit _ => 1
  | .nil => 1
  | .ptr d => uptoBulk d + 1
  | .slice elems spare => uptoBulkAll elems + uptoBulkAll spare + 1
  | .agg parts => uptoBulkAll parts + 1
  | .iface _ d => uptoBulk d + 1
  | .map entries => uptoBulkEntries entries + 1
  | .held _ => 1
def uptoBulkAll {H : Type} : List (DataW H) → Nat
  | [] => 0
  | d :: r => uptoBulk d + uptoBulkAll r
def uptoBulkEntries {H : Type} : List (Lit × DataW H) → Nat
  | [] => 0
  | x :: r => uptoBulkEntry x + uptoBulkEntries r
def uptoBulkEntry {H : Type} : Lit × DataW H → Nat
  | (.string bytes, d) => bytes.length + uptoBulk d + 1
  | (_, d) => uptoBulk d + 1
 end
def uptoSmall : (H : Type) → List (DataW H) → Bool := fun _ ds => decide (uptoBulkAll ds ≤ 1048576)
def OpenSpec.upto (s : _root_.Go.ChangeSpec) : _root_.Go.OpenSpec := { _root_.Go.OpenSpec.ofChange s with cond := some uptoSmall }

/-- 'carillonlaw23.ClockConfs', WHERE WHAT IT READS IS OF BULK AT MOST 1048576: true; the input reads as it did. -/
def clockConfsUptoRow : OpenClaim := { program := "ytofhdhgfcomhiaagreat", sum := "58b7f3f698036f432fc3646dd1e388e0edb64886c98af32d5678f77ee60b38b9", func := "carillon/carillonlaw23.ClockConfs", spec := "clockConfs", inPlace := ["math.Float64bits"], unfollowed := true, recurses := true, apart := false, narrowed := true }
def ClockConfsUptoSaid : Prop := clockConfsUptoRow.holds Tryz.pinned (OpenSpec.upto clockConfsSpec)

/-- 'carillonlaw23.ClockRestarts', WHERE WHAT IT READS IS OF BULK AT MOST 1048576: true; the input reads as it did. -/
def clockRestartsUptoRow : OpenClaim := { program := "ytofhdhgfcomhiaagreat", sum := "58b7f3f698036f432fc3646dd1e388e0edb64886c98af32d5678f77ee60b38b9", func := "carillon/carillonlaw23.ClockRestarts", spec := "clockRestarts", inPlace := ["math.Float64bits"], unfollowed := true, recurses := true, apart := false, narrowed := true }
def ClockRestartsUptoSaid : Prop := clockRestartsUptoRow.holds Tryz.pinned (OpenSpec.upto clockRestartsSpec)

/-- 'carillonlaw23.ClockSpoilt', WHERE WHAT IT READS IS OF BULK AT MOST 1048576: true; the input reads as it did. -/
def clockSpoiltUptoRow : OpenClaim := { program := "ytofhdhgfcomhiaagreat", sum := "58b7f3f698036f432fc3646dd1e388e0edb64886c98af32d5678f77ee60b38b9", func := "carillon/carillonlaw23.ClockSpoilt", spec := "clockSpoilt", inPlace := ["math.Float64bits"], unfollowed := true, recurses := true, apart := false, narrowed := true }
def ClockSpoiltUptoSaid : Prop := clockSpoiltUptoRow.holds Tryz.pinned (OpenSpec.upto clockSpoiltSpec)

/-- 'carillonlaw23.ClockOuts', WHERE WHAT IT READS IS OF BULK AT MOST 1048576: true; the input reads as it did. -/
def clockOutsUptoRow : OpenClaim := { program := "ytofhdhgfcomhiaagreat", sum := "58b7f3f698036f432fc3646dd1e388e0edb64886c98af32d5678f77ee60b38b9", func := "carillon/carillonlaw23.ClockOuts", spec := "clockOuts", inPlace := ["math.Float64bits"], unfollowed := true, recurses := true, apart := false, narrowed := true }
def ClockOutsUptoSaid : Prop := clockOutsUptoRow.holds Tryz.pinned (OpenSpec.upto clockOutsSpec)

end Rows
end Go.Proofs.YtofhdhgfcomhiaaGreat
