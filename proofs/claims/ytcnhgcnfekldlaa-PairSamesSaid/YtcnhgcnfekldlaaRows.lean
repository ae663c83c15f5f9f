/-
  No cell of these rows narrows 'for every input' (looked for: loops, veiled, ifaces, maps, wideKeys, modest, calm, conditions, laid).
  DERIVED. THE GIVEN ROWS OF THIS SEAT. 5 by the template 'for every input the law returns true; each argument reads behind the call as it read before'; 0 by the template 'total and deterministic' (their statements: YtcnhgcnfekldlaaTotals.lean).
  GIVEN WITH THE SEED: the statements are not yours to turn. If you find one false, say at which input.
  Laid BY PROGRAM, IN A SANDBOX (cutbox-rows.mjs): the forced cells as the released guide's own fill.sh prints them over the translation d945ec1c87837615… (all of the seat's roots in one cut). By AI agents, Wed Nov 11 2026. No macro, syntax, notation, axiom, sorry.
-/
import Derived.Test.YtcnhgcnfekldlaaChecked
import GoSem.Claim
import GoSem.ClaimJoined
import GoSem.ClaimMapViews
import Derived.JoinedTies
import Derived.KernelRfl
namespace Go.Proofs.Ytcnhgcnfekldlaa
/- THE CELL 'sum', in the pinned program and in every row, IS THE sha256 OF THE DUMP (.gsa) THAT YtcnhgcnfekldlaaProg.lean LOADS. Nothing in Lean hashes anything: it is a label: what it is worth is what the hold of that sum in a sandbox is worth. -/
noncomputable def Try.pinned : Pinned := { name := "ytcnhgcnfekldlaa", sum := "d945ec1c878376152dc7aa8a506794f681cab8e03e791811e7783d00d54367e9", checked := Try.checked }
namespace Rows
def none {H : Type} : Left H := { results := [], args := [] }

/-- 'carillonlaw03.PairExchanges': WHATEVER THE INPUT: true; the input reads as it did. -/
def pairExchangesSpec : ChangeSpec := { name := "pairExchanges", fn := fun _ => fun
  | [d1, d2, d3, d4] => { results := [.lit (.bool true)], args := [d1, d2, d3, d4] }
  | _ => none }
def pairExchangesRow : OpenClaim := { program := "ytcnhgcnfekldlaa", sum := "d945ec1c878376152dc7aa8a506794f681cab8e03e791811e7783d00d54367e9", func := "carillon/carillonlaw03.PairExchanges", spec := "pairExchanges", inPlace := ["math.Float64bits"], apart := false }
def PairExchangesSaid : Prop := pairExchangesRow.holds Try.pinned (OpenSpec.ofChange pairExchangesSpec)

/-- ITS FALSE NEIGHBOUR: 'it returns false'. Refute it at one input. -/
def pairExchangesWrong : ChangeSpec := { name := "pairExchanges", fn := fun _ => fun
  | [d1, d2, d3, d4] => { results := [.lit (.bool false)], args := [d1, d2, d3, d4] }
  | _ => none }
def PairExchangesWrongFalsely : Prop := pairExchangesRow.holds Try.pinned (OpenSpec.ofChange pairExchangesWrong)

/-- 'carillonlaw03.PairTurns': WHATEVER THE INPUT: true; the input reads as it did. -/
def pairTurnsSpec : ChangeSpec := { name := "pairTurns", fn := fun _ => fun
  | [d1, d2] => { results := [.lit (.bool true)], args := [d1, d2] }
  | _ => none }
def pairTurnsRow : OpenClaim := { program := "ytcnhgcnfekldlaa", sum := "d945ec1c878376152dc7aa8a506794f681cab8e03e791811e7783d00d54367e9", func := "carillon/carillonlaw03.PairTurns", spec := "pairTurns", inPlace := ["math.Float64bits"], apart := false }
def PairTurnsSaid : Prop := pairTurnsRow.holds Try.pinned (OpenSpec.ofChange pairTurnsSpec)

/-- ITS FALSE NEIGHBOUR: 'it returns false'. Refute it at one input. -/
def pairTurnsWrong : ChangeSpec := { name := "pairTurns", fn := fun _ => fun
  | [d1, d2] => { results := [.lit (.bool false)], args := [d1, d2] }
  | _ => none }
def PairTurnsWrongFalsely : Prop := pairTurnsRow.holds Try.pinned (OpenSpec.ofChange pairTurnsWrong)

/-- 'carillonlaw03.PairSames': WHATEVER THE INPUT: true; the input reads as it did. -/
def pairSamesSpec : ChangeSpec := { name := "pairSames", fn := fun _ => fun
  | [d1, d2, d3, d4, d5] => { results := [.lit (.bool true)], args := [d1, d2, d3, d4, d5] }
  | _ => none }
def pairSamesRow : OpenClaim := { program := "ytcnhgcnfekldlaa", sum := "d945ec1c878376152dc7aa8a506794f681cab8e03e791811e7783d00d54367e9", func := "carillon/carillonlaw03.PairSames", spec := "pairSames", inPlace := ["math.Float64bits"], unfollowed := true, recurses := true, apart := false }
def PairSamesSaid : Prop := pairSamesRow.holds Try.pinned (OpenSpec.ofChange pairSamesSpec)

/-- ITS FALSE NEIGHBOUR: 'it returns false'. Refute it at one input. -/
def pairSamesWrong : ChangeSpec := { name := "pairSames", fn := fun _ => fun
  | [d1, d2, d3, d4, d5] => { results := [.lit (.bool false)], args := [d1, d2, d3, d4, d5] }
  | _ => none }
def PairSamesWrongFalsely : Prop := pairSamesRow.holds Try.pinned (OpenSpec.ofChange pairSamesWrong)

/-- 'carillonlaw03.PairShift': WHATEVER THE INPUT: true; the input reads as it did. -/
def pairShiftSpec : ChangeSpec := { name := "pairShift", fn := fun _ => fun
  | [d1, d2, d3, d4] => { results := [.lit (.bool true)], args := [d1, d2, d3, d4] }
  | _ => none }
def pairShiftRow : OpenClaim := { program := "ytcnhgcnfekldlaa", sum := "d945ec1c878376152dc7aa8a506794f681cab8e03e791811e7783d00d54367e9", func := "carillon/carillonlaw03.PairShift", spec := "pairShift", inPlace := ["math.Float64bits"], apart := false }
def PairShiftSaid : Prop := pairShiftRow.holds Try.pinned (OpenSpec.ofChange pairShiftSpec)

/-- ITS FALSE NEIGHBOUR: 'it returns false'. Refute it at one input. -/
def pairShiftWrong : ChangeSpec := { name := "pairShift", fn := fun _ => fun
  | [d1, d2, d3, d4] => { results := [.lit (.bool false)], args := [d1, d2, d3, d4] }
  | _ => none }
def PairShiftWrongFalsely : Prop := pairShiftRow.holds Try.pinned (OpenSpec.ofChange pairShiftWrong)

/-- 'carillonlaw03.PairEven': WHATEVER THE INPUT: true; the input reads as it did. -/
def pairEvenSpec : ChangeSpec := { name := "pairEven", fn := fun _ => fun
  | [d1, d2, d3] => { results := [.lit (.bool true)], args := [d1, d2, d3] }
  | _ => none }
def pairEvenRow : OpenClaim := { program := "ytcnhgcnfekldlaa", sum := "d945ec1c878376152dc7aa8a506794f681cab8e03e791811e7783d00d54367e9", func := "carillon/carillonlaw03.PairEven", spec := "pairEven", inPlace := ["math.Float64bits"], apart := false }
def PairEvenSaid : Prop := pairEvenRow.holds Try.pinned (OpenSpec.ofChange pairEvenSpec)

/-- ITS FALSE NEIGHBOUR: 'it returns false'. Refute it at one input. -/
def pairEvenWrong : ChangeSpec := { name := "pairEven", fn := fun _ => fun
  | [d1, d2, d3] => { results := [.lit (.bool false)], args := [d1, d2, d3] }
  | _ => none }
def PairEvenWrongFalsely : Prop := pairEvenRow.holds Try.pinned (OpenSpec.ofChange pairEvenWrong)

/- THE SECOND FORM. 'bulk': how many values and letters a reading holds, each counted each time it is reached (what is shared counts as often as it is met; a slice's spare places count too). A statement '..UptoSaid' is the law's where the arguments, and the package variables that the reading takes, are together of bulk at most 1048576: NARROWER than '..Said'. Prove '..Said' where nothing that the law and all that it calls make is longer than what came in: it says more and counts as full. Else prove '..UptoSaid'. A law counts once. -/
mutual
def uptoBulk {H : Type} : DataW H → Nat
  | .lit (.string bytes) => bytes.length + 1
  | .lit _ => 1
  | .nil => 1
  | .ptr d => uptoBulk d + 1
  | .slice elems spare => uptoBulkAll elems + uptoBulkAll spare + 1
  | .agg parts => uptoBulkAll parts + 1
  | .iface _ d => uptoBulk d + 1
  | .map entries => uptoBulkEntries entries + 1
  | .held _ => 1
def uptoBulkAll {H : Type} : List (DataW H) → Nat
  | [] => 0
  | d :: r => uptoBulk d + uptoBulkAll r
def uptoBulkEntries {H : Type} : List (Lit × DataW H) → Nat
  | [] => 0
  | x :: r => uptoBulkEntry x + uptoBulkEntries r
def uptoBulkEntry {H : Type} : Lit × DataW H → Nat
  | (.string bytes, d) => bytes.length + uptoBulk d + 1
  | (_, d) => uptoBulk d + 1
 end
def uptoSmall : (H : Type) → List (DataW H) → Bool := fun _ ds => decide (uptoBulkAll ds ≤ 1048576)
def OpenSpec.upto (s : _root_.Go.ChangeSpec) : _root_.Go.OpenSpec := { _root_.Go.OpenSpec.ofChange s with cond := some uptoSmall }

/-- 'carillonlaw03.PairExchanges', WHERE WHAT IT READS IS OF BULK AT MOST 1048576: true; the input reads as it did. -/
def pairExchangesUptoRow : OpenClaim := { program := "ytcnhgcnfekldlaa", sum := "d945ec1c878376152dc7aa8a506794f681cab8e03e791811e7783d00d54367e9", func := "carillon/carillonlaw03.PairExchanges", spec := "pairExchanges", inPlace := ["math.Float64bits"], apart := false, narrowed := true }
def PairExchangesUptoSaid : Prop := pairExchangesUptoRow.holds Try.pinned (OpenSpec.upto pairExchangesSpec)

/-- 'carillonlaw03.PairTurns', WHERE WHAT IT READS IS OF BULK AT MOST 1048576: true; the input reads as it did. -/
def pairTurnsUptoRow : OpenClaim := { program := "ytcnhgcnfekldlaa", sum := "d945ec1c878376152dc7aa8a506794f681cab8e03e791811e7783d00d54367e9", func := "carillon/carillonlaw03.PairTurns", spec := "pairTurns", inPlace := ["math.Float64bits"], apart := false, narrowed := true }
def PairTurnsUptoSaid : Prop := pairTurnsUptoRow.holds Try.pinned (OpenSpec.upto pairTurnsSpec)

/-- 'carillonlaw03.PairSames', WHERE WHAT IT READS IS OF BULK AT MOST 1048576: true; the input reads as it did. -/
def pairSamesUptoRow : OpenClaim := { program := "ytcnhgcnfekldlaa", sum := "d945ec1c878376152dc7aa8a506794f681cab8e03e791811e7783d00d54367e9", func := "carillon/carillonlaw03.PairSames", spec := "pairSames", inPlace := ["math.Float64bits"], unfollowed := true, recurses := true, apart := false, narrowed := true }
def PairSamesUptoSaid : Prop := pairSamesUptoRow.holds Try.pinned (OpenSpec.upto pairSamesSpec)

/-- 'carillonlaw03.PairShift', WHERE WHAT IT READS IS OF BULK AT MOST 1048576: true; the input reads as it did. -/
def pairShiftUptoRow : OpenClaim := { program := "ytcnhgcnfekldlaa", sum := "d945ec1c878376152dc7aa8a506794f681cab8e03e791811e7783d00d54367e9", func := "carillon/carillonlaw03.PairShift", spec := "pairShift", inPlace := ["math.Float64bits"], apart := false, narrowed := true }
def PairShiftUptoSaid : Prop := pairShiftUptoRow.holds Try.pinned (OpenSpec.upto pairShiftSpec)

/-- 'carillonlaw03.PairEven', WHERE WHAT IT READS IS OF BULK AT MOST 1048576: true; the input reads as it did. -/
def pairEvenUptoRow : OpenClaim := { program := "ytcnhgcnfekldlaa", sum := "d945ec1c878376152dc7aa8a506794f681cab8e03e791811e7783d00d54367e9", func := "carillon/carillonlaw03.PairEven", spec := "pairEven", inPlace := ["math.Float64bits"], apart := false, narrowed := true }
def PairEvenUptoSaid : Prop := pairEvenUptoRow.holds Try.pinned (OpenSpec.upto pairEvenSpec)

end Rows
end Go.Proofs.Ytcnhgcnfekldlaa
