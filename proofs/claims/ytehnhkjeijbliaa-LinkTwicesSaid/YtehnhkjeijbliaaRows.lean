/-
  No cell of these rows narrows 'for every input' (looked for: loops, veiled, ifaces, maps, wideKeys, modest, calm, conditions, laid).
  DERIVED. THE GIVEN ROWS OF THIS SEAT. 3 by the template 'for every input the law returns true; each argument reads behind the call as it read before'; 0 by the template 'total and deterministic' (their statements: YtehnhkjeijbliaaTotals.lean).
  GIVEN WITH THE SEED: the statements are not yours to turn. If you find one false, say at which input.
  Laid BY PROGRAM, IN A SANDBOX (cutbox-rows.mjs): the forced cells as the released guide's own fill.sh prints them over the translation 045dbcb4c16ea773… (all of the seat's roots in one cut). By AI agents, Wed Nov 11 2026. No macro, syntax, notation, axiom, sorry.
-/
import Derived.Test.YtehnhkjeijbliaaChecked
import GoSem.Claim
import GoSem.ClaimJoined
import GoSem.ClaimMapViews
import Derived.JoinedTies
import Derived.KernelRfl
namespace Go.Proofs.Ytehnhkjeijbliaa
/- THE CELL 'sum', in the pinned program and in every row, IS THE sha256 OF THE DUMP (.gsa) THAT YtehnhkjeijbliaaProg.lean LOADS. Nothing in Lean hashes anything: it is a label: what it is worth is what the hold of that sum in a sandbox is worth. -/
noncomputable def Try.pinned : Pinned := { name := "ytehnhkjeijbliaa", sum := "045dbcb4c16ea77340e4afa9a3dc751b7a940166308f3439fd12b23e22bc44a6", checked := Try.checked }
namespace Rows
def none {H : Type} : Left H := { results := [], args := [] }

/-- 'carillonlaw25.LinkOrder': WHATEVER THE INPUT: true; the input reads as it did. -/
def linkOrderSpec : ChangeSpec := { name := "linkOrder", fn := fun _ => fun
  | [d] => { results := [.lit (.bool true)], args := [d] }
  | _ => none }
def linkOrderRow : OpenClaim := { program := "ytehnhkjeijbliaa", sum := "045dbcb4c16ea77340e4afa9a3dc751b7a940166308f3439fd12b23e22bc44a6", func := "carillon/carillonlaw25.LinkOrder", spec := "linkOrder", apart := false }
def LinkOrderSaid : Prop := linkOrderRow.holds Try.pinned (OpenSpec.ofChange linkOrderSpec)

/-- ITS FALSE NEIGHBOUR: 'it returns false'. Refute it at one input. -/
def linkOrderWrong : ChangeSpec := { name := "linkOrder", fn := fun _ => fun
  | [d] => { results := [.lit (.bool false)], args := [d] }
  | _ => none }
def LinkOrderWrongFalsely : Prop := linkOrderRow.holds Try.pinned (OpenSpec.ofChange linkOrderWrong)

/-- 'carillonlaw25.LinkSwaps': WHATEVER THE INPUT: true; the input reads as it did. -/
def linkSwapsSpec : ChangeSpec := { name := "linkSwaps", fn := fun _ => fun
  | [d1, d2] => { results := [.lit (.bool true)], args := [d1, d2] }
  | _ => none }
def linkSwapsRow : OpenClaim := { program := "ytehnhkjeijbliaa", sum := "045dbcb4c16ea77340e4afa9a3dc751b7a940166308f3439fd12b23e22bc44a6", func := "carillon/carillonlaw25.LinkSwaps", spec := "linkSwaps", apart := false }
def LinkSwapsSaid : Prop := linkSwapsRow.holds Try.pinned (OpenSpec.ofChange linkSwapsSpec)

/-- ITS FALSE NEIGHBOUR: 'it returns false'. Refute it at one input. -/
def linkSwapsWrong : ChangeSpec := { name := "linkSwaps", fn := fun _ => fun
  | [d1, d2] => { results := [.lit (.bool false)], args := [d1, d2] }
  | _ => none }
def LinkSwapsWrongFalsely : Prop := linkSwapsRow.holds Try.pinned (OpenSpec.ofChange linkSwapsWrong)

/-- 'carillonlaw25.LinkTwices': WHATEVER THE INPUT: true; the input reads as it did. -/
def linkTwicesSpec : ChangeSpec := { name := "linkTwices", fn := fun _ => fun
  | [d1, d2] => { results := [.lit (.bool true)], args := [d1, d2] }
  | _ => none }
def linkTwicesRow : OpenClaim := { program := "ytehnhkjeijbliaa", sum := "045dbcb4c16ea77340e4afa9a3dc751b7a940166308f3439fd12b23e22bc44a6", func := "carillon/carillonlaw25.LinkTwices", spec := "linkTwices", apart := false }
def LinkTwicesSaid : Prop := linkTwicesRow.holds Try.pinned (OpenSpec.ofChange linkTwicesSpec)

/-- ITS FALSE NEIGHBOUR: 'it returns false'. Refute it at one input. -/
def linkTwicesWrong : ChangeSpec := { name := "linkTwices", fn := fun _ => fun
  | [d1, d2] => { results := [.lit (.bool false)], args := [d1, d2] }
  | _ => none }
def LinkTwicesWrongFalsely : Prop := linkTwicesRow.holds Try.pinned (OpenSpec.ofChange linkTwicesWrong)

/- THE SECOND FORM. 'bulk': how many values and letters a reading holds, each counted each time it is reached (what is shared counts as often as it is met; a slice's spare places count too). A statement '..UptoSaid' is the law's where the arguments, and the package variables that the reading takes, are together of bulk at most 1048576: NARROWER than '..Said'. Prove '..Said' where nothing that the law and all that it calls make is longer than what came in: it says more and counts as full. Else prove '..UptoSaid'. A law counts once. -/
mutual
def uptoBulk {H : Type} : DataW H → Nat
  | .lit (.string bytes) => bytes.length + 1
  | .lit _ => 1
  | .nil => 1
  | .ptr d => uptoBulk d + 1
  | .slice elems spare => uptoBulkAll elems + uptoBulkAll spare + 1
  | .agg parts => uptoBulkAll parts + 1
  | .iface _ d => uptoBulk d + 1
  | .map entries => uptoBulkEntries entries + 1
  | .held _ => 1
def uptoBulkAll {H : Type} : List (DataW H) → Nat
  | [] => 0
  | d :: r => uptoBulk d + uptoBulkAll r
def uptoBulkEntries {H : Type} : List (Lit × DataW H) → Nat
  | [] => 0
  | x :: r => uptoBulkEntry x + uptoBulkEntries r
def uptoBulkEntry {H : Type} : Lit × DataW H → Nat
  | (.string bytes, d) => bytes.length + uptoBulk d + 1
  | (_, d) => uptoBulk d + 1
 end
def uptoSmall : (H : Type) → List (DataW H) → Bool := fun _ ds => decide (uptoBulkAll ds ≤ 1048576)
def OpenSpec.upto (s : _root_.Go.ChangeSpec) : _root_.Go.OpenSpec := { _root_.Go.OpenSpec.ofChange s with cond := some uptoSmall }

/-- 'carillonlaw25.LinkOrder', WHERE WHAT IT READS IS OF BULK AT MOST 1048576: true; the input reads as it did. -/
def linkOrderUptoRow : OpenClaim := { program := "ytehnhkjeijbliaa", sum := "045dbcb4c16ea77340e4afa9a3dc751b7a940166308f3439fd12b23e22bc44a6", func := "carillon/carillonlaw25.LinkOrder", spec := "linkOrder", apart := false, narrowed := true }
def LinkOrderUptoSaid : Prop := linkOrderUptoRow.holds Try.pinned (OpenSpec.upto linkOrderSpec)

/-- 'carillonlaw25.LinkSwaps', WHERE WHAT IT READS IS OF BULK AT MOST 1048576: true; the input reads as it did. -/
def linkSwapsUptoRow : OpenClaim := { program := "ytehnhkjeijbliaa", sum := "045dbcb4c16ea77340e4afa9a3dc751b7a940166308f3439fd12b23e22bc44a6", func := "carillon/carillonlaw25.LinkSwaps", spec := "linkSwaps", apart := false, narrowed := true }
def LinkSwapsUptoSaid : Prop := linkSwapsUptoRow.holds Try.pinned (OpenSpec.upto linkSwapsSpec)

/-- 'carillonlaw25.LinkTwices', WHERE WHAT IT READS IS OF BULK AT MOST 1048576: true; the input reads as it did. -/
def linkTwicesUptoRow : OpenClaim := { program := "ytehnhkjeijbliaa", sum := "045dbcb4c16ea77340e4afa9a3dc751b7a940166308f3439fd12b23e22bc44a6", func := "carillon/carillonlaw25.LinkTwices", spec := "linkTwices", apart := false, narrowed := true }
def LinkTwicesUptoSaid : Prop := linkTwicesUptoRow.holds Try.pinned (OpenSpec.upto linkTwicesSpec)

end Rows
end Go.Proofs.Ytehnhkjeijbliaa
