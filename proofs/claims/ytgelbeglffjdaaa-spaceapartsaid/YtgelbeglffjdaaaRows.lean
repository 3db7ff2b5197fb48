/-
  No cell of these rows narrows 'for every input' (looked for: loops, veiled, ifaces, maps, wideKeys, modest, calm, conditions, laid).
  DERIVED. THE GIVEN ROWS OF THIS SEAT. 7 by the template 'for every input the law returns true; each argument reads behind the call as it read before'; 0 by the template 'total and deterministic' (their statements: YtgelbeglffjdaaaTotals.lean).
  GIVEN WITH THE SEED: the statements are not yours to turn. If you find one false, say at which input.
  Laid BY PROGRAM, IN A SANDBOX (cutbox-rows.mjs): the forced cells as the released guide's own fill.sh prints them over the translation ce22d1c041d76f7b… (all of the seat's roots in one cut). By AI agents, Wed Nov 11 2026. No macro, syntax, notation, axiom, sorry.
-/
import Derived.Test.YtgelbeglffjdaaaChecked
import GoSem.Claim
import GoSem.ClaimJoined
import GoSem.ClaimMapViews
import Derived.JoinedTies
import Derived.KernelRfl
namespace Go.Proofs.Ytgelbeglffjdaaa
/- THE CELL 'sum', in the pinned program and in every row, IS THE sha256 OF THE DUMP (.gsa) THAT YtgelbeglffjdaaaProg.lean LOADS. Nothing in Lean hashes anything: it is a label: what it is worth is what the hold of that sum in a sandbox is worth. -/
noncomputable def Try.pinned : Pinned := { name := "ytgelbeglffjdaaa", sum := "ce22d1c041d76f7b0ac8781d60fddbcc837d61b263e47d24158c55e4a4da6ed8", checked := Try.checked }
namespace Rows
def none {H : Type} : Left H := { results := [], args := [] }

/-- 'footplatelaw12.SpaceRuns': WHATEVER THE INPUT: true; the input reads as it did. -/
def spaceRunsSpec : ChangeSpec := { name := "spaceRuns", fn := fun _ => fun
  | [d1, d2] => { results := [.lit (.bool true)], args := [d1, d2] }
  | _ => none }
def spaceRunsRow : OpenClaim := { program := "ytgelbeglffjdaaa", sum := "ce22d1c041d76f7b0ac8781d60fddbcc837d61b263e47d24158c55e4a4da6ed8", func := "footplate/footplatelaw12.SpaceRuns", spec := "spaceRuns", inPlace := ["slices.overlaps[footplate/space.Block]", "slices.overlaps[footplate/api.Span]"], unfollowed := true, recurses := true, apart := false }
def SpaceRunsSaid : Prop := spaceRunsRow.holds Try.pinned (OpenSpec.ofChange spaceRunsSpec)

/-- ITS FALSE NEIGHBOUR: 'it returns false'. Refute it at one input. -/
def spaceRunsWrong : ChangeSpec := { name := "spaceRuns", fn := fun _ => fun
  | [d1, d2] => { results := [.lit (.bool false)], args := [d1, d2] }
  | _ => none }
def SpaceRunsWrongFalsely : Prop := spaceRunsRow.holds Try.pinned (OpenSpec.ofChange spaceRunsWrong)

/-- 'footplatelaw12.SpaceApart': WHATEVER THE INPUT: true; the input reads as it did. -/
def spaceApartSpec : ChangeSpec := { name := "spaceApart", fn := fun _ => fun
  | [d] => { results := [.lit (.bool true)], args := [d] }
  | _ => none }
def spaceApartRow : OpenClaim := { program := "ytgelbeglffjdaaa", sum := "ce22d1c041d76f7b0ac8781d60fddbcc837d61b263e47d24158c55e4a4da6ed8", func := "footplate/footplatelaw12.SpaceApart", spec := "spaceApart", inPlace := ["slices.overlaps[footplate/space.Block]", "slices.overlaps[footplate/api.Span]"], unfollowed := true, recurses := true, apart := false }
def SpaceApartSaid : Prop := spaceApartRow.holds Try.pinned (OpenSpec.ofChange spaceApartSpec)

/-- ITS FALSE NEIGHBOUR: 'it returns false'. Refute it at one input. -/
def spaceApartWrong : ChangeSpec := { name := "spaceApart", fn := fun _ => fun
  | [d] => { results := [.lit (.bool false)], args := [d] }
  | _ => none }
def SpaceApartWrongFalsely : Prop := spaceApartRow.holds Try.pinned (OpenSpec.ofChange spaceApartWrong)

/-- 'footplatelaw12.SpaceBack': WHATEVER THE INPUT: true; the input reads as it did. -/
def spaceBackSpec : ChangeSpec := { name := "spaceBack", fn := fun _ => fun
  | [d1, d2] => { results := [.lit (.bool true)], args := [d1, d2] }
  | _ => none }
def spaceBackRow : OpenClaim := { program := "ytgelbeglffjdaaa", sum := "ce22d1c041d76f7b0ac8781d60fddbcc837d61b263e47d24158c55e4a4da6ed8", func := "footplate/footplatelaw12.SpaceBack", spec := "spaceBack", inPlace := ["slices.overlaps[footplate/space.Block]", "slices.overlaps[footplate/api.Span]"], unfollowed := true, recurses := true, apart := false }
def SpaceBackSaid : Prop := spaceBackRow.holds Try.pinned (OpenSpec.ofChange spaceBackSpec)

/-- ITS FALSE NEIGHBOUR: 'it returns false'. Refute it at one input. -/
def spaceBackWrong : ChangeSpec := { name := "spaceBack", fn := fun _ => fun
  | [d1, d2] => { results := [.lit (.bool false)], args := [d1, d2] }
  | _ => none }
def SpaceBackWrongFalsely : Prop := spaceBackRow.holds Try.pinned (OpenSpec.ofChange spaceBackWrong)

/-- 'footplatelaw12.SpaceLowest': WHATEVER THE INPUT: true; the input reads as it did. -/
def spaceLowestSpec : ChangeSpec := { name := "spaceLowest", fn := fun _ => fun
  | [d1, d2, d3] => { results := [.lit (.bool true)], args := [d1, d2, d3] }
  | _ => none }
def spaceLowestRow : OpenClaim := { program := "ytgelbeglffjdaaa", sum := "ce22d1c041d76f7b0ac8781d60fddbcc837d61b263e47d24158c55e4a4da6ed8", func := "footplate/footplatelaw12.SpaceLowest", spec := "spaceLowest", inPlace := ["slices.overlaps[footplate/space.Block]", "slices.overlaps[footplate/api.Span]"], unfollowed := true, recurses := true, apart := false }
def SpaceLowestSaid : Prop := spaceLowestRow.holds Try.pinned (OpenSpec.ofChange spaceLowestSpec)

/-- ITS FALSE NEIGHBOUR: 'it returns false'. Refute it at one input. -/
def spaceLowestWrong : ChangeSpec := { name := "spaceLowest", fn := fun _ => fun
  | [d1, d2, d3] => { results := [.lit (.bool false)], args := [d1, d2, d3] }
  | _ => none }
def SpaceLowestWrongFalsely : Prop := spaceLowestRow.holds Try.pinned (OpenSpec.ofChange spaceLowestWrong)

/-- 'footplatelaw13.SlotsRuns': WHATEVER THE INPUT: true; the input reads as it did. -/
def slotsRunsSpec : ChangeSpec := { name := "slotsRuns", fn := fun _ => fun
  | [d1, d2] => { results := [.lit (.bool true)], args := [d1, d2] }
  | _ => none }
def slotsRunsRow : OpenClaim := { program := "ytgelbeglffjdaaa", sum := "ce22d1c041d76f7b0ac8781d60fddbcc837d61b263e47d24158c55e4a4da6ed8", func := "footplate/footplatelaw13.SlotsRuns", spec := "slotsRuns", unfollowed := true, recurses := true, apart := false }
def SlotsRunsSaid : Prop := slotsRunsRow.holds Try.pinned (OpenSpec.ofChange slotsRunsSpec)

/-- ITS FALSE NEIGHBOUR: 'it returns false'. Refute it at one input. -/
def slotsRunsWrong : ChangeSpec := { name := "slotsRuns", fn := fun _ => fun
  | [d1, d2] => { results := [.lit (.bool false)], args := [d1, d2] }
  | _ => none }
def SlotsRunsWrongFalsely : Prop := slotsRunsRow.holds Try.pinned (OpenSpec.ofChange slotsRunsWrong)

/-- 'footplatelaw13.SlotsFound': WHATEVER THE INPUT: true; the input reads as it did. -/
def slotsFoundSpec : ChangeSpec := { name := "slotsFound", fn := fun _ => fun
  | [d1, d2, d3] => { results := [.lit (.bool true)], args := [d1, d2, d3] }
  | _ => none }
def slotsFoundRow : OpenClaim := { program := "ytgelbeglffjdaaa", sum := "ce22d1c041d76f7b0ac8781d60fddbcc837d61b263e47d24158c55e4a4da6ed8", func := "footplate/footplatelaw13.SlotsFound", spec := "slotsFound", unfollowed := true, recurses := true, apart := false }
def SlotsFoundSaid : Prop := slotsFoundRow.holds Try.pinned (OpenSpec.ofChange slotsFoundSpec)

/-- ITS FALSE NEIGHBOUR: 'it returns false'. Refute it at one input. -/
def slotsFoundWrong : ChangeSpec := { name := "slotsFound", fn := fun _ => fun
  | [d1, d2, d3] => { results := [.lit (.bool false)], args := [d1, d2, d3] }
  | _ => none }
def SlotsFoundWrongFalsely : Prop := slotsFoundRow.holds Try.pinned (OpenSpec.ofChange slotsFoundWrong)

/-- 'footplatelaw13.SlotsOrder': WHATEVER THE INPUT: true; the input reads as it did. -/
def slotsOrderSpec : ChangeSpec := { name := "slotsOrder", fn := fun _ => fun
  | [d1, d2] => { results := [.lit (.bool true)], args := [d1, d2] }
  | _ => none }
def slotsOrderRow : OpenClaim := { program := "ytgelbeglffjdaaa", sum := "ce22d1c041d76f7b0ac8781d60fddbcc837d61b263e47d24158c55e4a4da6ed8", func := "footplate/footplatelaw13.SlotsOrder", spec := "slotsOrder", unfollowed := true, recurses := true, apart := false }
def SlotsOrderSaid : Prop := slotsOrderRow.holds Try.pinned (OpenSpec.ofChange slotsOrderSpec)

/-- ITS FALSE NEIGHBOUR: 'it returns false'. Refute it at one input. -/
def slotsOrderWrong : ChangeSpec := { name := "slotsOrder", fn := fun _ => fun
  | [d1, d2] => { results := [.lit (.bool false)], args := [d1, d2] }
  | _ => none }
def SlotsOrderWrongFalsely : Prop := slotsOrderRow.holds Try.pinned (OpenSpec.ofChange slotsOrderWrong)

/- THE SECOND FORM. 'bulk': how many values and letters a reading holds, each counted each time it is reached (what is shared counts as often as it is met; a slice's spare places count too). A statement '..UptoSaid' is the law's where the arguments, and the package variables that the reading takes, are together of bulk at most 1048576: NARROWER than '..Said'. Prove '..Said' where nothing that the law and all that it calls make is longer than what came in: it says more and counts as full. Else prove '..UptoSaid'. A law counts once. -/
mutual
def uptoBulk {H : Type} : DataW H → Nat
  | .lit (.string bytes) => bytes.length + 1
  | .lit _ => 1
  | .nil => 1
  | .ptr d => uptoBulk d + 1
  | .slice elems spare => uptoBulkAll elems + uptoBulkAll spare + 1
  | .agg parts => uptoBulkAll parts + 1
  | .iface _ d => uptoBulk d + 1
  | .map entries => uptoBulkEntries entries + 1
  | .held _ => 1
def uptoBulkAll {H : Type} : List (DataW H) → Nat
  | [] => 0
  | d :: r => uptoBulk d + uptoBulkAll r
def uptoBulkEntries {H : Type} : List (Lit × DataW H) → Nat
  | [] => 0
  | x :: r => uptoBulkEntry x + uptoBulkEntries r
def uptoBulkEntry {H : Type} : Lit × DataW H → Nat
  | (.string bytes, d) => bytes.length + uptoBulk d + 1
  | (_, d) => uptoBulk d + 1
 end
def uptoSmall : (H : Type) → List (DataW H) → Bool := fun _ ds => decide (uptoBulkAll ds ≤ 1048576)
def OpenSpec.upto (s : _root_.Go.ChangeSpec) : _root_.Go.OpenSpec := { _root_.Go.OpenSpec.ofChange s with cond := some uptoSmall }

/-- 'footplatelaw12.SpaceRuns', WHERE WHAT IT READS IS OF BULK AT MOST 1048576: true; the input reads as it did. -/
def spaceRunsUptoRow : OpenClaim := { program := "ytgelbeglffjdaaa", sum := "ce22d1c041d76f7b0ac8781d60fddbcc837d61b263e47d24158c55e4a4da6ed8", func := "footplate/footplatelaw12.SpaceRuns", spec := "spaceRuns", inPlace := ["slices.overlaps[footplate/space.Block]", "slices.overlaps[footplate/api.Span]"], unfollowed := true, recurses := true, apart := false, narrowed := true }
def SpaceRunsUptoSaid : Prop := spaceRunsUptoRow.holds Try.pinned (OpenSpec.upto spaceRunsSpec)

/-- 'footplatelaw12.SpaceApart', WHERE WHAT IT READS IS OF BULK AT MOST 1048576: true; the input reads as it did. -/
def spaceApartUptoRow : OpenClaim := { program := "ytgelbeglffjdaaa", sum := "ce22d1c041d76f7b0ac8781d60fddbcc837d61b263e47d24158c55e4a4da6ed8", func := "footplate/footplatelaw12.SpaceApart", spec := "spaceApart", inPlace := ["slices.overlaps[footplate/space.Block]", "slices.overlaps[footplate/api.Span]"], unfollowed := true, recurses := true, apart := false, narrowed := true }
def SpaceApartUptoSaid : Prop := spaceApartUptoRow.holds Try.pinned (OpenSpec.upto spaceApartSpec)

/-- 'footplatelaw12.SpaceBack', WHERE WHAT IT READS IS OF BULK AT MOST 1048576: true; the input reads as it did. -/
def spaceBackUptoRow : OpenClaim := { program := "ytgelbeglffjdaaa", sum := "ce22d1c041d76f7b0ac8781d60fddbcc837d61b263e47d24158c55e4a4da6ed8", func := "footplate/footplatelaw12.SpaceBack", spec := "spaceBack", inPlace := ["slices.overlaps[footplate/space.Block]", "slices.overlaps[footplate/api.Span]"], unfollowed := true, recurses := true, apart := false, narrowed := true }
def SpaceBackUptoSaid : Prop := spaceBackUptoRow.holds Try.pinned (OpenSpec.upto spaceBackSpec)

/-- 'footplatelaw12.SpaceLowest', WHERE WHAT IT READS IS OF BULK AT MOST 1048576: true; the input reads as it did. -/
def spaceLowestUptoRow : OpenClaim := { program := "ytgelbeglffjdaaa", sum := "ce22d1c041d76f7b0ac8781d60fddbcc837d61b263e47d24158c55e4a4da6ed8", func := "footplate/footplatelaw12.SpaceLowest", spec := "spaceLowest", inPlace := ["slices.overlaps[footplate/space.Block]", "slices.overlaps[footplate/api.Span]"], unfollowed := true, recurses := true, apart := false, narrowed := true }
def SpaceLowestUptoSaid : Prop := spaceLowestUptoRow.holds Try.pinned (OpenSpec.upto spaceLowestSpec)

/-- 'footplatelaw13.SlotsRuns', WHERE WHAT IT READS IS OF BULK AT MOST 1048576: true; the input reads as it did. -/
def slotsRunsUptoRow : OpenClaim := { program := "ytgelbeglffjdaaa", sum := "ce22d1c041d76f7b0ac8781d60fddbcc837d61b263e47d24158c55e4a4da6ed8", func := "footplate/footplatelaw13.SlotsRuns", spec := "slotsRuns", unfollowed := true, recurses := true, apart := false, narrowed := true }
def SlotsRunsUptoSaid : Prop := slotsRunsUptoRow.holds Try.pinned (OpenSpec.upto slotsRunsSpec)

/-- 'footplatelaw13.SlotsFound', WHERE WHAT IT READS IS OF BULK AT MOST 1048576: true; the input reads as it did. -/
def slotsFoundUptoRow : OpenClaim := { program := "ytgelbeglffjdaaa", sum := "ce22d1c041d76f7b0ac8781d60fddbcc837d61b263e47d24158c55e4a4da6ed8", func := "footplate/footplatelaw13.SlotsFound", spec := "slotsFound", unfollowed := true, recurses := true, apart := false, narrowed := true }
def SlotsFoundUptoSaid : Prop := slotsFoundUptoRow.holds Try.pinned (OpenSpec.upto slotsFoundSpec)

/-- 'footplatelaw13.SlotsOrder', WHERE WHAT IT READS IS OF BULK AT MOST 1048576: true; the input reads as it did. -/
def slotsOrderUptoRow : OpenClaim := { program := "ytgelbeglffjdaaa", sum := "ce22d1c041d76f7b0ac8781d60fddbcc837d61b263e47d24158c55e4a4da6ed8", func := "footplate/footplatelaw13.SlotsOrder", spec := "slotsOrder", unfollowed := true, recurses := true, apart := false, narrowed := true }
def SlotsOrderUptoSaid : Prop := slotsOrderUptoRow.holds Try.pinned (OpenSpec.upto slotsOrderSpec)

end Rows
end Go.Proofs.Ytgelbeglffjdaaa
