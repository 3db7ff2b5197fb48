/-
  DERIVED. GIVEN WITH THE SEED: THE CARDS: each row of YtoliijajhikhgaaDoorRows.lean that lists a variable, with what it lists TIED to the program's text (the seventh form; the later family's looks); each row that meets fmt, with fmt's text TOLD by the authors' own Lean function (tested against real Go, not proved from fmt's source: count such statements apart). THE CARD IS WHAT COUNTS. Prove the row's statement (the work); the ties are given (YtoliijajhikhgaaDoorTie.lean); close each card by the builder's one call (the guide's Derived/Test/ToyasCard.lean, 'card_holds'). Laid BY PROGRAM, IN A SANDBOX (cutbox-door.mjs). By AI agents, Wed Nov 11 2026. No macro, syntax, notation, axiom, sorry.
-/
import Derived.Test.YtoliijajhikhgaaDoorRows
import GoSem.ClaimSeven
namespace Go.Proofs.YtoliijajhikhgaaDoor
namespace Rows

/-- THE TIED CARD OF 'footplatelaw14.PoolKeeps'. -/
def poolKeepsCard : Claim7 := { stood := { row := poolKeepsRow, standIns := [], harness := (true, "f5f11f00b2c61515b33219fafcacb0ba68cbcbf026f1c73d9090231558dc5c15"), looks := true }, kinds := [], alts := [], laidByText := true, laidKinds := [.data], laidTests := true, laidLooks := .later }
def PoolKeepsCardSaid : Prop := Claim7.holds Tryd.pinned (.plain (OpenSpec.ofChange poolKeepsSpec)) poolKeepsCard

/-- THE TIED CARD OF 'footplatelaw14.PoolLowest'. -/
def poolLowestCard : Claim7 := { stood := { row := poolLowestRow, standIns := [], harness := (true, "f5f11f00b2c61515b33219fafcacb0ba68cbcbf026f1c73d9090231558dc5c15"), looks := true }, kinds := [], alts := [], laidByText := true, laidKinds := [.data], laidTests := true, laidLooks := .later }
def PoolLowestCardSaid : Prop := Claim7.holds Tryd.pinned (.plain (OpenSpec.ofChange poolLowestSpec)) poolLowestCard

/-- THE SECOND FORM's CARD OF 'footplatelaw14.PoolKeeps'. -/
def poolKeepsUptoCard : Claim7 := { stood := { row := poolKeepsUptoRow, standIns := [], harness := (true, "f5f11f00b2c61515b33219fafcacb0ba68cbcbf026f1c73d9090231558dc5c15"), looks := true }, kinds := [], alts := [], laidByText := true, laidKinds := [.data], laidTests := true, laidLooks := .later }
def PoolKeepsUptoCardSaid : Prop := Claim7.holds Tryd.pinned (.plain (OpenSpec.upto poolKeepsSpec)) poolKeepsUptoCard

/-- THE SECOND FORM's CARD OF 'footplatelaw14.PoolLowest'. -/
def poolLowestUptoCard : Claim7 := { stood := { row := poolLowestUptoRow, standIns := [], harness := (true, "f5f11f00b2c61515b33219fafcacb0ba68cbcbf026f1c73d9090231558dc5c15"), looks := true }, kinds := [], alts := [], laidByText := true, laidKinds := [.data], laidTests := true, laidLooks := .later }
def PoolLowestUptoCardSaid : Prop := Claim7.holds Tryd.pinned (.plain (OpenSpec.upto poolLowestSpec)) poolLowestUptoCard
end Rows
end Go.Proofs.YtoliijajhikhgaaDoor
