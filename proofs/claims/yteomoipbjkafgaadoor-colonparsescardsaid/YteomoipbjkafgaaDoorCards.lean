/-
  DERIVED. GIVEN WITH THE SEED: THE CARDS: each row of YteomoipbjkafgaaDoorRows.lean that lists a variable, with what it lists TIED to the program's text (the seventh form; the later family's looks); each row that meets fmt, with fmt's text TOLD by the authors' own Lean function (tested against real Go, not proved from fmt's source: count such statements apart). THE CARD IS WHAT COUNTS. Prove the row's statement (the work); the ties are given (YteomoipbjkafgaaDoorTie.lean); close each card by the builder's one call (the guide's Derived/Test/ToyasCard.lean, 'card_holds'). Laid BY PROGRAM, IN A SANDBOX (cutbox-door.mjs). By AI agents, Wed Nov 11 2026. No macro, syntax, notation, axiom, sorry.
-/
import Derived.Test.YteomoipbjkafgaaDoorRows
import GoSem.ClaimSeven
namespace Go.Proofs.YteomoipbjkafgaaDoor
namespace Rows

/-- THE TIED CARD OF 'footplatelaw07.ColonTells'. -/
def colonTellsCard : Claim7 := { stood := { row := colonTellsRow, standIns := [], harness := (true, "1b8239d9e8cd6f72bdb558c25798d5435518665be448b2dfe857b2d7a1258e7d"), looks := false }, kinds := [], alts := [], laidByText := true, laidKinds := [.data, .data, .data], laidTests := true, laidLooks := .later }
def ColonTellsCardSaid : Prop := Claim7.holds Tryd.pinned (.plain (OpenSpec.ofChange colonTellsSpec)) colonTellsCard

/-- THE TIED CARD OF 'footplatelaw07.ColonParses'. -/
def colonParsesCard : Claim7 := { stood := { row := colonParsesRow, standIns := [], harness := (true, "1b8239d9e8cd6f72bdb558c25798d5435518665be448b2dfe857b2d7a1258e7d"), looks := false }, kinds := [], alts := [], laidByText := true, laidKinds := [.data, .data, .data], laidTests := true, laidLooks := .later }
def ColonParsesCardSaid : Prop := Claim7.holds Tryd.pinned (.plain (OpenSpec.ofChange colonParsesSpec)) colonParsesCard

/-- THE TIED CARD OF 'footplatelaw07.ColonOf'. -/
def colonOfCard : Claim7 := { stood := { row := colonOfRow, standIns := [], harness := (true, "1b8239d9e8cd6f72bdb558c25798d5435518665be448b2dfe857b2d7a1258e7d"), looks := false }, kinds := [], alts := [], laidByText := true, laidKinds := [.data, .data, .data], laidTests := true, laidLooks := .later }
def ColonOfCardSaid : Prop := Claim7.holds Tryd.pinned (.plain (OpenSpec.ofChange colonOfSpec)) colonOfCard

/-- THE TIED CARD OF 'footplatelaw07.ColonBack'. -/
def colonBackCard : Claim7 := { stood := { row := colonBackRow, standIns := [], harness := (true, "1b8239d9e8cd6f72bdb558c25798d5435518665be448b2dfe857b2d7a1258e7d"), looks := false }, kinds := [], alts := [], laidByText := true, laidKinds := [.data, .data, .data], laidTests := true, laidLooks := .later }
def ColonBackCardSaid : Prop := Claim7.holds Tryd.pinned (.plain (OpenSpec.ofChange colonBackSpec)) colonBackCard

/-- THE TIED CARD OF 'footplatelaw07.ColonLong'. -/
def colonLongCard : Claim7 := { stood := { row := colonLongRow, standIns := [], harness := (true, "1b8239d9e8cd6f72bdb558c25798d5435518665be448b2dfe857b2d7a1258e7d"), looks := false }, kinds := [], alts := [], laidByText := true, laidKinds := [.data, .data, .data], laidTests := true, laidLooks := .later }
def ColonLongCardSaid : Prop := Claim7.holds Tryd.pinned (.plain (OpenSpec.ofChange colonLongSpec)) colonLongCard

/-- THE SECOND FORM's CARD OF 'footplatelaw07.ColonTells'. -/
def colonTellsUptoCard : Claim7 := { stood := { row := colonTellsUptoRow, standIns := [], harness := (true, "1b8239d9e8cd6f72bdb558c25798d5435518665be448b2dfe857b2d7a1258e7d"), looks := false }, kinds := [], alts := [], laidByText := true, laidKinds := [.data, .data, .data], laidTests := true, laidLooks := .later }
def ColonTellsUptoCardSaid : Prop := Claim7.holds Tryd.pinned (.plain (OpenSpec.upto colonTellsSpec)) colonTellsUptoCard

/-- THE SECOND FORM's CARD OF 'footplatelaw07.ColonParses'. -/
def colonParsesUptoCard : Claim7 := { stood := { row := colonParsesUptoRow, standIns := [], harness := (true, "1b8239d9e8cd6f72bdb558c25798d5435518665be448b2dfe857b2d7a1258e7d"), looks := false }, kinds := [], alts := [], laidByText := true, laidKinds := [.data, .data, .data], laidTests := true, laidLooks := .later }
def ColonParsesUptoCardSaid : Prop := Claim7.holds Tryd.pinned (.plain (OpenSpec.upto colonParsesSpec)) colonParsesUptoCard

/-- THE SECOND FORM's CARD OF 'footplatelaw07.ColonOf'. -/
def colonOfUptoCard : Claim7 := { stood := { row := colonOfUptoRow, standIns := [], harness := (true, "1b8239d9e8cd6f72bdb558c25798d5435518665be448b2dfe857b2d7a1258e7d"), looks := false }, kinds := [], alts := [], laidByText := true, laidKinds := [.data, .data, .data], laidTests := true, laidLooks := .later }
def ColonOfUptoCardSaid : Prop := Claim7.holds Tryd.pinned (.plain (OpenSpec.upto colonOfSpec)) colonOfUptoCard

/-- THE SECOND FORM's CARD OF 'footplatelaw07.ColonBack'. -/
def colonBackUptoCard : Claim7 := { stood := { row := colonBackUptoRow, standIns := [], harness := (true, "1b8239d9e8cd6f72bdb558c25798d5435518665be448b2dfe857b2d7a1258e7d"), looks := false }, kinds := [], alts := [], laidByText := true, laidKinds := [.data, .data, .data], laidTests := true, laidLooks := .later }
def ColonBackUptoCardSaid : Prop := Claim7.holds Tryd.pinned (.plain (OpenSpec.upto colonBackSpec)) colonBackUptoCard

/-- THE SECOND FORM's CARD OF 'footplatelaw07.ColonLong'. -/
def colonLongUptoCard : Claim7 := { stood := { row := colonLongUptoRow, standIns := [], harness := (true, "1b8239d9e8cd6f72bdb558c25798d5435518665be448b2dfe857b2d7a1258e7d"), looks := false }, kinds := [], alts := [], laidByText := true, laidKinds := [.data, .data, .data], laidTests := true, laidLooks := .later }
def ColonLongUptoCardSaid : Prop := Claim7.holds Tryd.pinned (.plain (OpenSpec.upto colonLongSpec)) colonLongUptoCard
end Rows
end Go.Proofs.YteomoipbjkafgaaDoor
