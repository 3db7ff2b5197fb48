/-
  DERIVED. GIVEN WITH THE SEED: THE CARDS: each row of YtlbgmpjeckigjaaDoorRows.lean that lists a variable, with what it lists TIED to the program's text (the seventh form; the later family's looks); each row that meets fmt, with fmt's text TOLD by the authors' own Lean function (tested against real Go, not proved from fmt's source: count such statements apart). THE CARD IS WHAT COUNTS. Prove the row's statement (the work); the ties are given (YtlbgmpjeckigjaaDoorTie.lean); close each card by the builder's one call (the guide's Derived/Test/ToyasCard.lean, 'card_holds'). Laid BY PROGRAM, IN A SANDBOX (cutbox-door.mjs). By AI agents, Wed Nov 11 2026. No macro, syntax, notation, axiom, sorry.
-/
import Derived.Test.YtlbgmpjeckigjaaDoorRows
import GoSem.ClaimSeven
namespace Go.Proofs.YtlbgmpjeckigjaaDoor
namespace Rows

/-- THE TIED CARD OF 'footplatelaw08.PrefixTells'. -/
def prefixTellsCard : Claim7 := { stood := { row := prefixTellsRow, standIns := [], harness := (true, "474331f096ef148f14244b1e7d998ed5bcea11b0960f246c474094dafd211c14"), looks := false }, kinds := [], alts := [], laidByText := true, laidKinds := [.data, .data, .data], laidTests := true, laidLooks := .later }
def PrefixTellsCardSaid : Prop := Claim7.holds Tryd.pinned (.plain (OpenSpec.ofChange prefixTellsSpec)) prefixTellsCard

/-- THE TIED CARD OF 'footplatelaw08.PrefixPairs'. -/
def prefixPairsCard : Claim7 := { stood := { row := prefixPairsRow, standIns := [], harness := (true, "474331f096ef148f14244b1e7d998ed5bcea11b0960f246c474094dafd211c14"), looks := false }, kinds := [], alts := [], laidByText := true, laidKinds := [.data, .data, .data], laidTests := true, laidLooks := .later }
def PrefixPairsCardSaid : Prop := Claim7.holds Tryd.pinned (.plain (OpenSpec.ofChange prefixPairsSpec)) prefixPairsCard

/-- THE TIED CARD OF 'footplatelaw08.PrefixParses'. -/
def prefixParsesCard : Claim7 := { stood := { row := prefixParsesRow, standIns := [], harness := (true, "474331f096ef148f14244b1e7d998ed5bcea11b0960f246c474094dafd211c14"), looks := false }, kinds := [], alts := [], laidByText := true, laidKinds := [.data, .data, .data], laidTests := true, laidLooks := .later }
def PrefixParsesCardSaid : Prop := Claim7.holds Tryd.pinned (.plain (OpenSpec.ofChange prefixParsesSpec)) prefixParsesCard

/-- THE TIED CARD OF 'footplatelaw08.PrefixApart'. -/
def prefixApartCard : Claim7 := { stood := { row := prefixApartRow, standIns := [], harness := (true, "474331f096ef148f14244b1e7d998ed5bcea11b0960f246c474094dafd211c14"), looks := false }, kinds := [], alts := [], laidByText := true, laidKinds := [.data, .data, .data], laidTests := true, laidLooks := .later }
def PrefixApartCardSaid : Prop := Claim7.holds Tryd.pinned (.plain (OpenSpec.ofChange prefixApartSpec)) prefixApartCard

/-- THE TIED CARD OF 'footplatelaw08.PrefixBack'. -/
def prefixBackCard : Claim7 := { stood := { row := prefixBackRow, standIns := [], harness := (true, "474331f096ef148f14244b1e7d998ed5bcea11b0960f246c474094dafd211c14"), looks := false }, kinds := [], alts := [], laidByText := true, laidKinds := [.data, .data, .data], laidTests := true, laidLooks := .later }
def PrefixBackCardSaid : Prop := Claim7.holds Tryd.pinned (.plain (OpenSpec.ofChange prefixBackSpec)) prefixBackCard

/-- THE TIED CARD OF 'footplatelaw08.PrefixMasks'. -/
def prefixMasksCard : Claim7 := { stood := { row := prefixMasksRow, standIns := [], harness := (true, "474331f096ef148f14244b1e7d998ed5bcea11b0960f246c474094dafd211c14"), looks := false }, kinds := [], alts := [], laidByText := true, laidKinds := [.data, .data, .data], laidTests := true, laidLooks := .later }
def PrefixMasksCardSaid : Prop := Claim7.holds Tryd.pinned (.plain (OpenSpec.ofChange prefixMasksSpec)) prefixMasksCard

/-- THE SECOND FORM's CARD OF 'footplatelaw08.PrefixTells'. -/
def prefixTellsUptoCard : Claim7 := { stood := { row := prefixTellsUptoRow, standIns := [], harness := (true, "474331f096ef148f14244b1e7d998ed5bcea11b0960f246c474094dafd211c14"), looks := false }, kinds := [], alts := [], laidByText := true, laidKinds := [.data, .data, .data], laidTests := true, laidLooks := .later }
def PrefixTellsUptoCardSaid : Prop := Claim7.holds Tryd.pinned (.plain (OpenSpec.upto prefixTellsSpec)) prefixTellsUptoCard

/-- THE SECOND FORM's CARD OF 'footplatelaw08.PrefixPairs'. -/
def prefixPairsUptoCard : Claim7 := { stood := { row := prefixPairsUptoRow, standIns := [], harness := (true, "474331f096ef148f14244b1e7d998ed5bcea11b0960f246c474094dafd211c14"), looks := false }, kinds := [], alts := [], laidByText := true, laidKinds := [.data, .data, .data], laidTests := true, laidLooks := .later }
def PrefixPairsUptoCardSaid : Prop := Claim7.holds Tryd.pinned (.plain (OpenSpec.upto prefixPairsSpec)) prefixPairsUptoCard

/-- THE SECOND FORM's CARD OF 'footplatelaw08.PrefixParses'. -/
def prefixParsesUptoCard : Claim7 := { stood := { row := prefixParsesUptoRow, standIns := [], harness := (true, "474331f096ef148f14244b1e7d998ed5bcea11b0960f246c474094dafd211c14"), looks := false }, kinds := [], alts := [], laidByText := true, laidKinds := [.data, .data, .data], laidTests := true, laidLooks := .later }
def PrefixParsesUptoCardSaid : Prop := Claim7.holds Tryd.pinned (.plain (OpenSpec.upto prefixParsesSpec)) prefixParsesUptoCard

/-- THE SECOND FORM's CARD OF 'footplatelaw08.PrefixApart'. -/
def prefixApartUptoCard : Claim7 := { stood := { row := prefixApartUptoRow, standIns := [], harness := (true, "474331f096ef148f14244b1e7d998ed5bcea11b0960f246c474094dafd211c14"), looks := false }, kinds := [], alts := [], laidByText := true, laidKinds := [.data, .data, .data], laidTests := true, laidLooks := .later }
def PrefixApartUptoCardSaid : Prop := Claim7.holds Tryd.pinned (.plain (OpenSpec.upto prefixApartSpec)) prefixApartUptoCard

/-- THE SECOND FORM's CARD OF 'footplatelaw08.PrefixBack'. -/
def prefixBackUptoCard : Claim7 := { stood := { row := prefixBackUptoRow, standIns := [], harness := (true, "474331f096ef148f14244b1e7d998ed5bcea11b0960f246c474094dafd211c14"), looks := false }, kinds := [], alts := [], laidByText := true, laidKinds := [.data, .data, .data], laidTests := true, laidLooks := .later }
def PrefixBackUptoCardSaid : Prop := Claim7.holds Tryd.pinned (.plain (OpenSpec.upto prefixBackSpec)) prefixBackUptoCard

/-- THE SECOND FORM's CARD OF 'footplatelaw08.PrefixMasks'. -/
def prefixMasksUptoCard : Claim7 := { stood := { row := prefixMasksUptoRow, standIns := [], harness := (true, "474331f096ef148f14244b1e7d998ed5bcea11b0960f246c474094dafd211c14"), looks := false }, kinds := [], alts := [], laidByText := true, laidKinds := [.data, .data, .data], laidTests := true, laidLooks := .later }
def PrefixMasksUptoCardSaid : Prop := Claim7.holds Tryd.pinned (.plain (OpenSpec.upto prefixMasksSpec)) prefixMasksUptoCard
end Rows
end Go.Proofs.YtlbgmpjeckigjaaDoor
