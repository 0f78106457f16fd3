/-
  DERIVED. GIVEN WITH THE SEED: THE CARDS: each row of YthmpkejdficmgaaDoorRows.lean that lists a variable, with what it lists TIED to the program's text (the seventh form; the later family's looks); each row that meets fmt, with fmt's text TOLD by the authors' own Lean function (tested against real Go, not proved from fmt's source: count such statements apart). THE CARD IS WHAT COUNTS. Prove the row's statement (the work); the ties are given (YthmpkejdficmgaaDoorTie.lean); close each card by the builder's one call (the guide's Derived/Test/ToyasCard.lean, 'card_holds'). Laid BY PROGRAM, IN A SANDBOX (cutbox-door.mjs). By AI agents, Wed Nov 11 2026. No macro, syntax, notation, axiom, sorry.
-/
import Derived.Test.YthmpkejdficmgaaDoorRows
import GoSem.ClaimSeven
namespace Go.Proofs.YthmpkejdficmgaaDoor
namespace Rows

/-- THE TIED CARD OF 'pochoirlaw02.BigSums'. -/
def bigSumsCard : Claim7 := { stood := { row := bigSumsRow, standIns := [], harness := (true, "663de95a76a66269ff48224f5c84205d81e78a175695fb9aa61ef280a977a55a"), looks := false }, kinds := [], alts := [], laidByText := true, laidKinds := [.data, .data, .data], laidTests := true, laidLooks := .later }
def BigSumsCardSaid : Prop := Claim7.holds Tryd.pinned (.plain (OpenSpec.ofChange bigSumsSpec)) bigSumsCard

/-- THE TIED CARD OF 'pochoirlaw02.BigSmall'. -/
def bigSmallCard : Claim7 := { stood := { row := bigSmallRow, standIns := [], harness := (true, "663de95a76a66269ff48224f5c84205d81e78a175695fb9aa61ef280a977a55a"), looks := false }, kinds := [], alts := [], laidByText := true, laidKinds := [.data, .data, .data], laidTests := true, laidLooks := .later }
def BigSmallCardSaid : Prop := Claim7.holds Tryd.pinned (.plain (OpenSpec.ofChange bigSmallSpec)) bigSmallCard

/-- THE TIED CARD OF 'pochoirlaw02.BigBack'. -/
def bigBackCard : Claim7 := { stood := { row := bigBackRow, standIns := [], harness := (true, "663de95a76a66269ff48224f5c84205d81e78a175695fb9aa61ef280a977a55a"), looks := false }, kinds := [], alts := [], laidByText := true, laidKinds := [.data, .data, .data], laidTests := true, laidLooks := .later }
def BigBackCardSaid : Prop := Claim7.holds Tryd.pinned (.plain (OpenSpec.ofChange bigBackSpec)) bigBackCard

/-- THE TIED CARD OF 'pochoirlaw02.BigAny'. -/
def bigAnyCard : Claim7 := { stood := { row := bigAnyRow, standIns := [], harness := (true, "663de95a76a66269ff48224f5c84205d81e78a175695fb9aa61ef280a977a55a"), looks := false }, kinds := [], alts := [], laidByText := true, laidKinds := [.data, .data, .data], laidTests := true, laidLooks := .later }
def BigAnyCardSaid : Prop := Claim7.holds Tryd.pinned (.plain (OpenSpec.ofChange bigAnySpec)) bigAnyCard

/-- THE TIED CARD OF 'pochoirlaw02.BigParts'. -/
def bigPartsCard : Claim7 := { stood := { row := bigPartsRow, standIns := [], harness := (true, "663de95a76a66269ff48224f5c84205d81e78a175695fb9aa61ef280a977a55a"), looks := false }, kinds := [], alts := [], laidByText := true, laidKinds := [.data, .data, .data], laidTests := true, laidLooks := .later }
def BigPartsCardSaid : Prop := Claim7.holds Tryd.pinned (.plain (OpenSpec.ofChange bigPartsSpec)) bigPartsCard

/-- THE SECOND FORM's CARD OF 'pochoirlaw02.BigSums'. -/
def bigSumsUptoCard : Claim7 := { stood := { row := bigSumsUptoRow, standIns := [], harness := (true, "663de95a76a66269ff48224f5c84205d81e78a175695fb9aa61ef280a977a55a"), looks := false }, kinds := [], alts := [], laidByText := true, laidKinds := [.data, .data, .data], laidTests := true, laidLooks := .later }
def BigSumsUptoCardSaid : Prop := Claim7.holds Tryd.pinned (.plain (OpenSpec.upto bigSumsSpec)) bigSumsUptoCard

/-- THE SECOND FORM's CARD OF 'pochoirlaw02.BigSmall'. -/
def bigSmallUptoCard : Claim7 := { stood := { row := bigSmallUptoRow, standIns := [], harness := (true, "663de95a76a66269ff48224f5c84205d81e78a175695fb9aa61ef280a977a55a"), looks := false }, kinds := [], alts := [], laidByText := true, laidKinds := [.data, .data, .data], laidTests := true, laidLooks := .later }
def BigSmallUptoCardSaid : Prop := Claim7.holds Tryd.pinned (.plain (OpenSpec.upto bigSmallSpec)) bigSmallUptoCard

/-- THE SECOND FORM's CARD OF 'pochoirlaw02.BigBack'. -/
def bigBackUptoCard : Claim7 := { stood := { row := bigBackUptoRow, standIns := [], harness := (true, "663de95a76a66269ff48224f5c84205d81e78a175695fb9aa61ef280a977a55a"), looks := false }, kinds := [], alts := [], laidByText := true, laidKinds := [.data, .data, .data], laidTests := true, laidLooks := .later }
def BigBackUptoCardSaid : Prop := Claim7.holds Tryd.pinned (.plain (OpenSpec.upto bigBackSpec)) bigBackUptoCard

/-- THE SECOND FORM's CARD OF 'pochoirlaw02.BigAny'. -/
def bigAnyUptoCard : Claim7 := { stood := { row := bigAnyUptoRow, standIns := [], harness := (true, "663de95a76a66269ff48224f5c84205d81e78a175695fb9aa61ef280a977a55a"), looks := false }, kinds := [], alts := [], laidByText := true, laidKinds := [.data, .data, .data], laidTests := true, laidLooks := .later }
def BigAnyUptoCardSaid : Prop := Claim7.holds Tryd.pinned (.plain (OpenSpec.upto bigAnySpec)) bigAnyUptoCard

/-- THE SECOND FORM's CARD OF 'pochoirlaw02.BigParts'. -/
def bigPartsUptoCard : Claim7 := { stood := { row := bigPartsUptoRow, standIns := [], harness := (true, "663de95a76a66269ff48224f5c84205d81e78a175695fb9aa61ef280a977a55a"), looks := false }, kinds := [], alts := [], laidByText := true, laidKinds := [.data, .data, .data], laidTests := true, laidLooks := .later }
def BigPartsUptoCardSaid : Prop := Claim7.holds Tryd.pinned (.plain (OpenSpec.upto bigPartsSpec)) bigPartsUptoCard
end Rows
end Go.Proofs.YthmpkejdficmgaaDoor
