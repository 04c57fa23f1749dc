/-
  DERIVED. GIVEN WITH THE SEED: THE CARDS: each row of YtgjkfplfmkcjdaaDoorRows.lean that lists a variable, with what it lists TIED to the program's text (the seventh form; the later family's looks); each row that meets fmt, with fmt's text TOLD by the authors' own Lean function (tested against real Go, not proved from fmt's source: count such statements apart). THE CARD IS WHAT COUNTS. Prove the row's statement (the work); the ties are given (YtgjkfplfmkcjdaaDoorTie.lean); close each card by the builder's one call (the guide's Derived/Test/ToyasCard.lean, 'card_holds'). Laid BY PROGRAM, IN A SANDBOX (cutbox-door.mjs). By AI agents, Wed Nov 11 2026. No macro, syntax, notation, axiom, sorry.
-/
import Derived.Test.YtgjkfplfmkcjdaaDoorRows
import GoSem.ClaimSeven
namespace Go.Proofs.YtgjkfplfmkcjdaaDoor
namespace Rows

/-- THE TIED CARD OF 'montagelaw03.CrcOf'. -/
def crcOfCard : Claim7 := { stood := { row := crcOfRow, standIns := [], harness := (true, "c12b67960d3d386d576b4de652f8cef9f555cd21efd54ea366a882ac682754f4"), looks := false }, kinds := [], alts := [], laidByText := true, laidKinds := [.data], laidTests := true, laidLooks := .later }
def CrcOfCardSaid : Prop := Claim7.holds Tryd.pinned (.plain (OpenSpec.ofChange crcOfSpec)) crcOfCard

/-- THE TIED CARD OF 'montagelaw03.CrcJoins'. -/
def crcJoinsCard : Claim7 := { stood := { row := crcJoinsRow, standIns := [], harness := (true, "c12b67960d3d386d576b4de652f8cef9f555cd21efd54ea366a882ac682754f4"), looks := false }, kinds := [], alts := [], laidByText := true, laidKinds := [.data], laidTests := true, laidLooks := .later }
def CrcJoinsCardSaid : Prop := Claim7.holds Tryd.pinned (.plain (OpenSpec.ofChange crcJoinsSpec)) crcJoinsCard

/-- THE TIED CARD OF 'montagelaw03.CrcTurned'. -/
def crcTurnedCard : Claim7 := { stood := { row := crcTurnedRow, standIns := [], harness := (true, "c12b67960d3d386d576b4de652f8cef9f555cd21efd54ea366a882ac682754f4"), looks := false }, kinds := [], alts := [], laidByText := true, laidKinds := [.data], laidTests := true, laidLooks := .later }
def CrcTurnedCardSaid : Prop := Claim7.holds Tryd.pinned (.plain (OpenSpec.ofChange crcTurnedSpec)) crcTurnedCard

/-- THE SECOND FORM's CARD OF 'montagelaw03.CrcOf'. -/
def crcOfUptoCard : Claim7 := { stood := { row := crcOfUptoRow, standIns := [], harness := (true, "c12b67960d3d386d576b4de652f8cef9f555cd21efd54ea366a882ac682754f4"), looks := false }, kinds := [], alts := [], laidByText := true, laidKinds := [.data], laidTests := true, laidLooks := .later }
def CrcOfUptoCardSaid : Prop := Claim7.holds Tryd.pinned (.plain (OpenSpec.upto crcOfSpec)) crcOfUptoCard

/-- THE SECOND FORM's CARD OF 'montagelaw03.CrcJoins'. -/
def crcJoinsUptoCard : Claim7 := { stood := { row := crcJoinsUptoRow, standIns := [], harness := (true, "c12b67960d3d386d576b4de652f8cef9f555cd21efd54ea366a882ac682754f4"), looks := false }, kinds := [], alts := [], laidByText := true, laidKinds := [.data], laidTests := true, laidLooks := .later }
def CrcJoinsUptoCardSaid : Prop := Claim7.holds Tryd.pinned (.plain (OpenSpec.upto crcJoinsSpec)) crcJoinsUptoCard

/-- THE SECOND FORM's CARD OF 'montagelaw03.CrcTurned'. -/
def crcTurnedUptoCard : Claim7 := { stood := { row := crcTurnedUptoRow, standIns := [], harness := (true, "c12b67960d3d386d576b4de652f8cef9f555cd21efd54ea366a882ac682754f4"), looks := false }, kinds := [], alts := [], laidByText := true, laidKinds := [.data], laidTests := true, laidLooks := .later }
def CrcTurnedUptoCardSaid : Prop := Claim7.holds Tryd.pinned (.plain (OpenSpec.upto crcTurnedSpec)) crcTurnedUptoCard
end Rows
end Go.Proofs.YtgjkfplfmkcjdaaDoor
