/-
  DERIVED. GIVEN WITH THE SEED: THE CARDS: each row of YtackcgiokkbhdaaDoorRows.lean that lists a variable, with what it lists TIED to the program's text (the seventh form; the later family's looks); each row that meets fmt, with fmt's text TOLD by the authors' own Lean function (tested against real Go, not proved from fmt's source: count such statements apart). THE CARD IS WHAT COUNTS. Prove the row's statement (the work); the ties are given (YtackcgiokkbhdaaDoorTie.lean); close each card by the builder's one call (the guide's Derived/Test/ToyasCard.lean, 'card_holds'). Laid BY PROGRAM, IN A SANDBOX (cutbox-door.mjs). By AI agents, Wed Nov 11 2026. No macro, syntax, notation, axiom, sorry.
-/
import Derived.Test.YtackcgiokkbhdaaDoorRows
import GoSem.ClaimSeven
namespace Go.Proofs.YtackcgiokkbhdaaDoor
namespace Rows

/-- THE TIED CARD OF 'montagelaw08.InflateAny'. -/
def inflateAnyCard : Claim7 := { stood := { row := inflateAnyRow, standIns := [], harness := (true, "7e9529b60f96fc7d461a985fce3fe78e6a78ec1a88d8b20e942815d9f2a0a004"), looks := false }, kinds := [], alts := [], laidByText := true, laidKinds := [.data], laidTests := true, laidLooks := .later }
def InflateAnyCardSaid : Prop := Claim7.holds Tryd.pinned (.plain (OpenSpec.ofChange inflateAnySpec)) inflateAnyCard

/-- THE TIED CARD OF 'montagelaw08.InflateTokens'. -/
def inflateTokensCard : Claim7 := { stood := { row := inflateTokensRow, standIns := [], harness := (true, "7e9529b60f96fc7d461a985fce3fe78e6a78ec1a88d8b20e942815d9f2a0a004"), looks := false }, kinds := [], alts := [], laidByText := true, laidKinds := [.data], laidTests := true, laidLooks := .later }
def InflateTokensCardSaid : Prop := Claim7.holds Tryd.pinned (.plain (OpenSpec.ofChange inflateTokensSpec)) inflateTokensCard

/-- THE TIED CARD OF 'montagelaw08.InflateCut'. -/
def inflateCutCard : Claim7 := { stood := { row := inflateCutRow, standIns := [], harness := (true, "7e9529b60f96fc7d461a985fce3fe78e6a78ec1a88d8b20e942815d9f2a0a004"), looks := false }, kinds := [], alts := [], laidByText := true, laidKinds := [.data], laidTests := true, laidLooks := .later }
def InflateCutCardSaid : Prop := Claim7.holds Tryd.pinned (.plain (OpenSpec.ofChange inflateCutSpec)) inflateCutCard

/-- THE SECOND FORM's CARD OF 'montagelaw08.InflateAny'. -/
def inflateAnyUptoCard : Claim7 := { stood := { row := inflateAnyUptoRow, standIns := [], harness := (true, "7e9529b60f96fc7d461a985fce3fe78e6a78ec1a88d8b20e942815d9f2a0a004"), looks := false }, kinds := [], alts := [], laidByText := true, laidKinds := [.data], laidTests := true, laidLooks := .later }
def InflateAnyUptoCardSaid : Prop := Claim7.holds Tryd.pinned (.plain (OpenSpec.upto inflateAnySpec)) inflateAnyUptoCard

/-- THE SECOND FORM's CARD OF 'montagelaw08.InflateTokens'. -/
def inflateTokensUptoCard : Claim7 := { stood := { row := inflateTokensUptoRow, standIns := [], harness := (true, "7e9529b60f96fc7d461a985fce3fe78e6a78ec1a88d8b20e942815d9f2a0a004"), looks := false }, kinds := [], alts := [], laidByText := true, laidKinds := [.data], laidTests := true, laidLooks := .later }
def InflateTokensUptoCardSaid : Prop := Claim7.holds Tryd.pinned (.plain (OpenSpec.upto inflateTokensSpec)) inflateTokensUptoCard

/-- THE SECOND FORM's CARD OF 'montagelaw08.InflateCut'. -/
def inflateCutUptoCard : Claim7 := { stood := { row := inflateCutUptoRow, standIns := [], harness := (true, "7e9529b60f96fc7d461a985fce3fe78e6a78ec1a88d8b20e942815d9f2a0a004"), looks := false }, kinds := [], alts := [], laidByText := true, laidKinds := [.data], laidTests := true, laidLooks := .later }
def InflateCutUptoCardSaid : Prop := Claim7.holds Tryd.pinned (.plain (OpenSpec.upto inflateCutSpec)) inflateCutUptoCard
end Rows
end Go.Proofs.YtackcgiokkbhdaaDoor
