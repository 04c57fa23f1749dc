/-
  DERIVED. GIVEN WITH THE SEED: THE CARDS: each row of YtaeaomlhbdbbfaaGreatDoorRows.lean that lists a variable, with what it lists TIED to the program's text (the seventh form; the later family's looks); each row that meets fmt, with fmt's text TOLD by the authors' own Lean function (tested against real Go, not proved from fmt's source: count such statements apart). THE CARD IS WHAT COUNTS. Prove the row's statement (the work); the ties are given (YtaeaomlhbdbbfaaGreatDoorTie.lean); close each card by the builder's one call (the guide's Derived/Test/ToyasCard.lean, 'card_holds'). Laid BY PROGRAM, IN A SANDBOX (cutbox-door.mjs). By AI agents, Wed Nov 11 2026. No macro, syntax, notation, axiom, sorry.
-/
import Derived.Test.YtaeaomlhbdbbfaaGreatDoorRows
import GoSem.ClaimSeven
namespace Go.Proofs.YtaeaomlhbdbbfaaGreatDoor
namespace Rows

/-- THE TIED CARD OF 'montagelaw15.TreeRuns'. -/
def treeRunsCard : Claim7 := { stood := { row := treeRunsRow, standIns := [], harness := (true, "5bf9b0d7e2f8955782b4c318e0e313220df3f31e977dfeb08e12b5e544930c84"), looks := false }, kinds := [], alts := [], laidByText := true, laidKinds := [.data, .data, .pinned], laidTests := true, laidLooks := .later }
def TreeRunsCardSaid : Prop := Claim7.holds Tryz.pinned (.plain (OpenSpec.ofChange treeRunsSpec)) treeRunsCard

/-- THE SECOND FORM's CARD OF 'montagelaw15.TreeRuns'. -/
def treeRunsUptoCard : Claim7 := { stood := { row := treeRunsUptoRow, standIns := [], harness := (true, "5bf9b0d7e2f8955782b4c318e0e313220df3f31e977dfeb08e12b5e544930c84"), looks := false }, kinds := [], alts := [], laidByText := true, laidKinds := [.data, .data, .pinned], laidTests := true, laidLooks := .later }
def TreeRunsUptoCardSaid : Prop := Claim7.holds Tryz.pinned (.plain (OpenSpec.upto treeRunsSpec)) treeRunsUptoCard
end Rows
end Go.Proofs.YtaeaomlhbdbbfaaGreatDoor
