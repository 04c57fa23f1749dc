/-
  DERIVED. GIVEN WITH THE SEED: THE CARDS: each row of YtaeaomlhbdbbfaaDoorRows.lean that lists a variable, with what it lists TIED to the program's text (the seventh form; the later family's looks); each row that meets fmt, with fmt's text TOLD by the authors' own Lean function (tested against real Go, not proved from fmt's source: count such statements apart). THE CARD IS WHAT COUNTS. Prove the row's statement (the work); the ties are given (YtaeaomlhbdbbfaaDoorTie.lean); close each card by the builder's one call (the guide's Derived/Test/ToyasCard.lean, 'card_holds'). Laid BY PROGRAM, IN A SANDBOX (cutbox-door.mjs). By AI agents, Wed Nov 11 2026. No macro, syntax, notation, axiom, sorry.
-/
import Derived.Test.YtaeaomlhbdbbfaaDoorRows
import GoSem.ClaimSeven
namespace Go.Proofs.YtaeaomlhbdbbfaaDoor
namespace Rows

/-- THE TIED CARD OF 'montagelaw15.TreeChecks'. -/
def treeChecksCard : Claim7 := { stood := { row := treeChecksRow, standIns := [], harness := (true, "07ddc9b47613e98805ab220b6d20192d4f86d7d7a3130d11de63b1116492aa9f"), looks := false }, kinds := [], alts := [], laidByText := true, laidKinds := [.data, .data, .pinned], laidTests := true, laidLooks := .later }
def TreeChecksCardSaid : Prop := Claim7.holds Tryd.pinned (.plain (OpenSpec.ofChange treeChecksSpec)) treeChecksCard

/-- THE TIED CARD OF 'montagelaw15.TreeForm'. -/
def treeFormCard : Claim7 := { stood := { row := treeFormRow, standIns := [], harness := (true, "07ddc9b47613e98805ab220b6d20192d4f86d7d7a3130d11de63b1116492aa9f"), looks := false }, kinds := [], alts := [], laidByText := true, laidKinds := [.data, .data, .pinned], laidTests := true, laidLooks := .later }
def TreeFormCardSaid : Prop := Claim7.holds Tryd.pinned (.plain (OpenSpec.ofChange treeFormSpec)) treeFormCard

/-- THE TIED CARD OF 'montagelaw15.TreeNone'. -/
def treeNoneCard : Claim7 := { stood := { row := treeNoneRow, standIns := [], harness := (true, "07ddc9b47613e98805ab220b6d20192d4f86d7d7a3130d11de63b1116492aa9f"), looks := false }, kinds := [], alts := [], laidByText := true, laidKinds := [.data, .data, .pinned], laidTests := true, laidLooks := .later }
def TreeNoneCardSaid : Prop := Claim7.holds Tryd.pinned (.plain (OpenSpec.ofChange treeNoneSpec)) treeNoneCard

/-- THE SECOND FORM's CARD OF 'montagelaw15.TreeChecks'. -/
def treeChecksUptoCard : Claim7 := { stood := { row := treeChecksUptoRow, standIns := [], harness := (true, "07ddc9b47613e98805ab220b6d20192d4f86d7d7a3130d11de63b1116492aa9f"), looks := false }, kinds := [], alts := [], laidByText := true, laidKinds := [.data, .data, .pinned], laidTests := true, laidLooks := .later }
def TreeChecksUptoCardSaid : Prop := Claim7.holds Tryd.pinned (.plain (OpenSpec.upto treeChecksSpec)) treeChecksUptoCard

/-- THE SECOND FORM's CARD OF 'montagelaw15.TreeForm'. -/
def treeFormUptoCard : Claim7 := { stood := { row := treeFormUptoRow, standIns := [], harness := (true, "07ddc9b47613e98805ab220b6d20192d4f86d7d7a3130d11de63b1116492aa9f"), looks := false }, kinds := [], alts := [], laidByText := true, laidKinds := [.data, .data, .pinned], laidTests := true, laidLooks := .later }
def TreeFormUptoCardSaid : Prop := Claim7.holds Tryd.pinned (.plain (OpenSpec.upto treeFormSpec)) treeFormUptoCard

/-- THE SECOND FORM's CARD OF 'montagelaw15.TreeNone'. -/
def treeNoneUptoCard : Claim7 := { stood := { row := treeNoneUptoRow, standIns := [], harness := (true, "07ddc9b47613e98805ab220b6d20192d4f86d7d7a3130d11de63b1116492aa9f"), looks := false }, kinds := [], alts := [], laidByText := true, laidKinds := [.data, .data, .pinned], laidTests := true, laidLooks := .later }
def TreeNoneUptoCardSaid : Prop := Claim7.holds Tryd.pinned (.plain (OpenSpec.upto treeNoneSpec)) treeNoneUptoCard
end Rows
end Go.Proofs.YtaeaomlhbdbbfaaDoor
