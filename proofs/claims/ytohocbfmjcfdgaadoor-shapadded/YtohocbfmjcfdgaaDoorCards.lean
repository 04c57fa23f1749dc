/-
  DERIVED. GIVEN WITH THE SEED: THE CARDS: each row of YtohocbfmjcfdgaaDoorRows.lean that lists a variable, with what it lists TIED to the program's text (the seventh form; the later family's looks); each row that meets fmt, with fmt's text TOLD by the authors' own Lean function (tested against real Go, not proved from fmt's source: count such statements apart). THE CARD IS WHAT COUNTS. Prove the row's statement (the work); the ties are given (YtohocbfmjcfdgaaDoorTie.lean); close each card by the builder's one call (the guide's Derived/Test/ToyasCard.lean, 'card_holds'). Laid BY PROGRAM, IN A SANDBOX (cutbox-door.mjs). By AI agents, Wed Nov 11 2026. No macro, syntax, notation, axiom, sorry.
-/
import Derived.Test.YtohocbfmjcfdgaaDoorRows
import GoSem.ClaimSeven
namespace Go.Proofs.YtohocbfmjcfdgaaDoor
namespace Rows

/-- THE TIED CARD OF 'montagelaw04.ShaKeys'. -/
def shaKeysCard : Claim7 := { stood := { row := shaKeysRow, standIns := [], harness := (true, "9d67285e5f2cf7f55b9e00282fbfef8e7e16302a112e3f7e900935948ac4c693"), looks := false }, kinds := [], alts := [], laidByText := true, laidKinds := [.data, .data], laidTests := true, laidLooks := .later }
def ShaKeysCardSaid : Prop := Claim7.holds Tryd.pinned (.plain (OpenSpec.ofChange shaKeysSpec)) shaKeysCard

/-- THE TIED CARD OF 'montagelaw04.ShaPadded'. -/
def shaPaddedCard : Claim7 := { stood := { row := shaPaddedRow, standIns := [], harness := (true, "9d67285e5f2cf7f55b9e00282fbfef8e7e16302a112e3f7e900935948ac4c693"), looks := false }, kinds := [], alts := [], laidByText := true, laidKinds := [.data, .data], laidTests := true, laidLooks := .later }
def ShaPaddedCardSaid : Prop := Claim7.holds Tryd.pinned (.plain (OpenSpec.ofChange shaPaddedSpec)) shaPaddedCard

/-- THE SECOND FORM's CARD OF 'montagelaw04.ShaKeys'. -/
def shaKeysUptoCard : Claim7 := { stood := { row := shaKeysUptoRow, standIns := [], harness := (true, "9d67285e5f2cf7f55b9e00282fbfef8e7e16302a112e3f7e900935948ac4c693"), looks := false }, kinds := [], alts := [], laidByText := true, laidKinds := [.data, .data], laidTests := true, laidLooks := .later }
def ShaKeysUptoCardSaid : Prop := Claim7.holds Tryd.pinned (.plain (OpenSpec.upto shaKeysSpec)) shaKeysUptoCard

/-- THE SECOND FORM's CARD OF 'montagelaw04.ShaPadded'. -/
def shaPaddedUptoCard : Claim7 := { stood := { row := shaPaddedUptoRow, standIns := [], harness := (true, "9d67285e5f2cf7f55b9e00282fbfef8e7e16302a112e3f7e900935948ac4c693"), looks := false }, kinds := [], alts := [], laidByText := true, laidKinds := [.data, .data], laidTests := true, laidLooks := .later }
def ShaPaddedUptoCardSaid : Prop := Claim7.holds Tryd.pinned (.plain (OpenSpec.upto shaPaddedSpec)) shaPaddedUptoCard
end Rows
end Go.Proofs.YtohocbfmjcfdgaaDoor
