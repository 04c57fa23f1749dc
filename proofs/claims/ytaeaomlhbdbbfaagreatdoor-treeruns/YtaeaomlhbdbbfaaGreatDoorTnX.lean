/- Layer 15, the laws: whether nodes make a tree. -/
import Derived.Test.YtaeaomlhbdbbfaaGreatDoorTnV
namespace Go.Proofs.YtaeaomlhbdbbfaaGreatDoor
open Go.RowKit
variable {G : World → Prop} {T : Value → List Nd → (Nat → Prop) → World → Prop}

end Go.Proofs.YtaeaomlhbdbbfaaGreatDoor
