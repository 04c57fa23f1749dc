/- Layer 15, the law's helper: what a deed makes of nodes. -/
import Derived.Test.YtaeaomlhbdbbfaaDoorTnR
import Derived.Test.YtaeaomlhbdbbfaaDoorTnI
namespace Go.Proofs.YtaeaomlhbdbbfaaDoor
open Go.RowKit

/-- A deed as a value. -/
abbrev ddV (d : Dd) : Value := .agg #[.int .u8 d.k, .string (tx d.n.path), .bool d.n.dir, .string (tx d.n.data), .int .i64 d.n.mode, .int .i64 d.n.time]
/-- What a deed hands back: nodes, and a number. -/
def DoneP (w : World) (A0 : Option Addr) (ps : List Nd) (m : Int) (e : Ending) (w' : World) : Prop := ∃ A c B, e = .returned (.tuple #[.slice A ps.length c, .int .i64 m]) ∧ See w' B A (nds ps) ∧ ps.length ≤ c ∧ Only (fun _ => False) w w' ∧ ∀ j, Lies A j → Lies A0 j ∨ (w.heap.size ≤ j ∧ j < w'.heap.size)
end Go.Proofs.YtaeaomlhbdbbfaaDoor
