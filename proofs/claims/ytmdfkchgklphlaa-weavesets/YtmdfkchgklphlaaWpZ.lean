/- Layer 16: the two laws, of the landed code. -/
import Derived.Test.YtmdfkchgklphlaaWpX
import Derived.Test.YtmdfkchgklphlaaWvV
import Derived.Test.YtmdfkchgklphlaaWvO
namespace Go.Proofs.Ytmdfkchgklphlaa
open Go.RowKit

theorem weaveTellsZ (A : Option Addr) (n c : Nat) (rs : List TRow) (k : Int) (w : World) (hn : rs.length = n) (h : Rows2 w w.heap.size A rs) (h0 : 0 ≤ k) (h1 : k ≤ 255) : Calls Try.prog 3 #[.slice A n c, .int .u8 k] w fun e w' => e = .returned (.bool true) ∧ Only (fun _ => False) w w' := by
  obtain ⟨q, rfl⟩ : ∃ q : Nat, k = q := ⟨k.toNat, by omega⟩
  exact weaveTellsWalk wvc A n c w.heap.size rs q w trivial h hn (Nat.le_refl _) (by omega)
theorem weaveSetsZ (A : Option Addr) (n c : Nat) (rs : List TRow) (w : World) (hn : rs.length = n) (h : Rows2 w w.heap.size A rs) : Calls Try.prog 4 #[.slice A n c] w fun e w' => e = .returned (.bool true) ∧ Only (fun _ => False) w w' :=
  weaveSetsWalk wvc A n c w.heap.size rs w trivial h hn
end Go.Proofs.Ytmdfkchgklphlaa
