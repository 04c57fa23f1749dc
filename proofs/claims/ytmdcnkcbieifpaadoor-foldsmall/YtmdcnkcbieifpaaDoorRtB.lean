/- Layer 13, the document: parts joined, parents, names, what is under what, and the order. -/
import Derived.Test.YtmdcnkcbieifpaaDoorRtA
namespace Go.Proofs.YtmdcnkcbieifpaaDoor
open Go.RowKit

theorem getD_take_snoc {α : Type} (d : α) (l : List α) (i : Nat) (h : i < l.length) : l.take (i + 1) = l.take i ++ [l.getD i d] := by
  rw [List.take_add_one, List.getD_eq_getElem?_getD, List.getElem?_eq_getElem h]
  rfl
/-- One text behind the other. -/
theorem add_tx {P : Program} (a b : List UInt8) (ha : a.length ≤ 4000000000) (hb : b.length ≤ 4000000000) : ∀ w : World, (Op.stringOp .add (tx a) (tx b)).run P w = .ok (.string (tx (a ++ b))) w := fun w => by
  rw [← tx_add]
  exact run_string_add_sum w (tx a) (tx b) (by rw [tx_size, tx_size]; omega)
theorem toList_tx (l : List UInt8) : (tx l).toList = l := tx_toList l
/-- A byte of a text. -/
theorem tx_byte (l : List UInt8) (i : Nat) (h : i < (tx l).size) : (tx l)[i]'h = l.getD i 0 := byte_is (tx l) i h

end Go.Proofs.YtmdcnkcbieifpaaDoor
