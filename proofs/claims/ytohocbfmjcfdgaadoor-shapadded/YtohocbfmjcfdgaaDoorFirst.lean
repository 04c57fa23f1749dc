/- A region that draws its order: operations that yield the same in whatever world, in the order of the text; then the rest, whose order is forced. Over any program. -/
import Derived.Test.YtohocbfmjcfdgaaDoorKeep
import Derived.StillTail
namespace Go.Proofs.YtohocbfmjcfdgaaDoor
open Go.RowKit

section
variable {P : Program} {ops : Array Oper}
/-- One after the other, each yields its value in whatever world. -/
def InTurn (P : Program) (ops : Array Oper) (T : Act → Prop) : List Oper → Act → Prop
  | [], a => T a
  | o :: rest, a => ∃ v, Yields P ops o v a ∧ InTurn P ops T rest (a.put o.dst v)
theorem InTurn.cons {T : Act → Prop} {o : Oper} {rest : List Oper} {a : Act} {v : Value} (hw : Region.wanted o (yielded ops a.tmps) = true) (hy : ∀ W : World, (execOp a.eval o).run P W = .ok (.value v) W) (h : InTurn P ops T rest (a.put o.dst v)) :
    InTurn P ops T (o :: rest) a := ⟨v, .inl ⟨hw, hy⟩, h⟩
theorem InTurn.step {T : Act → Prop} {o : Oper} {rest : List Oper} {a : Act} (h : ∃ v, Yields P ops o v a ∧ InTurn P ops T rest (a.put o.dst v)) : InTurn P ops T (o :: rest) a := h
theorem InTurn.nil {T : Act → Prop} {a : Act} (h : T a) : InTurn P ops T [] a := h

theorem InTurn.any {Q : Exit → Act → World → Prop} {w : World} {tail : List Oper} {n : Nat} (hs : Region.noSelect ops = true) (hQ : ∀ c a d v w, Q (.panic c) (Act.put a d v) w → Q (.panic c) a w)
    (ht : ∀ j, tail[j]? = ops[n + j]?) : ∀ (l : List Oper) (k : Nat) (listed : Array Bool) (a : Act), (∀ j, j < l.length → l[j]? = ops[k + j]?) → k + l.length = n →
    Region.lexHead .any ops tail.length l.length k listed = true → InTurn P ops (fun a' => wpList P ops Q tail a' w) l a → wpAny P .any ops Q (l.length + tail.length) listed a w
  | [], k, listed, a, _, hk, hB, h => by
    obtain rfl : k = n := by simpa using hk
    rw [List.length_nil, Nat.zero_add]
    exact wpAny_of_seq tail k listed a w ht (by simpa [Region.lexHead] using hB) h
  | o :: l, k, listed, a, hl, hk, hB, h => by
    obtain ⟨v, hy, h⟩ := h
    have h0 : ops[k]? = some o := by
      have := hl 0 (by simp)
      simpa using this.symm
    simp only [List.length_cons, Region.lexHead, Bool.and_eq_true] at hB
    rw [List.length_cons, Nat.add_right_comm]
    refine wpAny_take h0 hs hB.1.2 hB.1.1 (fun c a w => hQ c a _ v w) hy (InTurn.any hs hQ ht l (k + 1) _ _ (fun j hj => ?_) (by simp only [List.length_cons] at hk; omega) hB.2 h)
    have := hl (j + 1) (by simp; omega)
    rw [List.getElem?_cons_succ] at this
    rw [this]
    congr 1
    omega

theorem InTurn.region {id : Nat} {Q : Exit → Act → World → Prop} {a : Act} {w : World} {l : List Oper} (n : Nat) (hn : n ≤ l.length) (hm : P.follows .mixedOrders = true) (hs : Region.noSelect l.toArray = true)
    (hB : Region.lexHead .any l.toArray (l.length - n) n 0 (Array.replicate l.toArray.size false) = true) (hQ : ∀ c a d v w, Q (.panic c) (Act.put a d v) w → Q (.panic c) a w)
    (h : InTurn P l.toArray (fun a' => wpList P l.toArray Q (l.drop n) a' w.drew) (l.take n) a) : (Code.region id l.toArray true).wp P Q a w := by
  refine wp_region_any hm ?_
  have e1 : (l.take n).length = n := by simp; omega
  have e2 : (l.drop n).length = l.length - n := by simp
  have := InTurn.any (P := P) (ops := l.toArray) (Q := Q) (w := w.drew) (tail := l.drop n) (n := n) hs hQ (fun j => by simp) (l.take n) 0 (Array.replicate l.toArray.size false) a
    (fun j hj => by rw [e1] at hj; simp [hj]) (by omega) (by rw [e1, e2]; exact hB) h
  have e : l.toArray.size = (l.take n).length + (l.drop n).length := by simp; omega
  rw [e] at this ⊢
  exact this
end
end Go.Proofs.YtohocbfmjcfdgaaDoor
