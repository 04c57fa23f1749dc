/- Layer 13, the document: what is under what, and the order. -/
import Derived.Test.YtmdcnkcbieifpaaDoorRtB
import Derived.Laws.Cover1
namespace Go.Proofs.YtmdcnkcbieifpaaDoor
open Go.RowKit

theorem cmp_step (a b : List (List UInt8)) (i : Nat) (ha : i < a.length) (hb : i < b.length) :
    cmpF (a.drop i) (b.drop i) = if Op.bytesLess (a.getD i []) (b.getD i []) = true then -1 else if a.getD i [] = b.getD i [] then cmpF (a.drop (i + 1)) (b.drop (i + 1)) else 1 := by
  rw [List.drop_eq_getElem_cons ha, List.drop_eq_getElem_cons hb, List.getD_eq_getElem?_getD, List.getElem?_eq_getElem ha, List.getD_eq_getElem?_getD, List.getElem?_eq_getElem hb]
  rfl
theorem cmp_end (a b : List (List UInt8)) (i : Nat) (h : ¬ (i < a.length ∧ i < b.length)) (ha : i ≤ a.length) (hb : i ≤ b.length) :
    cmpF (a.drop i) (b.drop i) = if a.length < b.length then -1 else if b.length < a.length then 1 else 0 := by
  by_cases h1 : i < a.length
  · have h2 : b.drop i = [] := List.drop_of_length_le (by omega)
    rw [h2, List.drop_eq_getElem_cons h1, cmpF, if_neg (by omega), if_pos (by omega)]
  · have h2 : a.drop i = [] := List.drop_of_length_le (by omega)
    by_cases h3 : i < b.length
    · rw [h2, List.drop_eq_getElem_cons h3, cmpF, if_pos (by omega)]
    · have h4 : b.drop i = [] := List.drop_of_length_le (by omega)
      rw [h2, h4, cmpF, if_neg (by omega), if_neg (by omega)]
theorem under_step (a b : List (List UInt8)) (i : Nat) (ha : i < a.length) (hb : i < b.length) (h : a.take i = b.take i) : a.take (i + 1) = b.take (i + 1) ↔ a.getD i [] = b.getD i [] := by
  rw [getD_take_snoc [] a i ha, getD_take_snoc [] b i hb, h]
  constructor
  · intro e
    have := List.append_cancel_left e
    simpa using this
  · intro e
    rw [e]
theorem under_no (a b : List (List UInt8)) (i : Nat) (ha : b.length < a.length) (hb : i < b.length) (h : a.take i = b.take i) (hne : ¬ a.getD i [] = b.getD i []) : underF a b = false := by
  unfold underF
  rw [decide_eq_true ha, Bool.true_and, beq_eq_false_iff_ne]
  intro e
  have e2 : a.take (i + 1) = b.take (i + 1) := by
    have := congrArg (List.take (i + 1)) e
    rw [List.take_take, Nat.min_eq_left (by omega)] at this
    exact this
  exact hne ((under_step a b i (by omega) hb h).1 e2)
end Go.Proofs.YtmdcnkcbieifpaaDoor
