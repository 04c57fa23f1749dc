/- The order of paths: one, and strict. -/
import Derived.Test.YtmdfkchgklphlaaRpA
namespace Go.Proofs.Ytmdfkchgklphlaa
open Go.RowKit

theorem cmp_eq : ∀ a b : List (List UInt8), cmpF a b = 0 → a = b
  | [], [], _ => rfl
  | [], _ :: _, h => by cases h
  | _ :: _, [], h => by cases h
  | x :: a, y :: b, h => by
    rw [cmpF] at h
    by_cases h1 : Op.bytesLess x y = true
    · rw [if_pos h1] at h
      cases h
    · rw [if_neg h1] at h
      by_cases h2 : x = y
      · rw [if_pos h2] at h
        rw [h2, cmp_eq a b h]
      · rw [if_neg h2] at h
        cases h
theorem parts_inj {a b : List UInt8} (h : partsF a = partsF b) : a = b := by
  unfold partsF at h
  by_cases ha : a = []
  · rw [if_pos ha] at h
    by_cases hb : b = []
    · rw [ha, hb]
    · rw [if_neg hb] at h
      exact (split_ne b h.symm).elim
  · rw [if_neg ha] at h
    by_cases hb : b = []
    · rw [if_pos hb] at h
      exact (split_ne a h).elim
    · rw [if_neg hb] at h
      rw [← join_split a, h, join_split]
theorem cmp_path {a b : List UInt8} : cmpF (partsF a) (partsF b) = 0 ↔ a = b := ⟨fun h => parts_inj (cmp_eq _ _ h), fun h => by rw [h]; exact cmp_refl _⟩
/-- a stands ahead of b. -/
def lessP (a b : List UInt8) : Prop := cmpF (partsF a) (partsF b) < 0
theorem less_trans {a b c : List UInt8} (h1 : lessP a b) (h2 : lessP b c) : lessP a c := (cmp_trans _ _ _ (Int.le_of_lt h1) (Int.le_of_lt h2)).2 h1
theorem less_irrefl (a : List UInt8) : ¬ lessP a a := fun h => by
  have h1 : cmpF (partsF a) (partsF a) < 0 := h
  rw [cmp_refl] at h1
  omega
theorem less_cases (a b : List UInt8) : lessP a b ∨ a = b ∨ lessP b a := by
  rcases cmp_vals (partsF a) (partsF b) with h | h | h
  · exact .inl (by show _ < 0; omega)
  · exact .inr (.inl (cmp_path.1 h))
  · refine .inr (.inr ?_)
    show cmpF (partsF b) (partsF a) < 0
    rw [cmp_anti]
    omega
theorem less_not {a b : List UInt8} (h : lessP a b) : ¬ lessP b a := fun g => less_irrefl a (less_trans h g)
end Go.Proofs.Ytmdfkchgklphlaa
