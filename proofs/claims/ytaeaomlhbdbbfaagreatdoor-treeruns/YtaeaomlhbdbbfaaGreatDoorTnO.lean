/- Layer 15 in plain words: the order of paths and their parents. -/
import Derived.Test.YtaeaomlhbdbbfaaGreatDoorPOrd
import Derived.Test.YtaeaomlhbdbbfaaGreatDoorTnA
namespace Go.Proofs.YtaeaomlhbdbbfaaGreatDoor
open Go.RowKit

theorem cmp_pre : ∀ (a : List (List UInt8)) (b : List (List UInt8)), b ≠ [] → cmpF a (a ++ b) < 0
  | [], [], h => (h rfl).elim
  | [], _ :: _, _ => by show (-1 : Int) < 0; decide
  | x :: a, b, h => by
    rw [List.cons_append, cmpF, if_neg (by rw [bl_irrefl]; decide), if_pos rfl]
    exact cmp_pre a b h
theorem lst_spec (l : List UInt8) : ∀ n k, lstF l n = some k → l.getD k 0 = 47 ∧ ∀ j, k < j → j < n → l.getD j 0 ≠ 47
  | 0, k, h => by cases h
  | n + 1, k, h => by
    unfold lstF at h
    by_cases h1 : l.getD n 0 = 47
    · rw [if_pos h1] at h
      obtain rfl := Option.some.inj h
      exact ⟨h1, fun j h2 h3 => by omega⟩
    · rw [if_neg h1] at h
      obtain ⟨g1, g2⟩ := lst_spec l n k h
      refine ⟨g1, fun j h2 h3 => ?_⟩
      by_cases e : j = n
      · rw [e]; exact h1
      · exact g2 j h2 (by omega)
theorem lst_no47 (l : List UInt8) : ∀ n, lstF l n = none → ∀ j, j < n → l.getD j 0 ≠ 47
  | 0, _, j, h => absurd h (Nat.not_lt_zero _)
  | n + 1, h, j, hj => by
    unfold lstF at h
    by_cases h1 : l.getD n 0 = 47
    · rw [if_pos h1] at h
      cases h
    · rw [if_neg h1] at h
      by_cases e : j = n
      · rw [e]; exact h1
      · exact lst_no47 l n h j (by omega)
theorem parent_split (p : List UInt8) (h : (parentF p).2 = true) : ∃ b, p = (parentF p).1 ++ 47 :: b ∧ ∀ x ∈ b, x ≠ 47 := by
  have hl := lst_lt p p.length
  have hs := lst_spec p p.length
  unfold parentF at h ⊢
  generalize lstF p p.length = r at h hl hs ⊢
  cases r with
  | none => cases h
  | some k =>
    have hk := hl k rfl
    obtain ⟨h1, h2⟩ := hs k rfl
    refine ⟨p.drop (k + 1), ?_, fun x hx => ?_⟩
    · show p = p.take k ++ 47 :: p.drop (k + 1)
      conv => lhs; rw [← List.take_append_drop k p, List.drop_eq_getElem_cons hk]
      rw [List.getD_eq_getElem?_getD, List.getElem?_eq_getElem hk] at h1
      rw [show p[k] = 47 from h1]
    · obtain ⟨j, hj, rfl⟩ := List.mem_iff_getElem.1 hx
      rw [List.length_drop] at hj
      have := h2 (k + 1 + j) (by omega) (by omega)
      rw [List.getD_eq_getElem?_getD, List.getElem?_eq_getElem (by omega)] at this
      rw [List.getElem_drop]
      exact this
theorem parent_parts (p : List UInt8) (h : (parentF p).2 = true) : ∃ b, splitF p = splitF (parentF p).1 ++ [b] := by
  obtain ⟨b, e, hb⟩ := parent_split p h
  refine ⟨b, ?_⟩
  conv => lhs; rw [e]
  rw [split_two, split_one b hb]
theorem right_parts {p : List UInt8} (h : rightF p = true) : p ≠ [] ∧ (splitF p).all partOk = true ∧ (splitF p).length ≤ 32 ∧ p.length ≤ 1024 ∧ bytesOk p p.length 0 = true := by
  have hne := right_ne h
  unfold rightF at h
  rw [show partsF p = splitF p from if_neg hne] at h
  simp only [Bool.and_eq_true, decide_eq_true_eq] at h
  exact ⟨hne, h.2, h.1.2, h.1.1.1.2, h.1.1.2⟩
theorem part_ne {p : List UInt8} (h : partOk p = true) : p ≠ [] := fun e => by
  rw [e] at h
  exact absurd h (by decide)
theorem parent_ne {p : List UInt8} (hp : rightF p = true) (h : (parentF p).2 = true) : (parentF p).1 ≠ [] := fun e => by
  obtain ⟨b, hb⟩ := parent_parts p h
  obtain ⟨_, h2, _⟩ := right_parts hp
  rw [hb, e, List.all_append] at h2
  have : (splitF ([] : List UInt8)).all partOk = false := by decide
  rw [this] at h2
  cases h2
theorem bytes_pre (q y : List UInt8) : ∀ (f a : Nat), q.length - a ≤ f → bytesOk (q ++ 47 :: y) f a = true → bytesOk q f a = true
  | 0, a, h, _ => bytesOk_end q 0 a (by omega)
  | f + 1, a, h, hb => by
    by_cases ha : a < q.length
    · have ha2 : a < (q ++ 47 :: y).length := by rw [List.length_append]; omega
      have hd : nextF (q ++ 47 :: y) a = nextF q a := by
        rw [next_dec _ a ha2, next_dec _ a ha, List.drop_append_of_le_length (Nat.le_of_lt ha), List.drop_eq_getElem_cons ha, List.cons_append]
        exact (dec_ag _ (ag_47 y _)).symm
      have hg : (q ++ 47 :: y).getD a 0 = q.getD a 0 := by
        rw [List.getD_eq_getElem?_getD, List.getElem?_append_left ha, ← List.getD_eq_getElem?_getD]
      rw [bytesOk_step _ f a ha2, hd, hg] at hb
      rw [bytesOk_step _ f a ha]
      split at hb
      · cases hb
      · rename_i hc
        rw [if_neg hc]
        exact bytes_pre q y f _ (by omega) hb
    · exact bytesOk_end q _ a ha
theorem right_parent {p : List UInt8} (hp : rightF p = true) (h : (parentF p).2 = true) : rightF (parentF p).1 = true := by
  obtain ⟨h1, h2, h3, h4, h5⟩ := right_parts hp
  have hne := parent_ne hp h
  obtain ⟨b, hb⟩ := parent_parts p h
  obtain ⟨y, hy, _⟩ := parent_split p h
  have hl := parent_lt p h
  rw [hb] at h2 h3
  rw [List.all_append, Bool.and_eq_true] at h2
  rw [List.length_append] at h3
  unfold rightF
  rw [show partsF (parentF p).1 = splitF (parentF p).1 from if_neg hne]
  simp only [Bool.and_eq_true, decide_eq_true_eq]
  refine ⟨⟨⟨⟨List.length_pos_iff.2 hne, by omega⟩, ?_⟩, by omega⟩, h2.1⟩
  generalize (parentF p).1 = q at *
  have h6 : bytesOk (q ++ 47 :: y) p.length 0 = true := by rw [← hy]; exact h5
  have h7 := bytes_pre q y p.length 0 (by omega) h6
  have hf : ∀ (f g a : Nat), q.length - a ≤ f → q.length - a ≤ g → bytesOk q f a = true → bytesOk q g a = true := by
    intro f
    induction f with
    | zero =>
      intro g a h _ _
      exact bytesOk_end q g a (by omega)
    | succ f ih =>
      intro g a hfa hga hb2
      by_cases ha : a < q.length
      · cases g with
        | zero => omega
        | succ g =>
          rw [bytesOk_step _ f a ha] at hb2
          rw [bytesOk_step _ g a ha]
          split at hb2
          · cases hb2
          · rename_i hc
            rw [if_neg hc]
            exact ih g _ (by omega) (by omega) hb2
      · exact bytesOk_end q g a ha
  exact hf _ _ 0 (by omega) (by omega) h7
theorem parent_less {p : List UInt8} (hp : rightF p = true) (h : (parentF p).2 = true) : lessP (parentF p).1 p := by
  obtain ⟨b, hb⟩ := parent_parts p h
  show cmpF (partsF (parentF p).1) (partsF p) < 0
  rw [show partsF p = splitF p from if_neg (right_ne hp), show partsF (parentF p).1 = splitF (parentF p).1 from if_neg (parent_ne hp h), hb]
  exact cmp_pre _ _ (by simp)
/-- What is under a path: its parts, and more. -/
theorem under_iff (a b : List (List UInt8)) : underF a b = true ↔ ∃ c, c ≠ [] ∧ a = b ++ c := by
  unfold underF
  rw [Bool.and_eq_true, decide_eq_true_eq, beq_iff_eq]
  constructor
  · rintro ⟨h1, h2⟩
    refine ⟨a.drop b.length, fun e => ?_, by conv => lhs; rw [← List.take_append_drop b.length a, h2]⟩
    have := List.drop_eq_nil_iff.1 e
    omega
  · rintro ⟨c, hc, rfl⟩
    have := List.length_pos_iff.2 hc
    refine ⟨by rw [List.length_append]; omega, by simp⟩
theorem under_parent {p d : List UInt8} (hp : rightF p = true) (h : (parentF p).2 = true) (hd : (parentF p).1 = d ∨ underF (partsF (parentF p).1) (partsF d) = true) : underF (partsF p) (partsF d) = true := by
  obtain ⟨b, hb⟩ := parent_parts p h
  have e1 : partsF p = partsF (parentF p).1 ++ [b] := by
    rw [show partsF p = splitF p from if_neg (right_ne hp), show partsF (parentF p).1 = splitF (parentF p).1 from if_neg (parent_ne hp h), hb]
  rw [under_iff]
  rcases hd with g | g
  · exact ⟨[b], by simp, by rw [e1, g]⟩
  · obtain ⟨c, hc, e2⟩ := (under_iff _ _).1 g
    exact ⟨c ++ [b], by simp, by rw [e1, e2, List.append_assoc]⟩
theorem under_less {p d : List UInt8} (h : underF (partsF p) (partsF d) = true) : lessP d p := by
  obtain ⟨c, hc, e⟩ := (under_iff _ _).1 h
  show cmpF (partsF d) (partsF p) < 0
  rw [e]
  exact cmp_pre _ _ hc
end Go.Proofs.YtaeaomlhbdbbfaaGreatDoor
