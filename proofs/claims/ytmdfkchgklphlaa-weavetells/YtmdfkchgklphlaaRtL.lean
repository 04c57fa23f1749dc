/- Layer 13 in plain words: what comes of a name comes of itself again; the order is one. -/
import Derived.Test.YtmdfkchgklphlaaRtM
namespace Go.Proofs.Ytmdfkchgklphlaa
open Go.RowKit

theorem split_end : ∀ a : List UInt8, splitF (a ++ [47]) = splitF a ++ [[]]
  | [] => rfl
  | b :: a => by
    have h := split_end a
    rw [List.cons_append, splitF, splitF]
    split
    · rw [h]
      rfl
    · rw [h]
      cases hs : splitF a with
      | nil => exact (split_ne a hs).elim
      | cons p r => rfl
theorem keep_ne {p : List UInt8} (h : keepP p = true) : p ≠ [] := fun e => by
  rw [e] at h
  cases h
theorem parts_no47 (l p : List UInt8) (hp : p ∈ partsF l) : ∀ b ∈ p, b ≠ 47 := by
  unfold partsF at hp
  split at hp
  · cases hp
  · exact split_parts l p hp
/-- The parts of a path that is made of a name are the name's. -/
theorem path_split (l : List UInt8) (h : pathF l ≠ []) : splitF (pathF l) = (partsF l).filter keepP := by
  unfold pathF at h ⊢
  refine split_join _ (fun e => h ?_) fun p hp => parts_no47 l p (List.mem_filter.1 hp).1
  rw [e]
  rfl
theorem path_no (l : List UInt8) (h : pathF l ≠ []) : ∀ p ∈ splitF (pathF l), p ≠ [] := fun p hp => by
  rw [path_split l h] at hp
  exact keep_ne (List.mem_filter.1 hp).2
theorem path_first (l : List UInt8) (h : pathF l ≠ []) : (pathF l).getD 0 0 ≠ 47 := fun e => by
  obtain ⟨b, r, hr⟩ := List.exists_cons_of_ne_nil h
  have hb : b = 47 := by
    rw [hr] at e
    exact e
  refine path_no l h [] ?_ rfl
  rw [hr, hb, splitF, if_pos rfl]
  exact List.mem_cons_self
theorem path_last (l : List UInt8) (h : pathF l ≠ []) : (pathF l).getD ((pathF l).length - 1) 0 ≠ 47 := fun e => by
  have h1 := List.dropLast_concat_getLast h
  have hl : (pathF l).getLast h = 47 := by
    rw [List.getLast_eq_getElem]
    rw [List.getD_eq_getElem?_getD, List.getElem?_eq_getElem (by have := List.length_pos_iff.2 h; omega)] at e
    exact e
  rw [hl] at h1
  refine path_no l h [] ?_ rfl
  rw [← h1, split_end]
  exact List.mem_append_right _ List.mem_cons_self
theorem right_ne {l : List UInt8} (h : rightF l = true) : l ≠ [] := fun e => by
  rw [e] at h
  cases h
theorem parts_of {l : List UInt8} (h : l ≠ []) : partsF l = splitF l := if_neg h
theorem path_again (l : List UInt8) (h : pathF l ≠ []) : pathF (pathF l) = pathF l := by
  show joinF ((partsF (pathF l)).filter keepP) = pathF l
  rw [parts_of h, path_split l h, List.filter_filter]
  simp only [Bool.and_self]
  rfl
theorem path_slash (l : List UInt8) (h : pathF l ≠ []) : pathF (pathF l ++ [47]) = pathF l := by
  show joinF ((partsF (pathF l ++ [47])).filter keepP) = pathF l
  rw [parts_of (by simp), split_end, List.filter_append, path_split l h, List.filter_filter]
  simp only [Bool.and_self]
  rw [show [([] : List UInt8)].filter keepP = [] from rfl, List.append_nil]
  rfl
theorem norm_again (l : List UInt8) (h : rightF (pathF l) = true) : normF (pathF l) = (pathF l, false, 0) := by
  have hne := right_ne h
  unfold normF
  rw [if_neg (fun e => e.elim hne (path_first l hne)), path_again l hne, if_pos h, decide_eq_false (path_last l hne)]
theorem norm_slash (l : List UInt8) (h : rightF (pathF l) = true) : normF (pathF l ++ [47]) = (pathF l, true, 0) := by
  have hne := right_ne h
  have h1 : (pathF l ++ [47]).getD 0 0 ≠ 47 := by
    obtain ⟨b, r, hr⟩ := List.exists_cons_of_ne_nil hne
    have := path_first l hne
    rw [hr] at this ⊢
    exact this
  have h2 : (pathF l ++ [47]).getD ((pathF l ++ [47]).length - 1) 0 = 47 := by
    rw [List.length_append, List.length_cons, List.length_nil, Nat.add_sub_cancel, List.getD_eq_getElem?_getD, List.getElem?_append_right (Nat.le_refl _), Nat.sub_self]
    rfl
  unfold normF
  rw [if_neg (fun e => e.elim (by simp) h1), path_slash l hne, if_pos h, decide_eq_true h2]
/-- What comes of a name: it may be, or nothing comes. -/
theorem norm_cases (l : List UInt8) : (normF l = ([], false, 5)) ∨ (rightF (pathF l) = true ∧ normF l = (pathF l, decide (l.getD (l.length - 1) 0 = 47), 0)) := by
  unfold normF
  split
  · exact .inl rfl
  · split
    · rename_i h
      exact .inr ⟨h, rfl⟩
    · exact .inl rfl

/- The order of bytes, and of parts. -/
theorem bl_irrefl : ∀ x : List UInt8, Op.bytesLess x x = false
  | [] => rfl
  | a :: x => by
    rw [Op.bytesLess, bl_irrefl x]
    simp
theorem bl_cons (a b : UInt8) (x y : List UInt8) : Op.bytesLess (a :: x) (b :: y) = true ↔ a < b ∨ (a = b ∧ Op.bytesLess x y = true) := by
  rw [Op.bytesLess]
  simp
theorem bl_trans : ∀ x y z : List UInt8, Op.bytesLess x y = true → Op.bytesLess y z = true → Op.bytesLess x z = true
  | x, [], z, h, _ => by cases x <;> simp [Op.bytesLess] at h
  | x, b :: y, [], _, h => by simp [Op.bytesLess] at h
  | [], b :: y, c :: z, _, _ => rfl
  | a :: x, b :: y, c :: z, h1, h2 => by
    rw [bl_cons] at h1 h2 ⊢
    rcases h1 with h1 | ⟨rfl, h1⟩
    · rcases h2 with h2 | ⟨rfl, h2⟩
      · exact .inl (UInt8.lt_trans h1 h2)
      · exact .inl h1
    · rcases h2 with h2 | ⟨rfl, h2⟩
      · exact .inl h2
      · exact .inr ⟨rfl, bl_trans x y z h1 h2⟩
theorem bl_total : ∀ x y : List UInt8, x ≠ y → Op.bytesLess x y = true ∨ Op.bytesLess y x = true
  | [], [], h => (h rfl).elim
  | [], b :: y, _ => .inl rfl
  | a :: x, [], _ => .inr rfl
  | a :: x, b :: y, h => by
    rw [bl_cons, bl_cons]
    by_cases e : a = b
    · subst e
      rcases bl_total x y (fun e => h (by rw [e])) with g | g
      · exact .inl (.inr ⟨rfl, g⟩)
      · exact .inr (.inr ⟨rfl, g⟩)
    · rcases UInt8.lt_or_lt_of_ne e with g | g
      · exact .inl (.inl g)
      · exact .inr (.inl g)
theorem bl_asymm {x y : List UInt8} (h : Op.bytesLess x y = true) : ¬ Op.bytesLess y x = true := fun g => by
  have := bl_trans x y x h g
  rw [bl_irrefl] at this
  cases this
theorem cmp_vals : ∀ a b : List (List UInt8), cmpF a b = -1 ∨ cmpF a b = 0 ∨ cmpF a b = 1
  | [], [] => .inr (.inl rfl)
  | [], _ :: _ => .inl rfl
  | _ :: _, [] => .inr (.inr rfl)
  | x :: a, y :: b => by
    rw [cmpF]
    split
    · exact .inl rfl
    · split
      · exact cmp_vals a b
      · exact .inr (.inr rfl)
theorem cmp_anti : ∀ a b : List (List UInt8), cmpF a b = -cmpF b a
  | [], [] => rfl
  | [], _ :: _ => rfl
  | _ :: _, [] => rfl
  | x :: a, y :: b => by
    rw [cmpF, cmpF]
    by_cases h : x = y
    · subst h
      rw [bl_irrefl, if_neg (by decide), if_pos rfl, if_neg (by decide), if_pos rfl]
      exact cmp_anti a b
    · rcases bl_total x y h with g | g
      · rw [if_pos g, if_neg (bl_asymm g), if_neg (fun e => h e.symm)]
      · rw [if_neg (bl_asymm g), if_neg h, if_pos g]
        rfl
theorem cmp_refl : ∀ a : List (List UInt8), cmpF a a = 0
  | [] => rfl
  | x :: a => by rw [cmpF, bl_irrefl, if_neg (by decide), if_pos rfl, cmp_refl a]
/-- What comes first of two rows that begin with other parts. -/
theorem cmp_cons (x y : List UInt8) (a b : List (List UInt8)) : (cmpF (x :: a) (y :: b) ≤ 0 ↔ Op.bytesLess x y = true ∨ (x = y ∧ cmpF a b ≤ 0)) ∧ (cmpF (x :: a) (y :: b) < 0 ↔ Op.bytesLess x y = true ∨ (x = y ∧ cmpF a b < 0)) := by
  rw [cmpF]
  by_cases h : x = y
  · subst h
    rw [bl_irrefl, if_neg (by decide), if_pos rfl]
    simp
  · by_cases g : Op.bytesLess x y = true
    · rw [if_pos g]
      simp [g]
    · rw [if_neg g, if_neg h]
      simp [g, h]
theorem cmp_trans : ∀ a b c : List (List UInt8), cmpF a b ≤ 0 → cmpF b c ≤ 0 → cmpF a c ≤ 0 ∧ (cmpF a b < 0 → cmpF a c < 0)
  | [], b, [], h1, h2 => by
    refine ⟨Int.le_refl _, fun h => ?_⟩
    cases b with
    | nil => exact h
    | cons y b => simp [cmpF] at h2
  | [], b, z :: c, h1, h2 => ⟨by simp [cmpF], fun _ => by simp [cmpF]⟩
  | x :: a, [], c, h1, h2 => by simp [cmpF] at h1
  | x :: a, y :: b, [], h1, h2 => by simp [cmpF] at h2
  | x :: a, y :: b, z :: c, h1, h2 => by
    have ih := cmp_trans a b c
    rw [(cmp_cons x y a b).1] at h1
    rw [(cmp_cons y z b c).1] at h2
    rw [(cmp_cons x z a c).1, (cmp_cons x z a c).2, (cmp_cons x y a b).2]
    rcases h1 with h1 | ⟨rfl, h1⟩
    · rcases h2 with h2 | ⟨rfl, h2⟩
      · have := bl_trans x y z h1 h2
        exact ⟨.inl this, fun _ => .inl this⟩
      · exact ⟨.inl h1, fun _ => .inl h1⟩
    · rcases h2 with h2 | ⟨rfl, h2⟩
      · exact ⟨.inl h2, fun _ => .inl h2⟩
      · have := ih h1 h2
        refine ⟨.inr ⟨rfl, this.1⟩, fun h => ?_⟩
        rcases h with h | ⟨_, h⟩
        · rw [bl_irrefl] at h
          cases h
        · exact .inr ⟨rfl, this.2 h⟩
theorem under_cons (x y : List UInt8) (a b : List (List UInt8)) : underF (x :: a) (y :: b) = true ↔ x = y ∧ underF a b = true := by
  unfold underF
  simp only [Bool.and_eq_true, decide_eq_true_eq, beq_iff_eq, List.length_cons, List.take_succ_cons, List.cons.injEq]
  constructor
  · rintro ⟨h1, h2, h3⟩
    exact ⟨h2, by omega, h3⟩
  · rintro ⟨h2, h1, h3⟩
    exact ⟨by omega, h2, h3⟩
theorem under_nil (a : List (List UInt8)) : underF a [] = true ↔ a ≠ [] := by
  cases a <;> simp [underF]
/-- What is between a path and one that is under it is under it. -/
theorem under_mid : ∀ a b c : List (List UInt8), underF c a = true → cmpF a b < 0 → cmpF b c < 0 → underF b a = true
  | [], b, c, _, h1, _ => by
    rw [under_nil]
    rintro rfl
    simp [cmpF] at h1
  | x :: a, b, [], h, _, _ => by simp [underF] at h
  | x :: a, [], z :: c, _, h1, _ => by simp [cmpF] at h1
  | x :: a, y :: b, z :: c, h, h1, h2 => by
    rw [under_cons] at h ⊢
    rw [(cmp_cons x y a b).2] at h1
    rw [(cmp_cons y z b c).2] at h2
    obtain ⟨rfl, hu⟩ := h
    rcases h1 with h1 | ⟨rfl, h1⟩
    · rcases h2 with h2 | ⟨rfl, _⟩
      · exact (bl_asymm h1 h2).elim
      · rw [bl_irrefl] at h1
        cases h1
    · rcases h2 with h2 | ⟨_, h2⟩
      · rw [bl_irrefl] at h2
        cases h2
      · exact ⟨rfl, under_mid a b c hu h1 h2⟩
end Go.Proofs.Ytmdfkchgklphlaa
