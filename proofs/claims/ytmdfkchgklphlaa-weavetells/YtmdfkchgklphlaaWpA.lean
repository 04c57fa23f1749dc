/- Layer 16, the program, in plain words: seats (a text, the place of a row that has it), their one order, and that the sorted seats, each once, are the texts in order with their places. -/
import Derived.Test.YtmdfkchgklphlaaWvM
import Derived.Lib.Small
namespace Go.Proofs.Ytmdfkchgklphlaa
open Go.RowKit

abbrev Sea := List UInt8 × Nat
def sea0 : Sea := ([], 0)
/-- Of two numbers the first one that is not 0. -/
def orF (a b : Int) : Int := if a = 0 then b else a
def cfS (a b : Sea) : Int := orF (cmpF (partsF a.1) (partsF b.1)) (Lib.compareInt a.2 b.2)
/-- a stands ahead of b. -/
def ltS (a b : Sea) : Prop := lessP a.1 b.1 ∨ (a.1 = b.1 ∧ a.2 < b.2)
theorem cfS_lt (a b : Sea) : cfS a b < 0 ↔ ltS a b := by
  unfold cfS orF ltS
  by_cases h : cmpF (partsF a.1) (partsF b.1) = 0
  · rw [if_pos h]
    have e := cmp_path.1 h
    unfold Lib.compareInt
    constructor
    · intro g
      refine .inr ⟨e, ?_⟩
      split at g
      · omega
      · split at g <;> omega
    · rintro (g | ⟨_, g⟩)
      · have g : cmpF (partsF a.1) (partsF b.1) < 0 := g
        omega
      · rw [if_pos (by omega)]
        omega
  · rw [if_neg h]
    constructor
    · exact fun g => .inl g
    · rintro (g | ⟨g, _⟩)
      · exact g
      · exact (h (cmp_path.2 g)).elim
theorem ltS_irrefl (a : Sea) : ¬ ltS a a := by
  rintro (h | ⟨_, h⟩)
  · exact less_irrefl _ h
  · omega
theorem ltS_trans {a b c : Sea} (h1 : ltS a b) (h2 : ltS b c) : ltS a c := by
  rcases h1 with h1 | ⟨e1, h1⟩
  · rcases h2 with h2 | ⟨e2, h2⟩
    · exact .inl (less_trans h1 h2)
    · exact .inl (e2 ▸ h1)
  · rcases h2 with h2 | ⟨e2, h2⟩
    · exact .inl (by rw [e1]; exact h2)
    · exact .inr ⟨e1.trans e2, by omega⟩
theorem ltS_cases (a b : Sea) : ltS a b ∨ a = b ∨ ltS b a := by
  rcases less_cases a.1 b.1 with h | h | h
  · exact .inl (.inl h)
  · rcases Nat.lt_trichotomy a.2 b.2 with g | g | g
    · exact .inl (.inr ⟨h, g⟩)
    · exact .inr (.inl (Prod.ext h g))
    · exact .inr (.inr (.inr ⟨h.symm, g⟩))
  · exact .inr (.inr (.inl h))
theorem ltS_not {a b : Sea} (h : ltS a b) : ¬ ltS b a := fun g => ltS_irrefl a (ltS_trans h g)

/-- The seats of a row. -/
def seatsR (p : Nat) (r : List (List UInt8)) : List Sea := r.map fun u => (u, p)
/-- The seats of the first i rows. -/
def seatsTo (rows : List (List (List UInt8))) (i : Nat) : List Sea := (List.range i).flatMap fun p => seatsR p (rows.getD p [])
theorem seats_next (rows : List (List (List UInt8))) (i : Nat) : seatsTo rows (i + 1) = seatsTo rows i ++ seatsR i (rows.getD i []) := by
  unfold seatsTo
  rw [List.range_succ, List.flatMap_append]
  simp
theorem seats_mem {rows : List (List (List UInt8))} {i : Nat} {s : Sea} : s ∈ seatsTo rows i ↔ s.2 < i ∧ s.1 ∈ rows.getD s.2 [] := by
  unfold seatsTo seatsR
  rw [List.mem_flatMap]
  constructor
  · rintro ⟨p, hp, h⟩
    obtain ⟨u, hu, rfl⟩ := List.mem_map.1 h
    exact ⟨List.mem_range.1 hp, hu⟩
  · rintro ⟨h1, h2⟩
    exact ⟨s.2, List.mem_range.2 h1, List.mem_map.2 ⟨s.1, h2, rfl⟩⟩

/-- The first j of them, without those that are as the one ahead. -/
def ddF (D : List Sea) : Nat → List Sea
  | 0 => []
  | j + 1 => if 0 < j ∧ D.getD j sea0 = D.getD (j - 1) sea0 then ddF D j else ddF D j ++ [D.getD j sea0]
theorem dd_first (D : List Sea) (j : Nat) (h : ∀ i, 0 < i → i < j → D.getD i sea0 ≠ D.getD (i - 1) sea0) (hj : j ≤ D.length) : ddF D j = D.take j := by
  induction j with
  | zero => simp [ddF]
  | succ j ih =>
    have e := ih (fun i h1 h2 => h i h1 (by omega)) (by omega)
    have ht := take_next sea0 D j (by omega)
    unfold ddF
    rw [if_neg (fun g => h j g.1 (by omega) g.2), e, ht]
theorem dd_le (D : List Sea) (j : Nat) : (ddF D j).length ≤ j := by
  induction j with
  | zero => simp [ddF]
  | succ j ih =>
    unfold ddF
    split
    · omega
    · rw [List.length_append]
      show _ + 1 ≤ _
      omega
/-- Never less, from one to the next. -/
abbrev Up (D : List Sea) : Prop := D.Pairwise fun a b => ¬ ltS b a
theorem dd_mem_to {D : List Sea} {j : Nat} (hj : j ≤ D.length) {x : Sea} (h : x ∈ ddF D j) : ∃ i, i < j ∧ D.getD i sea0 = x := by
  induction j with
  | zero => simp [ddF] at h
  | succ j ih =>
    unfold ddF at h
    split at h
    · obtain ⟨i, h1, h2⟩ := ih (by omega) h
      exact ⟨i, by omega, h2⟩
    · rw [List.mem_append, List.mem_singleton] at h
      rcases h with h | h
      · obtain ⟨i, h1, h2⟩ := ih (by omega) h
        exact ⟨i, by omega, h2⟩
      · exact ⟨j, by omega, h.symm⟩
theorem dd_mem_of {D : List Sea} {j : Nat} (hj : j ≤ D.length) {i : Nat} (hi : i < j) : D.getD i sea0 ∈ ddF D j := by
  induction j generalizing i with
  | zero => omega
  | succ j ih =>
    unfold ddF
    split
    · rename_i h
      rcases Nat.lt_or_ge i j with g | g
      · exact ih (by omega) g
      · obtain rfl : i = j := by omega
        rw [h.2]
        exact ih (by omega) (by omega)
    · rw [List.mem_append, List.mem_singleton]
      rcases Nat.lt_or_ge i j with g | g
      · exact .inl (ih (by omega) g)
      · obtain rfl : i = j := by omega
        exact .inr rfl
theorem up_at {D : List Sea} (h : Up D) {i j : Nat} (hij : i < j) (hj : j < D.length) : ¬ ltS (D.getD j sea0) (D.getD i sea0) := by
  have := List.pairwise_iff_getElem.1 h i j (by omega) hj hij
  rw [List.getD_eq_getElem?_getD, List.getD_eq_getElem?_getD, List.getElem?_eq_getElem hj, List.getElem?_eq_getElem (show i < D.length by omega)]
  exact this
theorem dd_sorted {D : List Sea} (h : Up D) (j : Nat) (hj : j ≤ D.length) : (ddF D j).Pairwise ltS := by
  induction j with
  | zero => exact List.Pairwise.nil
  | succ j ih =>
    have h0 := ih (by omega)
    unfold ddF
    split
    · exact h0
    · rename_i hn
      rw [List.pairwise_append]
      refine ⟨h0, List.pairwise_singleton .., fun x hx y hy => ?_⟩
      obtain rfl := List.mem_singleton.1 hy
      obtain ⟨i, hi, rfl⟩ := dd_mem_to (by omega) hx
      have h1 : ltS (D.getD (j - 1) sea0) (D.getD j sea0) := by
        have hjj : 0 < j := by omega
        rcases ltS_cases (D.getD (j - 1) sea0) (D.getD j sea0) with g | g | g
        · exact g
        · exact (hn ⟨hjj, g.symm⟩).elim
        · exact (up_at h (show j - 1 < j by omega) (by omega) g).elim
      rcases Nat.lt_or_ge i (j - 1) with g | g
      · rcases ltS_cases (D.getD i sea0) (D.getD (j - 1) sea0) with k | k | k
        · exact ltS_trans k h1
        · rw [k]
          exact h1
        · exact (up_at h g (by omega) k).elim
      · obtain rfl : i = j - 1 := by omega
        exact h1
/-- Two rows that rise and have the same are one. -/
theorem rise_eq : ∀ (l m : List Sea), l.Pairwise ltS → m.Pairwise ltS → (∀ x, x ∈ l ↔ x ∈ m) → l = m
  | [], [], _, _, _ => rfl
  | [], b :: m, _, _, h => by cases (h b).2 List.mem_cons_self
  | a :: l, [], _, _, h => by cases (h a).1 List.mem_cons_self
  | a :: l, b :: m, h1, h2, h => by
    rw [List.pairwise_cons] at h1 h2
    have e : a = b := by
      rcases List.mem_cons.1 ((h a).1 List.mem_cons_self) with g | g
      · exact g
      · rcases List.mem_cons.1 ((h b).2 List.mem_cons_self) with k | k
        · exact k.symm
        · exact (ltS_not (h1.1 b k) (h2.1 a g)).elim
    subst e
    refine congrArg (a :: ·) (rise_eq l m h1.2 h2.2 fun x => ⟨fun g => ?_, fun g => ?_⟩)
    · rcases List.mem_cons.1 ((h x).1 (List.mem_cons_of_mem _ g)) with k | k
      · exact (ltS_irrefl a (by have := h1.1 x g; rwa [k] at this)).elim
      · exact k
    · rcases List.mem_cons.1 ((h x).2 (List.mem_cons_of_mem _ g)) with k | k
      · exact (ltS_irrefl a (by have := h2.1 x g; rwa [k] at this)).elim
      · exact k

/-! ### The texts of all rows rise -/
theorem putK_behind (out : List (List UInt8)) (s : List UInt8) : ∀ k i, putK out s k ≤ i → i < k → 0 < cmpF (partsF (out.getD i [])) (partsF s)
  | 0, i, _, h => by omega
  | k + 1, i, h1, h2 => by
    unfold putK at h1
    by_cases g : 0 < cmpF (partsF (out.getD k [])) (partsF s)
    · rw [if_pos g] at h1
      rcases Nat.lt_or_ge i k with q | q
      · exact putK_behind out s k i h1 q
      · obtain rfl : i = k := by omega
        exact g
    · rw [if_neg g] at h1
      omega
theorem putK_ahead (out : List (List UInt8)) (s : List UInt8) : ∀ k, 0 < putK out s k → ¬ 0 < cmpF (partsF (out.getD (putK out s k - 1) [])) (partsF s)
  | 0, h => by
    unfold putK at h
    omega
  | k + 1, h => by
    unfold putK at h ⊢
    by_cases g : 0 < cmpF (partsF (out.getD k [])) (partsF s)
    · rw [if_pos g] at h ⊢
      exact putK_ahead out s k h
    · rw [if_neg g]
      exact g
theorem put_rise {out : List (List UInt8)} {s : List UInt8} (h : out.Pairwise lessP) (hs : s ∉ out) : (putW out s).Pairwise lessP := by
  have hk := putK_le out s out.length
  have hb := putK_behind out s out.length
  have ha := putK_ahead out s out.length
  unfold putW
  generalize putK out s out.length = K at hk hb ha
  have hat : ∀ i (hi : i < out.length), out.getD i [] = out[i] := fun i hi => by rw [List.getD_eq_getElem?_getD, List.getElem?_eq_getElem hi]; rfl
  have front : ∀ x ∈ out.take K, lessP x s := fun x hx => by
    obtain ⟨i, hi, rfl⟩ := List.mem_iff_getElem.1 hx
    rw [List.getElem_take]
    rw [List.length_take] at hi
    have h1 := ha (by omega)
    rw [hat (K - 1) (by omega)] at h1
    have h2 : lessP (out[K - 1]'(by omega)) s := by
      rcases less_cases (out[K - 1]'(by omega)) s with g | g | g
      · exact g
      · exact (hs (g ▸ List.getElem_mem _)).elim
      · refine (h1 ?_).elim
        rw [cmp_anti]
        have g : cmpF _ _ < 0 := g
        omega
    rcases Nat.lt_or_ge i (K - 1) with g | g
    · exact less_trans (List.pairwise_iff_getElem.1 h i (K - 1) (by omega) (by omega) g) h2
    · obtain rfl : i = K - 1 := by omega
      exact h2
  have back : ∀ x ∈ out.drop K, lessP s x := fun x hx => by
    obtain ⟨i, hi, rfl⟩ := List.mem_iff_getElem.1 hx
    rw [List.getElem_drop]
    rw [List.length_drop] at hi
    have h1 := hb (K + i) (by omega) (by omega)
    rw [hat (K + i) (by omega)] at h1
    show cmpF _ _ < 0
    rw [cmp_anti]
    omega
  rw [List.pairwise_append, List.pairwise_cons]
  refine ⟨h.sublist (List.take_sublist ..), ⟨back, h.sublist (List.drop_sublist ..)⟩, fun x hx y hy => ?_⟩
  rcases List.mem_cons.1 hy with rfl | hy
  · exact front x hx
  · exact less_trans (front x hx) (back y hy)
theorem add_rise {out : List (List UInt8)} {s : List UInt8} (h : out.Pairwise lessP) : (addW out s).Pairwise lessP := by
  unfold addW
  split
  · exact h
  · exact put_rise h ‹_›
theorem add_mem_iff {out : List (List UInt8)} {s x : List UInt8} : x ∈ addW out s ↔ x ∈ out ∨ x = s := by
  refine ⟨add_mem, fun h => ?_⟩
  unfold addW
  by_cases g : s ∈ out
  · rw [if_pos g]
    rcases h with h | h
    · exact h
    · exact h ▸ g
  · rw [if_neg g]
    unfold putW
    rw [List.mem_append, List.mem_cons]
    rcases h with h | h
    · have : x ∈ out.take (putK out s out.length) ++ out.drop (putK out s out.length) := by rw [List.take_append_drop]; exact h
      rcases List.mem_append.1 this with k | k
      · exact .inl k
      · exact .inr (.inr k)
    · exact .inr (.inl h)
theorem unionR_rise (xs : List (List UInt8)) : ∀ out : List (List UInt8), out.Pairwise lessP → (unionR out xs).Pairwise lessP := by
  induction xs with
  | nil => exact fun out h => h
  | cons x xs ih => exact fun out h => ih (addW out x) (add_rise h)
theorem unionR_mem_iff {x : List UInt8} (xs : List (List UInt8)) : ∀ out : List (List UInt8), x ∈ unionR out xs ↔ x ∈ out ∨ x ∈ xs := by
  induction xs with
  | nil => exact fun out => ⟨.inl, fun h => h.elim id fun h => by cases h⟩
  | cons y xs ih =>
    intro out
    have h := ih (addW out y)
    rw [add_mem_iff] at h
    rw [List.mem_cons]
    exact h.trans ⟨fun g => g.elim (fun g => g.elim .inl fun g => .inr (.inl g)) fun g => .inr (.inr g), fun g => g.elim (fun g => .inl (.inl g)) fun g => g.elim (fun g => .inl (.inr g)) .inr⟩
theorem union_rise_from (rows : List (List (List UInt8))) : ∀ out : List (List UInt8), out.Pairwise lessP → (rows.foldl unionR out).Pairwise lessP := by
  induction rows with
  | nil => exact fun out h => h
  | cons x rows ih => exact fun out h => ih (unionR out x) (unionR_rise x out h)
theorem union_rise (rows : List (List (List UInt8))) : (unionF rows).Pairwise lessP := union_rise_from rows [] List.Pairwise.nil
theorem union_mem_from_iff {x : List UInt8} (rows : List (List (List UInt8))) : ∀ out : List (List UInt8), x ∈ rows.foldl unionR out ↔ x ∈ out ∨ ∃ r ∈ rows, x ∈ r := by
  induction rows with
  | nil => exact fun out => ⟨.inl, fun h => h.elim id fun ⟨r, h, _⟩ => by cases h⟩
  | cons y rows ih =>
    intro out
    have h := ih (unionR out y)
    rw [unionR_mem_iff] at h
    refine h.trans ⟨?_, ?_⟩
    · rintro ((g | g) | ⟨r, g1, g2⟩)
      · exact .inl g
      · exact .inr ⟨y, List.mem_cons_self, g⟩
      · exact .inr ⟨r, List.mem_cons_of_mem _ g1, g2⟩
    · rintro (g | ⟨r, g1, g2⟩)
      · exact .inl (.inl g)
      · rcases List.mem_cons.1 g1 with rfl | g1
        · exact .inl (.inr g2)
        · exact .inr ⟨r, g1, g2⟩
theorem union_mem_iff {x : List UInt8} {rows : List (List (List UInt8))} : x ∈ unionF rows ↔ ∃ r ∈ rows, x ∈ r := by
  have h := union_mem_from_iff (x := x) rows []
  exact h.trans ⟨fun g => g.elim (fun g => by cases g) id, .inr⟩

/-! ### The seats, told by texts -/
theorem places_mem {rows : List (List (List UInt8))} {s : List UInt8} {i : Nat} : i ∈ placesF rows s ↔ i < rows.length ∧ s ∈ rows.getD i [] := by
  unfold placesF
  rw [List.mem_filter, List.mem_range, decide_eq_true_iff]
theorem places_rise (rows : List (List (List UInt8))) (s : List UInt8) : (placesF rows s).Pairwise (· < ·) := List.pairwise_lt_range.filter _
theorem row_mem {rows : List (List (List UInt8))} {i : Nat} (h : i < rows.length) : rows.getD i [] ∈ rows := by
  rw [List.getD_eq_getElem?_getD, List.getElem?_eq_getElem h]
  exact List.getElem_mem h
theorem places_some {rows : List (List (List UInt8))} {s : List UInt8} (h : s ∈ unionF rows) : 0 < (placesF rows s).length := by
  obtain ⟨r, hr, hs⟩ := union_mem_iff.1 h
  obtain ⟨i, hi, rfl⟩ := List.mem_iff_getElem.1 hr
  refine List.length_pos_of_mem (a := i) (places_mem.2 ⟨hi, ?_⟩)
  rw [List.getD_eq_getElem?_getD, List.getElem?_eq_getElem hi]
  exact hs
/-- The seats of a text. -/
def seatsU (rows : List (List (List UInt8))) (u : List UInt8) : List Sea := (placesF rows u).map fun p => (u, p)
/-- All of them. -/
def seatsW (rows : List (List (List UInt8))) (U : List (List UInt8)) : List Sea := U.flatMap (seatsU rows)
theorem seatsW_mem {rows : List (List (List UInt8))} {U : List (List UInt8)} {s : Sea} : s ∈ seatsW rows U ↔ s.1 ∈ U ∧ s.2 ∈ placesF rows s.1 := by
  unfold seatsW seatsU
  rw [List.mem_flatMap]
  constructor
  · rintro ⟨u, hu, h⟩
    obtain ⟨p, hp, rfl⟩ := List.mem_map.1 h
    exact ⟨hu, hp⟩
  · rintro ⟨h1, h2⟩
    exact ⟨s.1, h1, List.mem_map.2 ⟨s.2, h2, rfl⟩⟩
theorem seatsW_rise {rows : List (List (List UInt8))} {U : List (List UInt8)} (h : U.Pairwise lessP) : (seatsW rows U).Pairwise ltS := by
  unfold seatsW
  rw [List.pairwise_flatMap]
  refine ⟨fun u _ => ?_, h.imp fun {u v} huv x hx y hy => ?_⟩
  · unfold seatsU
    rw [List.pairwise_map]
    exact (places_rise rows u).imp fun h => .inr ⟨rfl, h⟩
  · obtain ⟨p, _, rfl⟩ := List.mem_map.1 hx
    obtain ⟨q, _, rfl⟩ := List.mem_map.1 hy
    exact .inl huv
/-- The sorted seats, each once. -/
theorem seats_are {rows : List (List (List UInt8))} {D : List Sea} (hp : D.Perm (seatsTo rows rows.length)) (hu : Up D) : ddF D D.length = seatsW rows (unionF rows) := by
  refine rise_eq _ _ (dd_sorted hu _ (Nat.le_refl _)) (seatsW_rise (union_rise rows)) fun x => ?_
  have h1 : x ∈ ddF D D.length ↔ x ∈ D := by
    constructor
    · intro h
      obtain ⟨i, hi, rfl⟩ := dd_mem_to (Nat.le_refl _) h
      rw [List.getD_eq_getElem?_getD, List.getElem?_eq_getElem hi]
      exact List.getElem_mem hi
    · intro h
      obtain ⟨i, hi, rfl⟩ := List.mem_iff_getElem.1 h
      have := dd_mem_of (Nat.le_refl _) hi
      rwa [List.getD_eq_getElem?_getD, List.getElem?_eq_getElem hi] at this
  rw [h1, hp.mem_iff, seats_mem, seatsW_mem, places_mem, union_mem_iff]
  exact ⟨fun h => ⟨⟨_, row_mem h.1, h.2⟩, h⟩, fun h => h.2⟩
/-- What is left from the i-th text on. -/
theorem seatsW_next (rows : List (List (List UInt8))) (U : List (List UInt8)) (i : Nat) (h : i < U.length) : seatsW rows (U.drop i) = seatsU rows (U.getD i []) ++ seatsW rows (U.drop (i + 1)) := by
  rw [List.drop_eq_getElem_cons h, List.getD_eq_getElem?_getD, List.getElem?_eq_getElem h]
  rfl
theorem seatsU_length (rows : List (List (List UInt8))) (u : List UInt8) : (seatsU rows u).length = (placesF rows u).length := List.length_map ..
theorem seatsW_other {rows : List (List (List UInt8))} {U : List (List UInt8)} (h : U.Pairwise lessP) {i : Nat} (hi : i < U.length) {s : Sea} (hs : s ∈ seatsW rows (U.drop (i + 1))) : s.1 ≠ U.getD i [] := by
  have h1 := (seatsW_mem.1 hs).1
  obtain ⟨k, hk, e⟩ := List.mem_iff_getElem.1 h1
  rw [List.getElem_drop] at e
  rw [List.length_drop] at hk
  have h2 := List.pairwise_iff_getElem.1 h i (i + 1 + k) hi (by omega) (by omega)
  rw [e] at h2
  rw [List.getD_eq_getElem?_getD, List.getElem?_eq_getElem hi]
  rintro g
  rw [g] at h2
  exact less_irrefl _ h2
theorem seatsW_take_length (rows : List (List (List UInt8))) (U : List (List UInt8)) (i : Nat) (h : i < U.length) : (seatsW rows (U.take (i + 1))).length = (seatsW rows (U.take i)).length + (placesF rows (U.getD i [])).length := by
  rw [take_next [] U i h]
  unfold seatsW
  rw [List.flatMap_append, List.length_append]
  simp [seatsU]
theorem seatsW_drop (rows : List (List (List UInt8))) (U : List (List UInt8)) (i : Nat) : seatsW rows (U.drop i) = (seatsW rows U).drop (seatsW rows (U.take i)).length := by
  unfold seatsW
  have e : U.flatMap (seatsU rows) = (U.take i).flatMap (seatsU rows) ++ (U.drop i).flatMap (seatsU rows) := by
    rw [← List.flatMap_append, List.take_append_drop]
  rw [e, List.drop_left]
end Go.Proofs.Ytmdfkchgklphlaa
