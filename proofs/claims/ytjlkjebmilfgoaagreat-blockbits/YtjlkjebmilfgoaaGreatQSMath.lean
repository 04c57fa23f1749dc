/- Plain words on a stable sort that merges in place: ranges exchanged, a row turned, two rows that rise made one. -/
import Derived.Sort.LotA
namespace Go.Proofs.YtjlkjebmilfgoaaGreat
open Go.Sort
variable {α : Type} [Inhabited α]

/-- n places from a on, exchanged with those from b on. -/
def swR (d : Array α) (a b : Nat) : Nat → Array α
  | 0 => d
  | n + 1 => swp (swR d a b n) (a + n) (b + n)
theorem swR_size (d : Array α) (a b n : Nat) : (swR d a b n).size = d.size := by
  induction n with
  | zero => rfl
  | succ n ih => rw [swR, swp_size, ih]
theorem swR_perm (d : Array α) (a b n lo hi : Nat) (h1 : lo ≤ a) (h2 : a + n ≤ hi) (h3 : lo ≤ b) (h4 : b + n ≤ hi) (h5 : hi ≤ d.size) : PermIn lo hi d (swR d a b n) := by
  induction n with
  | zero => exact permIn_refl d lo hi
  | succ n ih => exact permIn_trans _ _ _ lo hi (ih (by omega) (by omega)) (swp_permIn _ lo hi (a + n) (b + n) (by omega) (by omega) (by omega) (by omega) (by rw [swR_size]; exact h5))
theorem swp_at (d : Array α) (i j k : Nat) (hi : i < d.size) (hj : j < d.size) (hij : i ≠ j) : (swp d i j)[k]! = if k = i then d[j]! else if k = j then d[i]! else d[k]! := by
  split
  · subst k; exact swp_left d i j hi hij
  · split
    · subst k; exact swp_right d i j hj
    · exact swp_other d i j k (by assumption) (by assumption)
theorem swR_at (d : Array α) (a b n : Nat) (h : a + n ≤ b) (hb : b + n ≤ d.size) (x : Nat) :
    (swR d a b n)[x]! = if a ≤ x ∧ x < a + n then d[x + b - a]! else if b ≤ x ∧ x < b + n then d[x + a - b]! else d[x]! := by
  induction n generalizing x with
  | zero => rw [swR, if_neg (by omega), if_neg (by omega)]
  | succ n ih =>
    rw [swR, swp_at _ _ _ _ (by rw [swR_size]; omega) (by rw [swR_size]; omega) (by omega), ih (by omega) (by omega), ih (by omega) (by omega), ih (by omega) (by omega)]
    by_cases h1 : x = a + n
    · subst h1
      rw [if_pos rfl, if_neg (by omega), if_neg (by omega), if_pos (by omega)]
      congr 1; omega
    · rw [if_neg h1]
      by_cases h2 : x = b + n
      · subst h2
        rw [if_pos rfl, if_neg (by omega), if_neg (by omega), if_neg (by omega), if_pos (by omega)]
        congr 1; omega
      · rw [if_neg h2]
        by_cases h3 : a ≤ x ∧ x < a + n
        · rw [if_pos h3, if_pos (by omega)]
        · rw [if_neg h3]
          by_cases h4 : b ≤ x ∧ x < b + n
          · rw [if_pos h4, if_neg (by omega), if_pos (by omega)]
          · rw [if_neg h4, if_neg (by omega), if_neg (by omega)]

/-- What a row reads as behind the places a .. m and m .. b have changed sides. -/
def Rot (d d' : Array α) (a m b : Nat) : Prop :=
  ∀ x, d'[x]! = if a ≤ x ∧ x < a + (b - m) then d[x + m - a]! else if a + (b - m) ≤ x ∧ x < b then d[x + m - b]! else d[x]!
theorem Rot.left {d d' : Array α} {m i j : Nat} (hi : i ≤ m) (hj : 0 < j) (hij : j < i) (hs : m + j ≤ d.size) (h : Rot (swR d (m - i) m j) d' (m - i + j) m (m + j)) : Rot d d' (m - i) m (m + j) := by
  intro x
  rw [h x, swR_at d _ _ _ (by omega) (by omega), swR_at d _ _ _ (by omega) (by omega), swR_at d _ _ _ (by omega) (by omega)]
  by_cases h1 : m - i ≤ x ∧ x < m - i + (m + j - m)
  · rw [if_neg (by omega), if_neg (by omega), if_pos (by omega), if_pos h1]
  · rw [if_neg h1]
    by_cases h2 : m - i + (m + j - m) ≤ x ∧ x < m + j
    · rw [if_pos h2]
      by_cases h3 : x < m - i + j + (m + j - m)
      · rw [if_pos (by omega), if_neg (by omega), if_pos (by omega)]
        congr 1; omega
      · rw [if_neg (by omega), if_pos (by omega), if_neg (by omega), if_neg (by omega)]
    · rw [if_neg (by omega), if_neg (by omega), if_neg (by omega), if_neg (by omega), if_neg h2]
theorem Rot.right {d d' : Array α} {m i j : Nat} (hi : i ≤ m) (hi0 : 0 < i) (hij : i < j) (hs : m + j ≤ d.size) (h : Rot (swR d (m - i) (m + j - i) i) d' (m - i) m (m + (j - i))) : Rot d d' (m - i) m (m + j) := by
  intro x
  rw [h x, swR_at d _ _ _ (by omega) (by omega), swR_at d _ _ _ (by omega) (by omega), swR_at d _ _ _ (by omega) (by omega)]
  by_cases h1 : m - i ≤ x ∧ x < m - i + (m + j - m)
  · rw [if_pos h1]
    by_cases h2 : x < m - i + (m + (j - i) - m)
    · rw [if_pos (by omega), if_neg (by omega), if_neg (by omega)]
    · rw [if_neg (by omega)]
      rw [if_pos (by omega), if_pos (by omega)]
      congr 1; omega
  · rw [if_neg h1]
    by_cases h2 : m - i + (m + j - m) ≤ x ∧ x < m + j
    · rw [if_pos h2, if_neg (by omega), if_neg (by omega), if_neg (by omega), if_pos (by omega)]
      congr 1; omega
    · rw [if_neg (by omega), if_neg (by omega), if_neg (by omega), if_neg (by omega), if_neg h2]
theorem Rot.last (d : Array α) {m i : Nat} (hi : i ≤ m) (hs : m + i ≤ d.size) : Rot d (swR d (m - i) m i) (m - i) m (m + i) := by
  intro x
  rw [swR_at d _ _ _ (by omega) (by omega)]
  by_cases h1 : m - i ≤ x ∧ x < m - i + i
  · rw [if_pos h1, if_pos (by omega)]
  · rw [if_neg h1]
    by_cases h2 : m ≤ x ∧ x < m + i
    · rw [if_pos h2, if_neg (by omega), if_pos (by omega)]
      congr 1; omega
    · rw [if_neg h2, if_neg (by omega), if_neg (by omega)]

variable {lt : α → α → Bool}
/-- Two parts that rise, none of the first above one of the second. -/
theorem sjoin {a m b : Nat} {d : Array α} (h1 : SortedIn lt a m d) (h2 : SortedIn lt m b d) (h : ∀ i j, a ≤ i → i < m → m ≤ j → j < b → lt d[j]! d[i]! = false) : SortedIn lt a b d := by
  intro i j hi hij hj
  by_cases h3 : j < m
  · exact h1 i j hi hij h3
  · by_cases h4 : m ≤ i
    · exact h2 i j h4 hij hj
    · exact h i j hi (by omega) (by omega) hj
theorem ssame {a b : Nat} {d d' : Array α} (h : SortedIn lt a b d) (he : ∀ p, a ≤ p → p < b → d'[p]! = d[p]!) : SortedIn lt a b d' := by
  intro i j hi hij hj
  rw [he i hi (by omega), he j (by omega) hj]
  exact h i j hi hij hj
theorem sle (hS : SWO lt) {a b : Nat} {d : Array α} (h : SortedIn lt a b d) (i j : Nat) (hi : a ≤ i) (hij : i ≤ j) (hj : j < b) : lt d[j]! d[i]! = false := by
  rcases Nat.lt_or_ge i j with h1 | h1
  · exact h i j hi h1 hj
  · obtain rfl : i = j := by omega
    exact hS.irrefl _
/-- What holds between all of two parts holds behind permutations of each. -/
theorem across {a m b : Nat} {d e f : Array α} (hb : b ≤ d.size) (hm : m ≤ b) (p : α → α → Prop) (h : ∀ i j, a ≤ i → i < m → m ≤ j → j < b → p d[i]! d[j]!) (h1 : PermIn a m d e) (h2 : PermIn m b e f) :
    ∀ i j, a ≤ i → i < m → m ≤ j → j < b → p f[i]! f[j]! := by
  intro i j hi hi2 hj hj2
  have e1 : ∀ j, m ≤ j → j < b → ∀ i, a ≤ i → i < m → p e[i]! d[j]! := fun j hj hj2 => permIn_all d e a m (fun x => p x d[j]!) (by omega) h1 fun i hi hi2 => h i j hi hi2 hj hj2
  have e2 : ∀ i, a ≤ i → i < m → ∀ j, m ≤ j → j < b → p e[i]! f[j]! := fun i hi hi2 => permIn_all e f m b (fun x => p e[i]! x) (by rw [h1.1]; exact hb) h2 fun j hj hj2 => by rw [h1.2.1 j (.inr hj)]; exact e1 j hj hj2 i hi hi2
  rw [h2.2.1 i (.inl (by omega))]
  exact e2 i hi hi2 j hj hj2

/-- The row that merging in place makes: cut where both halves part, turned, and each half so again. -/
theorem parted (hS : SWO lt) {a m b mid s e : Nat} {d d' : Array α} (hs1 : a ≤ s) (hs2 : s ≤ m) (he1 : m ≤ e) (he2 : e ≤ b) (hse : s + e = mid + m) (h1 : SortedIn lt a m d) (h2 : SortedIn lt m b d)
    (hlo : s = a ∨ e = b ∨ (lt d[e]! d[s - 1]! = false)) (hhi : s = m ∨ e = m ∨ lt d[s]! d[e - 1]! = false) (hr : Rot d d' s m e) :
    SortedIn lt a s d' ∧ SortedIn lt s mid d' ∧ SortedIn lt mid e d' ∧ SortedIn lt e b d' ∧ ∀ i j, a ≤ i → i < mid → mid ≤ j → j < b → lt d'[j]! d'[i]! = false := by
  have q1 : ∀ x, a ≤ x → x < s → d'[x]! = d[x]! := fun x _ hx => by rw [hr x, if_neg (by omega), if_neg (by omega)]
  have q2 : ∀ x, s ≤ x → x < mid → d'[x]! = d[x + m - s]! := fun x hx hx2 => by rw [hr x, if_pos (by omega)]
  have q3 : ∀ x, mid ≤ x → x < e → d'[x]! = d[x + m - e]! := fun x hx hx2 => by rw [hr x, if_neg (by omega), if_pos (by omega)]
  have q4 : ∀ x, e ≤ x → x < b → d'[x]! = d[x]! := fun x hx _ => by rw [hr x, if_neg (by omega), if_neg (by omega)]
  refine ⟨fun i j hi hij hj => ?_, fun i j hi hij hj => ?_, fun i j hi hij hj => ?_, fun i j hi hij hj => ?_, fun i j hi hi2 hj hj2 => ?_⟩
  · rw [q1 i hi (by omega), q1 j (by omega) hj]; exact h1 i j hi hij (by omega)
  · rw [q2 i hi (by omega), q2 j (by omega) hj]; exact h2 _ _ (by omega) (by omega) (by omega)
  · rw [q3 i hi (by omega), q3 j (by omega) hj]; exact h1 _ _ (by omega) (by omega) (by omega)
  · rw [q4 i hi (by omega), q4 j (by omega) hj]; exact h2 _ _ (by omega) (by omega) (by omega)
  · by_cases hi3 : i < s
    · rw [q1 i hi hi3]
      by_cases hj3 : j < e
      · rw [q3 j hj hj3]
        exact sle hS h1 _ _ hi (by omega) (by omega)
      · rw [q4 j (by omega) hj2]
        rcases hlo with h3 | h3 | h3
        · omega
        · omega
        · exact hS.ntrans _ _ _ (sle hS h2 e j (by omega) (by omega) hj2) (hS.ntrans _ _ _ h3 (sle hS h1 i (s - 1) hi (by omega) (by omega)))
    · rw [q2 i (by omega) hi2]
      by_cases hj3 : j < e
      · rw [q3 j hj hj3]
        rcases hhi with h3 | h3 | h3
        · omega
        · omega
        · exact hS.ntrans _ _ _ (sle hS h1 s (j + m - e) (by omega) (by omega) (by omega)) (hS.ntrans _ _ _ h3 (sle hS h2 (i + m - s) (e - 1) (by omega) (by omega) (by omega)))
      · rw [q4 j (by omega) hj2]
        exact sle hS h2 _ _ (by omega) (by omega) (by omega)
end Go.Proofs.YtjlkjebmilfgoaaGreat
