/- Plain arithmetic of layer 5: codes of which none begins another one, by how many have each length. No Go in sight. -/
import Derived.Test.YtackcgiokkbhdaaDoorBRefMath
namespace Go.Proofs.YtackcgiokkbhdaaDoor

/-- How many have the length k; of length 0 there is no code. -/
def cn (l : List Nat) (k : Nat) : Nat := if k = 0 then 0 else l.count k
/-- How many have codes shorter than k. -/
def st (l : List Nat) : Nat → Nat
  | 0 => 0
  | k + 1 => st l k + cn l k
/-- The first code of length k. -/
def fi (l : List Nat) : Nat → Nat
  | 0 => 0
  | k + 1 => 2 * (fi l k + cn l k)
/-- How full those are that are shorter than k. -/
def fu (l : List Nat) : Nat → Nat
  | 0 => 0
  | k + 1 => fu l k + cn l k * 2 ^ (15 - k)
def ln (l : List Nat) (s : Nat) : Nat := l.getD s 0
def rk (l : List Nat) (s : Nat) : Nat := (l.take s).count (ln l s)
/-- The place of a symbol among those that have codes. -/
def ps (l : List Nat) (s : Nat) : Nat := st l (ln l s) + rk l s
/-- Its code. -/
def cd (l : List Nat) (s : Nat) : Nat := if ln l s = 0 then 0 else fi l (ln l s) + rk l s
/-- A symbol that has a code. -/
def Has (l : List Nat) (s : Nat) : Prop := s < l.length ∧ 0 < ln l s

theorem split_at (l : List Nat) (s : Nat) (h : s < l.length) : l = l.take s ++ ln l s :: l.drop (s + 1) := by
  have : ln l s = l[s] := by simp [ln, h]
  rw [this, List.getElem_cons_drop h, List.take_append_drop]
theorem rk_lt (l : List Nat) (s : Nat) (h : Has l s) : rk l s < cn l (ln l s) := by
  obtain ⟨h1, h2⟩ := h
  unfold cn rk
  rw [if_neg (by omega)]
  conv => rhs; arg 2; rw [split_at l s h1]
  rw [List.count_append, List.count_cons_self]
  omega
theorem rk_exists (k : Nat) : ∀ (l : List Nat) (r : Nat), r < l.count k → ∃ s, s < l.length ∧ ln l s = k ∧ (l.take s).count k = r
  | [], r, h => by simp at h
  | x :: l, r, h => by
    by_cases hx : x = k
    · subst hx
      rcases r with _ | r
      · exact ⟨0, by simp, rfl, by simp⟩
      · rw [List.count_cons_self] at h
        obtain ⟨s, h1, h2, h3⟩ := rk_exists x l r (by omega)
        exact ⟨s + 1, by simpa using h1, by simpa [ln] using h2, by rw [List.take_succ_cons, List.count_cons_self, h3]⟩
    · rw [List.count_cons_of_ne hx] at h
      obtain ⟨s, h1, h2, h3⟩ := rk_exists k l r h
      exact ⟨s + 1, by simpa using h1, by simpa [ln] using h2, by rw [List.take_succ_cons, List.count_cons_of_ne hx, h3]⟩
theorem rk_less (l : List Nat) (s t : Nat) (hs : s < l.length) (hst : s < t) (e : ln l s = ln l t) : rk l s < rk l t := by
  unfold rk
  rw [← e]
  have h1 : (l.take (s + 1)).count (ln l s) ≤ (l.take t).count (ln l s) := by
    have h2 : l.take (s + 1) = (l.take t).take (s + 1) := by rw [List.take_take, Nat.min_eq_left (by omega)]
    rw [h2]
    exact (List.take_sublist _ _).count_le _
  have h3 : l.take (s + 1) = l.take s ++ [ln l s] := by rw [List.take_add_one]; simp [ln, hs]
  rw [h3, List.count_append, List.count_singleton_self] at h1
  omega
theorem st_mono (l : List Nat) (a b : Nat) (h : a ≤ b) : st l a ≤ st l b := by
  induction b with
  | zero => rw [Nat.le_zero.1 h]; exact Nat.le_refl _
  | succ b ih =>
    rcases Nat.eq_or_lt_of_le h with e | h
    · rw [e]; exact Nat.le_refl _
    · exact Nat.le_trans (ih (by omega)) (Nat.le_add_right _ _)
theorem st_place (l : List Nat) (p K : Nat) (h : p < st l K) : ∃ k, k < K ∧ st l k ≤ p ∧ p < st l k + cn l k := by
  induction K with
  | zero => simp [st] at h
  | succ K ih =>
    rcases Nat.lt_or_ge p (st l K) with h1 | h1
    · obtain ⟨k, h2, h3⟩ := ih h1
      exact ⟨k, by omega, h3⟩
    · exact ⟨K, by omega, h1, h⟩
theorem ps_exists (l : List Nat) (p K : Nat) (h : p < st l K) : ∃ s, Has l s ∧ ps l s = p ∧ ln l s < K := by
  obtain ⟨k, h1, h2, h3⟩ := st_place l p K h
  have hk : k ≠ 0 := by rintro rfl; simp [cn] at h3; omega
  have hc : cn l k = l.count k := by simp [cn, hk]
  obtain ⟨s, e1, e2, e3⟩ := rk_exists k l (p - st l k) (by omega)
  refine ⟨s, ⟨e1, by omega⟩, ?_, by omega⟩
  unfold ps rk
  rw [e2, e3]
  omega
theorem ps_lt (l : List Nat) (s : Nat) (h : Has l s) : ps l s < st l (ln l s + 1) := by
  have := rk_lt l s h
  unfold ps
  rw [st]
  omega
theorem ps_less (l : List Nat) (s t : Nat) (h : Has l s) (e : ln l s < ln l t) : ps l s < ps l t := by
  have h1 := ps_lt l s h
  have h2 := st_mono l (ln l s + 1) (ln l t) e
  have h3 : st l (ln l t) ≤ ps l t := Nat.le_add_right _ _
  omega
theorem ps_inj (l : List Nat) (s t : Nat) (hs : Has l s) (ht : Has l t) (e : ps l s = ps l t) : s = t := by
  rcases Nat.lt_trichotomy (ln l s) (ln l t) with h | h | h
  · have := ps_less l s t hs h; omega
  · have e2 : rk l s = rk l t := by unfold ps at e; rw [h] at e; omega
    rcases Nat.lt_trichotomy s t with g | g | g
    · have := rk_less l s t hs.1 g h; omega
    · exact g
    · have := rk_less l t s ht.1 g h.symm; omega
  · have := ps_less l t s ht h; omega
def Low (l : List Nat) : Prop := ∀ x ∈ l, x ≤ 15
theorem ln_le (l : List Nat) (s : Nat) (h : Low l) : ln l s ≤ 15 := by
  unfold ln
  rw [List.getD_eq_getElem?_getD]
  rcases Nat.lt_or_ge s l.length with hs | hs
  · rw [List.getElem?_eq_getElem hs]; exact h _ (List.getElem_mem hs)
  · rw [List.getElem?_eq_none hs]; exact Nat.zero_le _
theorem ps_lt16 (l : List Nat) (s : Nat) (h : Has l s) (hl : Low l) : ps l s < st l 16 :=
  Nat.lt_of_lt_of_le (ps_lt l s h) (st_mono l _ _ (by have := ln_le l s hl; omega))

/-- The symbol at a place. -/
def sy (l : List Nat) (p : Nat) : Nat := ((List.range l.length).find? fun s => decide (0 < ln l s) && decide (ps l s = p)).getD 0
theorem sy_ps (l : List Nat) (s : Nat) (h : Has l s) : sy l (ps l s) = s := by
  unfold sy
  cases e : (List.range l.length).find? (fun t => decide (0 < ln l t) && decide (ps l t = ps l s)) with
  | none =>
    have := List.find?_eq_none.1 e s (by simpa using h.1)
    simp [h.2] at this
  | some t =>
    have h1 := List.find?_some e
    have h2 := List.mem_of_find?_eq_some e
    simp at h1 h2
    exact ps_inj l t s ⟨h2, h1.1⟩ h h1.2
theorem sy_of (l : List Nat) (p : Nat) (h : p < st l 16) : Has l (sy l p) ∧ ps l (sy l p) = p := by
  obtain ⟨s, h1, h2, _⟩ := ps_exists l p 16 h
  rw [← h2, sy_ps l s h1]
  exact ⟨h1, rfl⟩

/-- Between two lengths that follow each other nothing is added. -/
theorem fi_jump (l : List Nat) (a : Nat) : ∀ b, a ≤ b → st l a = st l b → fi l b = fi l a * 2 ^ (b - a)
  | 0, h, _ => by obtain rfl : a = 0 := by omega
                  simp
  | b + 1, h, e => by
    rcases Nat.eq_or_lt_of_le h with g | g
    · subst g; simp
    · have h1 := st_mono l a b (by omega)
      have h2 : st l (b + 1) = st l b + cn l b := rfl
      have h3 := fi_jump l a b (by omega) (by omega)
      rw [fi, show cn l b = 0 by omega, h3, show b + 1 - a = (b - a) + 1 by omega, Nat.pow_succ, Nat.add_zero, Nat.mul_comm 2, Nat.mul_assoc]
theorem cd_has (l : List Nat) (s : Nat) (h : Has l s) : cd l s = fi l (ln l s) + rk l s := by
  have := h.2
  unfold cd
  rw [if_neg (by omega)]
/-- The first symbol's code is 0. -/
theorem cd_first (l : List Nat) (s : Nat) (h : Has l s) (e : ps l s = 0) : cd l s = 0 := by
  have h1 : st l (ln l s) = 0 ∧ rk l s = 0 := by unfold ps at e; omega
  have h2 := fi_jump l 0 (ln l s) (Nat.zero_le _) (by rw [h1.1]; rfl)
  rw [cd_has l s h, h2, h1.2]
  simp [fi]
/-- Each other one's: that of the one ahead, and 1, times 2 as often as its length is greater. -/
theorem cd_next (l : List Nat) (s t : Nat) (hs : Has l s) (ht : Has l t) (e : ps l t = ps l s + 1) : ln l s ≤ ln l t ∧ cd l t = (cd l s + 1) * 2 ^ (ln l t - ln l s) := by
  rw [cd_has l s hs, cd_has l t ht]
  rcases Nat.lt_trichotomy (ln l s) (ln l t) with h | h | h
  · refine ⟨by omega, ?_⟩
    have h1 := ps_lt l s hs
    have h2 := st_mono l (ln l s + 1) (ln l t) h
    have h3 := rk_lt l s hs
    have h4 : st l (ln l s + 1) = st l (ln l s) + cn l (ln l s) := rfl
    have e1 : ps l t = st l (ln l t) + rk l t := rfl
    have e2 : ps l s = st l (ln l s) + rk l s := rfl
    have h5 := fi_jump l (ln l s + 1) (ln l t) h (by omega)
    rw [h5, fi, show rk l t = 0 by omega, show fi l (ln l s) + rk l s + 1 = fi l (ln l s) + cn l (ln l s) by omega, show ln l t - ln l s = (ln l t - (ln l s + 1)) + 1 by omega, Nat.pow_succ, Nat.add_zero]
    rw [Nat.mul_comm 2, Nat.mul_assoc, Nat.mul_comm 2]
  · have e2 : rk l t = rk l s + 1 := by unfold ps at e; rw [h] at e; omega
    refine ⟨by omega, ?_⟩
    rw [h, Nat.sub_self, e2]
    simp [Nat.add_assoc]
  · have := ps_less l t s ht h; omega

/-- How full, and the codes. -/
theorem fu_fi (l : List Nat) : ∀ k, k ≤ 15 → fu l (k + 1) = (fi l k + cn l k) * 2 ^ (15 - k)
  | 0, _ => by simp [fu, fi]
  | k + 1, h => by
    rw [fu, fu_fi l k (by omega), fi, show 15 - k = (15 - (k + 1)) + 1 by omega, Nat.pow_succ]
    generalize fi l k + cn l k = F
    generalize 2 ^ (15 - (k + 1)) = P
    rw [Nat.add_mul, Nat.mul_comm 2 F, Nat.mul_assoc, Nat.mul_comm 2]
theorem fu_mono (l : List Nat) (a b : Nat) (h : a ≤ b) : fu l a ≤ fu l b := by
  induction b with
  | zero => rw [Nat.le_zero.1 h]; exact Nat.le_refl _
  | succ b ih =>
    rcases Nat.eq_or_lt_of_le h with e | h
    · rw [e]; exact Nat.le_refl _
    · exact Nat.le_trans (ih (by omega)) (Nat.le_add_right _ _)
theorem pow_split (k : Nat) (h : k ≤ 15) : 2 ^ k * 2 ^ (15 - k) = 32768 := by
  rw [← Nat.pow_add, show k + (15 - k) = 15 by omega]
theorem kraft (l : List Nat) (k : Nat) (h : k ≤ 15) (hf : fu l 16 ≤ 32768) : fi l k + cn l k ≤ 2 ^ k := by
  have h1 := fu_fi l k h
  have h2 := fu_mono l (k + 1) 16 (by omega)
  have h3 := pow_split k h
  have h4 : (fi l k + cn l k) * 2 ^ (15 - k) ≤ 2 ^ k * 2 ^ (15 - k) := by omega
  exact Nat.le_of_mul_le_mul_right h4 (Nat.pow_pos (by decide))
theorem cd_lt (l : List Nat) (s : Nat) (h : Has l s) (hl : Low l) (hf : fu l 16 ≤ 32768) : cd l s < 2 ^ ln l s := by
  have h1 := kraft l (ln l s) (ln_le l s hl) hf
  have h2 := rk_lt l s h
  rw [cd_has l s h]
  omega
/-- Without that: no code is great. -/
theorem cn_le (l : List Nat) (k : Nat) : cn l k ≤ l.length := by
  unfold cn
  split
  · exact Nat.zero_le _
  · exact List.count_le_length
theorem fi_le (l : List Nat) (h : l.length ≤ 288) : ∀ k, fi l k ≤ 576 * (2 ^ k - 1)
  | 0 => by simp [fi]
  | k + 1 => by
    have h1 := fi_le l h k
    have h2 := cn_le l k
    have h3 : 0 < 2 ^ k := Nat.pow_pos (by decide)
    rw [fi, Nat.pow_succ]
    omega
theorem fi_small (l : List Nat) (h : l.length ≤ 288) (k : Nat) (hk : k ≤ 16) : fi l k ≤ 37748736 := by
  have h1 := fi_le l h k
  have h2 : 2 ^ k ≤ 2 ^ 16 := Nat.pow_le_pow_right (by decide) hk
  omega
theorem rk_le (l : List Nat) (s : Nat) : rk l s ≤ l.length := by
  unfold rk
  exact Nat.le_trans List.count_le_length (List.length_take_le' _ _)
theorem cd_small (l : List Nat) (h : l.length ≤ 288) (hl : Low l) (s : Nat) : cd l s ≤ 37749024 := by
  have h1 := fi_small l h (ln l s) (by have := ln_le l s hl; omega)
  have h2 := rk_le l s
  unfold cd
  split <;> omega

/-- Of each a number, added. -/
def sumBy (f : Nat → Nat) (l : List Nat) : Nat := (l.map f).sum
def wt (x : Nat) : Nat := if x = 0 then 0 else 2 ^ (15 - x)
def on (x : Nat) : Nat := if x = 0 then 0 else 1
theorem sumBy_take (f : Nat → Nat) (l : List Nat) (i : Nat) (h : i < l.length) : sumBy f (l.take (i + 1)) = sumBy f (l.take i) + f (ln l i) := by
  have h3 : l.take (i + 1) = l.take i ++ [ln l i] := by rw [List.take_add_one]; simp [ln, h]
  rw [h3]
  simp [sumBy]
theorem cn_cons (x : Nat) (l : List Nat) (k : Nat) : cn (x :: l) k = cn l k + if x = k ∧ k ≠ 0 then 1 else 0 := by
  unfold cn
  by_cases hk : k = 0
  · simp [hk]
  · by_cases hx : x = k
    · subst hx; simp [hk]
    · simp [hk, hx]
theorem st_cons (x : Nat) (l : List Nat) : ∀ k, st (x :: l) k = st l k + if x < k then on x else 0
  | 0 => by simp [st]
  | k + 1 => by
    rw [st, st, st_cons x l k, cn_cons]
    unfold on
    by_cases h1 : x = k
    · subst h1
      by_cases h2 : x = 0
      · simp [h2]
      · simp [h2]; omega
    · by_cases h3 : x < k
      · have h4 : x < k + 1 := by omega
        simp only [h1, h3, h4, false_and, if_true, if_false, Nat.add_zero]
        omega
      · have h4 : ¬ x < k + 1 := by omega
        simp only [h1, h3, h4, false_and, if_false, Nat.add_zero]
theorem fu_cons (x : Nat) (l : List Nat) : ∀ k, fu (x :: l) k = fu l k + if x < k then wt x else 0
  | 0 => by simp [fu]
  | k + 1 => by
    rw [fu, fu, fu_cons x l k, cn_cons]
    unfold wt
    by_cases h1 : x = k
    · subst h1
      by_cases h2 : x = 0
      · simp [h2]
      · simp [h2, Nat.add_mul]; omega
    · by_cases h3 : x < k
      · have h4 : x < k + 1 := by omega
        simp only [h1, h3, h4, false_and, if_true, if_false, Nat.add_zero]
        omega
      · have h4 : ¬ x < k + 1 := by omega
        simp only [h1, h3, h4, false_and, if_false, Nat.add_zero]
theorem st_sum : ∀ l : List Nat, Low l → st l 16 = sumBy on l
  | [], _ => by decide
  | x :: l, h => by
    have hx : x ≤ 15 := h x List.mem_cons_self
    rw [st_cons, st_sum l (fun y hy => h y (List.mem_cons_of_mem _ hy)), if_pos (by omega)]
    simp [sumBy, Nat.add_comm]
theorem fu_sum : ∀ l : List Nat, Low l → fu l 16 = sumBy wt l
  | [], _ => by decide
  | x :: l, h => by
    have hx : x ≤ 15 := h x List.mem_cons_self
    rw [fu_cons, fu_sum l (fun y hy => h y (List.mem_cons_of_mem _ hy)), if_pos (by omega)]
    simp [sumBy, Nat.add_comm]
theorem sumBy_le (f : Nat → Nat) (B : Nat) (hf : ∀ x, f x ≤ B) : ∀ l : List Nat, sumBy f l ≤ B * l.length
  | [] => by simp [sumBy]
  | x :: l => by
    have h1 := sumBy_le f B hf l
    have h2 := hf x
    simp only [sumBy, List.map_cons, List.sum_cons, List.length_cons, Nat.mul_add] at h1 ⊢
    omega
theorem wt_le (x : Nat) : wt x ≤ 32768 := by
  unfold wt
  split
  · omega
  · exact Nat.pow_le_pow_right (n := 2) (j := 15) (by decide) (by omega)
theorem on_le (x : Nat) : on x ≤ 1 := by unfold on; split <;> omega
/-- The last that isn't 0. -/
def lst (o : Nat) (l : List Nat) : Nat := l.foldl (fun o x => if x = 0 then o else x) o
theorem lst_take (o : Nat) (l : List Nat) (i : Nat) (h : i < l.length) : lst o (l.take (i + 1)) = if ln l i = 0 then lst o (l.take i) else ln l i := by
  have h3 : l.take (i + 1) = l.take i ++ [ln l i] := by rw [List.take_add_one]; simp [ln, h]
  rw [h3]
  simp [lst, List.foldl_append]
theorem lst_none : ∀ (l : List Nat) (o : Nat), sumBy on l = 0 → lst o l = o ∧ sumBy wt l = 0
  | [], _, _ => ⟨rfl, rfl⟩
  | x :: l, o, h => by
    have h1 : on x + sumBy on l = 0 := by simpa [sumBy] using h
    have hx : x = 0 := by
      by_cases hx : x = 0
      · exact hx
      · simp [on, hx] at h1
    subst hx
    have h2 := lst_none l o (by omega)
    exact ⟨by simpa [lst] using h2.1, by simpa [sumBy, wt] using h2.2⟩
theorem lst_one : ∀ (l : List Nat) (o : Nat), Low l → sumBy on l = 1 → 1 ≤ lst o l ∧ lst o l ≤ 15 ∧ sumBy wt l = 2 ^ (15 - lst o l)
  | [], _, _, h => by simp [sumBy] at h
  | x :: l, o, hl, h => by
    have h1 : on x + sumBy on l = 1 := by simpa [sumBy] using h
    have hl' : Low l := fun y hy => hl y (List.mem_cons_of_mem _ hy)
    by_cases hx : x = 0
    · subst hx
      have h2 := lst_one l o hl' (by simpa [on] using h1)
      exact ⟨by simpa [lst] using h2.1, by simpa [lst] using h2.2.1, by simpa [lst, sumBy, wt] using h2.2.2⟩
    · have h2 := lst_none l x (by simp [on, hx] at h1; omega)
      have h3 : lst o (x :: l) = x := by
        have : lst o (x :: l) = lst x l := by simp [lst, hx]
        rw [this, h2.1]
      have hx15 : x ≤ 15 := hl x List.mem_cons_self
      have h4 : sumBy wt (x :: l) = wt x + sumBy wt l := by simp [sumBy]
      rw [h3, h4, h2.2]
      exact ⟨by omega, hx15, by simp [wt, hx]⟩
theorem lst_le (B : Nat) : ∀ (l : List Nat) (o : Nat), o ≤ B → (∀ x ∈ l, x ≤ B) → lst o l ≤ B
  | [], _, h, _ => h
  | x :: l, o, h, hl => by
    have : lst o (x :: l) = lst (if x = 0 then o else x) l := rfl
    rw [this]
    refine lst_le B l _ ?_ fun y hy => hl y (List.mem_cons_of_mem _ hy)
    split
    · exact h
    · exact hl x List.mem_cons_self

/-- Which code lengths make, and the error: as the document says it. -/
def kd (l : List Nat) : Nat × Nat := if st l 16 = 0 then (2, 0) else if st l 16 = 1 ∧ fu l 16 = 16384 then (1, 0) else if fu l 16 = 32768 then (0, 0) else (0, 10)
theorem fu_zero (l : List Nat) (hl : Low l) (h : st l 16 = 0) : fu l 16 = 0 := by
  rw [fu_sum l hl]
  rw [st_sum l hl] at h
  exact (lst_none l 0 h).2
theorem kd_cases (l : List Nat) (hl : Low l) :
    (fu l 16 = 32768 ∧ st l 16 ≠ 0 ∧ kd l = (0, 0)) ∨ (fu l 16 = 16384 ∧ st l 16 = 1 ∧ kd l = (1, 0)) ∨ (fu l 16 = 0 ∧ st l 16 = 0 ∧ kd l = (2, 0)) ∨ (fu l 16 ≠ 32768 ∧ ¬ (st l 16 = 1 ∧ fu l 16 = 16384) ∧ st l 16 ≠ 0 ∧ kd l = (0, 10)) := by
  unfold kd
  by_cases h0 : st l 16 = 0
  · right; right; left
    exact ⟨fu_zero l hl h0, h0, by simp [h0]⟩
  · by_cases h1 : st l 16 = 1 ∧ fu l 16 = 16384
    · right; left
      exact ⟨h1.2, h1.1, by simp [h1.1, h1.2]⟩
    · by_cases h2 : fu l 16 = 32768
      · left
        refine ⟨h2, h0, ?_⟩
        rw [if_neg h0, if_neg h1, if_pos h2]
      · right; right; right
        refine ⟨h2, h1, h0, ?_⟩
        rw [if_neg h0, if_neg h1, if_neg h2]
theorem kd_full (l : List Nat) (hl : Low l) (h : (kd l).2 = 0) : fu l 16 ≤ 32768 := by
  rcases kd_cases l hl with ⟨h1, _⟩ | ⟨h1, _⟩ | ⟨h1, _⟩ | ⟨_, _, _, h1⟩
  · omega
  · omega
  · omega
  · rw [h1] at h; simp at h
end Go.Proofs.YtackcgiokkbhdaaDoor
