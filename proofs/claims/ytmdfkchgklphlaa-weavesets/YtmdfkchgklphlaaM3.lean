/- Layers 5 and 7 in plain words: codes, tokens; slices that read as cells. -/
import Derived.Test.YtmdfkchgklphlaaM1
import Derived.Test.YtmdfkchgklphlaaM2
import Derived.Test.YtmdfkchgklphlaaChecked
import Derived.Below
import Derived.ChangeSlices
import Derived.Deep.LoopGhost
import Derived.BigQuiet
import Derived.Deep.DeepCutAuto
import Derived.Deep.RegionLaw
import Derived.Deep.RegionHeld3
import Derived.BigRegion
import Derived.Deep.MidRow
import Derived.Laws.Rows
import Derived.Laws.Tables
/- Plain arithmetic of layer 5: codes of which none begins another one, by how many have each length. No Go in sight. -/
namespace Go.Proofs.Ytmdfkchgklphlaa

/-- How many have the length k; of length 0 there is no code. -/
def cn (l : List Nat) (k : Nat) : Nat := if k = 0 then 0 else l.count k
/-- How many have codes shorter than k. -/
def st (l : List Nat) : Nat → Nat
  | 0 => 0
  | k + 1 => st l k + cn l k
/-- The first code of length k. -/
def fi (l : List Nat) : Nat → Nat
  | 0 => 0
  | k + 1 => 2 * (fi l k + cn l k)
/-- How full those are that are shorter than k. -/
def fu (l : List Nat) : Nat → Nat
  | 0 => 0
  | k + 1 => fu l k + cn l k * 2 ^ (15 - k)
def ln (l : List Nat) (s : Nat) : Nat := l.getD s 0
def rk (l : List Nat) (s : Nat) : Nat := (l.take s).count (ln l s)
/-- The place of a symbol among those that have codes. -/
def ps (l : List Nat) (s : Nat) : Nat := st l (ln l s) + rk l s
/-- Its code. -/
def cd (l : List Nat) (s : Nat) : Nat := if ln l s = 0 then 0 else fi l (ln l s) + rk l s
/-- A symbol that has a code. -/
def Has (l : List Nat) (s : Nat) : Prop := s < l.length ∧ 0 < ln l s

theorem split_at (l : List Nat) (s : Nat) (h : s < l.length) : l = l.take s ++ ln l s :: l.drop (s + 1) := by
  have : ln l s = l[s] := by simp [ln, h]
  rw [this, List.getElem_cons_drop h, List.take_append_drop]
theorem rk_lt (l : List Nat) (s : Nat) (h : Has l s) : rk l s < cn l (ln l s) := by
  obtain ⟨h1, h2⟩ := h
  unfold cn rk
  rw [if_neg (by omega)]
  conv => rhs; arg 2; rw [split_at l s h1]
  rw [List.count_append, List.count_cons_self]
  omega
theorem rk_exists (k : Nat) : ∀ (l : List Nat) (r : Nat), r < l.count k → ∃ s, s < l.length ∧ ln l s = k ∧ (l.take s).count k = r
  | [], r, h => by simp at h
  | x :: l, r, h => by
    by_cases hx : x = k
    · subst hx
      rcases r with _ | r
      · exact ⟨0, by simp, rfl, by simp⟩
      · rw [List.count_cons_self] at h
        obtain ⟨s, h1, h2, h3⟩ := rk_exists x l r (by omega)
        exact ⟨s + 1, by simpa using h1, by simpa [ln] using h2, by rw [List.take_succ_cons, List.count_cons_self, h3]⟩
    · rw [List.count_cons_of_ne hx] at h
      obtain ⟨s, h1, h2, h3⟩ := rk_exists k l r h
      exact ⟨s + 1, by simpa using h1, by simpa [ln] using h2, by rw [List.take_succ_cons, List.count_cons_of_ne hx, h3]⟩
theorem rk_less (l : List Nat) (s t : Nat) (hs : s < l.length) (hst : s < t) (e : ln l s = ln l t) : rk l s < rk l t := by
  unfold rk
  rw [← e]
  have h1 : (l.take (s + 1)).count (ln l s) ≤ (l.take t).count (ln l s) := by
    have h2 : l.take (s + 1) = (l.take t).take (s + 1) := by rw [List.take_take, Nat.min_eq_left (by omega)]
    rw [h2]
    exact (List.take_sublist _ _).count_le _
  have h3 : l.take (s + 1) = l.take s ++ [ln l s] := by rw [List.take_add_one]; simp [ln, hs]
  rw [h3, List.count_append, List.count_singleton_self] at h1
  omega
theorem st_mono (l : List Nat) (a b : Nat) (h : a ≤ b) : st l a ≤ st l b := by
  induction b with
  | zero => rw [Nat.le_zero.1 h]; exact Nat.le_refl _
  | succ b ih =>
    rcases Nat.eq_or_lt_of_le h with e | h
    · rw [e]; exact Nat.le_refl _
    · exact Nat.le_trans (ih (by omega)) (Nat.le_add_right _ _)
theorem st_place (l : List Nat) (p K : Nat) (h : p < st l K) : ∃ k, k < K ∧ st l k ≤ p ∧ p < st l k + cn l k := by
  induction K with
  | zero => simp [st] at h
  | succ K ih =>
    rcases Nat.lt_or_ge p (st l K) with h1 | h1
    · obtain ⟨k, h2, h3⟩ := ih h1
      exact ⟨k, by omega, h3⟩
    · exact ⟨K, by omega, h1, h⟩
theorem ps_exists (l : List Nat) (p K : Nat) (h : p < st l K) : ∃ s, Has l s ∧ ps l s = p ∧ ln l s < K := by
  obtain ⟨k, h1, h2, h3⟩ := st_place l p K h
  have hk : k ≠ 0 := by rintro rfl; simp [cn] at h3; omega
  have hc : cn l k = l.count k := by simp [cn, hk]
  obtain ⟨s, e1, e2, e3⟩ := rk_exists k l (p - st l k) (by omega)
  refine ⟨s, ⟨e1, by omega⟩, ?_, by omega⟩
  unfold ps rk
  rw [e2, e3]
  omega
theorem ps_lt (l : List Nat) (s : Nat) (h : Has l s) : ps l s < st l (ln l s + 1) := by
  have := rk_lt l s h
  unfold ps
  rw [st]
  omega
theorem ps_less (l : List Nat) (s t : Nat) (h : Has l s) (e : ln l s < ln l t) : ps l s < ps l t := by
  have h1 := ps_lt l s h
  have h2 := st_mono l (ln l s + 1) (ln l t) e
  have h3 : st l (ln l t) ≤ ps l t := Nat.le_add_right _ _
  omega
theorem ps_inj (l : List Nat) (s t : Nat) (hs : Has l s) (ht : Has l t) (e : ps l s = ps l t) : s = t := by
  rcases Nat.lt_trichotomy (ln l s) (ln l t) with h | h | h
  · have := ps_less l s t hs h; omega
  · have e2 : rk l s = rk l t := by unfold ps at e; rw [h] at e; omega
    rcases Nat.lt_trichotomy s t with g | g | g
    · have := rk_less l s t hs.1 g h; omega
    · exact g
    · have := rk_less l t s ht.1 g h.symm; omega
  · have := ps_less l t s ht h; omega
def Low (l : List Nat) : Prop := ∀ x ∈ l, x ≤ 15
theorem ln_le (l : List Nat) (s : Nat) (h : Low l) : ln l s ≤ 15 := by
  unfold ln
  rw [List.getD_eq_getElem?_getD]
  rcases Nat.lt_or_ge s l.length with hs | hs
  · rw [List.getElem?_eq_getElem hs]; exact h _ (List.getElem_mem hs)
  · rw [List.getElem?_eq_none hs]; exact Nat.zero_le _
theorem ps_lt16 (l : List Nat) (s : Nat) (h : Has l s) (hl : Low l) : ps l s < st l 16 :=
  Nat.lt_of_lt_of_le (ps_lt l s h) (st_mono l _ _ (by have := ln_le l s hl; omega))

/-- The symbol at a place. -/
def sy (l : List Nat) (p : Nat) : Nat := ((List.range l.length).find? fun s => decide (0 < ln l s) && decide (ps l s = p)).getD 0
theorem sy_ps (l : List Nat) (s : Nat) (h : Has l s) : sy l (ps l s) = s := by
  unfold sy
  cases e : (List.range l.length).find? (fun t => decide (0 < ln l t) && decide (ps l t = ps l s)) with
  | none =>
    have := List.find?_eq_none.1 e s (by simpa using h.1)
    simp [h.2] at this
  | some t =>
    have h1 := List.find?_some e
    have h2 := List.mem_of_find?_eq_some e
    simp at h1 h2
    exact ps_inj l t s ⟨h2, h1.1⟩ h h1.2
theorem sy_of (l : List Nat) (p : Nat) (h : p < st l 16) : Has l (sy l p) ∧ ps l (sy l p) = p := by
  obtain ⟨s, h1, h2, _⟩ := ps_exists l p 16 h
  rw [← h2, sy_ps l s h1]
  exact ⟨h1, rfl⟩

/-- Between two lengths that follow each other nothing is added. -/
theorem fi_jump (l : List Nat) (a : Nat) : ∀ b, a ≤ b → st l a = st l b → fi l b = fi l a * 2 ^ (b - a)
  | 0, h, _ => by obtain rfl : a = 0 := by omega
                  simp
  | b + 1, h, e => by
    rcases Nat.eq_or_lt_of_le h with g | g
    · subst g; simp
    · have h1 := st_mono l a b (by omega)
      have h2 : st l (b + 1) = st l b + cn l b := rfl
      have h3 := fi_jump l a b (by omega) (by omega)
      rw [fi, show cn l b = 0 by omega, h3, show b + 1 - a = (b - a) + 1 by omega, Nat.pow_succ, Nat.add_zero, Nat.mul_comm 2, Nat.mul_assoc]
theorem cd_has (l : List Nat) (s : Nat) (h : Has l s) : cd l s = fi l (ln l s) + rk l s := by
  have := h.2
  unfold cd
  rw [if_neg (by omega)]
/-- The first symbol's code is 0. -/
theorem cd_first (l : List Nat) (s : Nat) (h : Has l s) (e : ps l s = 0) : cd l s = 0 := by
  have h1 : st l (ln l s) = 0 ∧ rk l s = 0 := by unfold ps at e; omega
  have h2 := fi_jump l 0 (ln l s) (Nat.zero_le _) (by rw [h1.1]; rfl)
  rw [cd_has l s h, h2, h1.2]
  simp [fi]
/-- Each other one's: that of the one ahead, and 1, times 2 as often as its length is greater. -/
theorem cd_next (l : List Nat) (s t : Nat) (hs : Has l s) (ht : Has l t) (e : ps l t = ps l s + 1) : ln l s ≤ ln l t ∧ cd l t = (cd l s + 1) * 2 ^ (ln l t - ln l s) := by
  rw [cd_has l s hs, cd_has l t ht]
  rcases Nat.lt_trichotomy (ln l s) (ln l t) with h | h | h
  · refine ⟨by omega, ?_⟩
    have h1 := ps_lt l s hs
    have h2 := st_mono l (ln l s + 1) (ln l t) h
    have h3 := rk_lt l s hs
    have h4 : st l (ln l s + 1) = st l (ln l s) + cn l (ln l s) := rfl
    have e1 : ps l t = st l (ln l t) + rk l t := rfl
    have e2 : ps l s = st l (ln l s) + rk l s := rfl
    have h5 := fi_jump l (ln l s + 1) (ln l t) h (by omega)
    rw [h5, fi, show rk l t = 0 by omega, show fi l (ln l s) + rk l s + 1 = fi l (ln l s) + cn l (ln l s) by omega, show ln l t - ln l s = (ln l t - (ln l s + 1)) + 1 by omega, Nat.pow_succ, Nat.add_zero]
    rw [Nat.mul_comm 2, Nat.mul_assoc, Nat.mul_comm 2]
  · have e2 : rk l t = rk l s + 1 := by unfold ps at e; rw [h] at e; omega
    refine ⟨by omega, ?_⟩
    rw [h, Nat.sub_self, e2]
    simp [Nat.add_assoc]
  · have := ps_less l t s ht h; omega

/-- How full, and the codes. -/
theorem fu_fi (l : List Nat) : ∀ k, k ≤ 15 → fu l (k + 1) = (fi l k + cn l k) * 2 ^ (15 - k)
  | 0, _ => by simp [fu, fi]
  | k + 1, h => by
    rw [fu, fu_fi l k (by omega), fi, show 15 - k = (15 - (k + 1)) + 1 by omega, Nat.pow_succ]
    generalize fi l k + cn l k = F
    generalize 2 ^ (15 - (k + 1)) = P
    rw [Nat.add_mul, Nat.mul_comm 2 F, Nat.mul_assoc, Nat.mul_comm 2]
theorem fu_mono (l : List Nat) (a b : Nat) (h : a ≤ b) : fu l a ≤ fu l b := by
  induction b with
  | zero => rw [Nat.le_zero.1 h]; exact Nat.le_refl _
  | succ b ih =>
    rcases Nat.eq_or_lt_of_le h with e | h
    · rw [e]; exact Nat.le_refl _
    · exact Nat.le_trans (ih (by omega)) (Nat.le_add_right _ _)
theorem pow_split (k : Nat) (h : k ≤ 15) : 2 ^ k * 2 ^ (15 - k) = 32768 := by
  rw [← Nat.pow_add, show k + (15 - k) = 15 by omega]
theorem kraft (l : List Nat) (k : Nat) (h : k ≤ 15) (hf : fu l 16 ≤ 32768) : fi l k + cn l k ≤ 2 ^ k := by
  have h1 := fu_fi l k h
  have h2 := fu_mono l (k + 1) 16 (by omega)
  have h3 := pow_split k h
  have h4 : (fi l k + cn l k) * 2 ^ (15 - k) ≤ 2 ^ k * 2 ^ (15 - k) := by omega
  exact Nat.le_of_mul_le_mul_right h4 (Nat.pow_pos (by decide))
theorem cd_lt (l : List Nat) (s : Nat) (h : Has l s) (hl : Low l) (hf : fu l 16 ≤ 32768) : cd l s < 2 ^ ln l s := by
  have h1 := kraft l (ln l s) (ln_le l s hl) hf
  have h2 := rk_lt l s h
  rw [cd_has l s h]
  omega
/-- Without that: no code is great. -/
theorem cn_le (l : List Nat) (k : Nat) : cn l k ≤ l.length := by
  unfold cn
  split
  · exact Nat.zero_le _
  · exact List.count_le_length
theorem fi_le (l : List Nat) (h : l.length ≤ 288) : ∀ k, fi l k ≤ 576 * (2 ^ k - 1)
  | 0 => by simp [fi]
  | k + 1 => by
    have h1 := fi_le l h k
    have h2 := cn_le l k
    have h3 : 0 < 2 ^ k := Nat.pow_pos (by decide)
    rw [fi, Nat.pow_succ]
    omega
theorem fi_small (l : List Nat) (h : l.length ≤ 288) (k : Nat) (hk : k ≤ 16) : fi l k ≤ 37748736 := by
  have h1 := fi_le l h k
  have h2 : 2 ^ k ≤ 2 ^ 16 := Nat.pow_le_pow_right (by decide) hk
  omega
theorem rk_le (l : List Nat) (s : Nat) : rk l s ≤ l.length := by
  unfold rk
  exact Nat.le_trans List.count_le_length (List.length_take_le' _ _)
theorem cd_small (l : List Nat) (h : l.length ≤ 288) (hl : Low l) (s : Nat) : cd l s ≤ 37749024 := by
  have h1 := fi_small l h (ln l s) (by have := ln_le l s hl; omega)
  have h2 := rk_le l s
  unfold cd
  split <;> omega

/-- Of each a number, added. -/
def sumBy (f : Nat → Nat) (l : List Nat) : Nat := (l.map f).sum
def wt (x : Nat) : Nat := if x = 0 then 0 else 2 ^ (15 - x)
def on (x : Nat) : Nat := if x = 0 then 0 else 1
theorem sumBy_take (f : Nat → Nat) (l : List Nat) (i : Nat) (h : i < l.length) : sumBy f (l.take (i + 1)) = sumBy f (l.take i) + f (ln l i) := by
  have h3 : l.take (i + 1) = l.take i ++ [ln l i] := by rw [List.take_add_one]; simp [ln, h]
  rw [h3]
  simp [sumBy]
theorem cn_cons (x : Nat) (l : List Nat) (k : Nat) : cn (x :: l) k = cn l k + if x = k ∧ k ≠ 0 then 1 else 0 := by
  unfold cn
  by_cases hk : k = 0
  · simp [hk]
  · by_cases hx : x = k
    · subst hx; simp [hk]
    · simp [hk, hx]
theorem st_cons (x : Nat) (l : List Nat) : ∀ k, st (x :: l) k = st l k + if x < k then on x else 0
  | 0 => by simp [st]
  | k + 1 => by
    rw [st, st, st_cons x l k, cn_cons]
    unfold on
    by_cases h1 : x = k
    · subst h1
      by_cases h2 : x = 0
      · simp [h2]
      · simp [h2]; omega
    · by_cases h3 : x < k
      · have h4 : x < k + 1 := by omega
        simp only [h1, h3, h4, false_and, if_true, if_false, Nat.add_zero]
        omega
      · have h4 : ¬ x < k + 1 := by omega
        simp only [h1, h3, h4, false_and, if_false, Nat.add_zero]
theorem fu_cons (x : Nat) (l : List Nat) : ∀ k, fu (x :: l) k = fu l k + if x < k then wt x else 0
  | 0 => by simp [fu]
  | k + 1 => by
    rw [fu, fu, fu_cons x l k, cn_cons]
    unfold wt
    by_cases h1 : x = k
    · subst h1
      by_cases h2 : x = 0
      · simp [h2]
      · simp [h2, Nat.add_mul]; omega
    · by_cases h3 : x < k
      · have h4 : x < k + 1 := by omega
        simp only [h1, h3, h4, false_and, if_true, if_false, Nat.add_zero]
        omega
      · have h4 : ¬ x < k + 1 := by omega
        simp only [h1, h3, h4, false_and, if_false, Nat.add_zero]
theorem st_sum : ∀ l : List Nat, Low l → st l 16 = sumBy on l
  | [], _ => by decide
  | x :: l, h => by
    have hx : x ≤ 15 := h x List.mem_cons_self
    rw [st_cons, st_sum l (fun y hy => h y (List.mem_cons_of_mem _ hy)), if_pos (by omega)]
    simp [sumBy, Nat.add_comm]
theorem fu_sum : ∀ l : List Nat, Low l → fu l 16 = sumBy wt l
  | [], _ => by decide
  | x :: l, h => by
    have hx : x ≤ 15 := h x List.mem_cons_self
    rw [fu_cons, fu_sum l (fun y hy => h y (List.mem_cons_of_mem _ hy)), if_pos (by omega)]
    simp [sumBy, Nat.add_comm]
theorem sumBy_le (f : Nat → Nat) (B : Nat) (hf : ∀ x, f x ≤ B) : ∀ l : List Nat, sumBy f l ≤ B * l.length
  | [] => by simp [sumBy]
  | x :: l => by
    have h1 := sumBy_le f B hf l
    have h2 := hf x
    simp only [sumBy, List.map_cons, List.sum_cons, List.length_cons, Nat.mul_add] at h1 ⊢
    omega
theorem wt_le (x : Nat) : wt x ≤ 32768 := by
  unfold wt
  split
  · omega
  · exact Nat.pow_le_pow_right (n := 2) (j := 15) (by decide) (by omega)
theorem on_le (x : Nat) : on x ≤ 1 := by unfold on; split <;> omega
/-- The last that isn't 0. -/
def lst (o : Nat) (l : List Nat) : Nat := l.foldl (fun o x => if x = 0 then o else x) o
theorem lst_take (o : Nat) (l : List Nat) (i : Nat) (h : i < l.length) : lst o (l.take (i + 1)) = if ln l i = 0 then lst o (l.take i) else ln l i := by
  have h3 : l.take (i + 1) = l.take i ++ [ln l i] := by rw [List.take_add_one]; simp [ln, h]
  rw [h3]
  simp [lst, List.foldl_append]
theorem lst_none : ∀ (l : List Nat) (o : Nat), sumBy on l = 0 → lst o l = o ∧ sumBy wt l = 0
  | [], _, _ => ⟨rfl, rfl⟩
  | x :: l, o, h => by
    have h1 : on x + sumBy on l = 0 := by simpa [sumBy] using h
    have hx : x = 0 := by
      by_cases hx : x = 0
      · exact hx
      · simp [on, hx] at h1
    subst hx
    have h2 := lst_none l o (by omega)
    exact ⟨by simpa [lst] using h2.1, by simpa [sumBy, wt] using h2.2⟩
theorem lst_one : ∀ (l : List Nat) (o : Nat), Low l → sumBy on l = 1 → 1 ≤ lst o l ∧ lst o l ≤ 15 ∧ sumBy wt l = 2 ^ (15 - lst o l)
  | [], _, _, h => by simp [sumBy] at h
  | x :: l, o, hl, h => by
    have h1 : on x + sumBy on l = 1 := by simpa [sumBy] using h
    have hl' : Low l := fun y hy => hl y (List.mem_cons_of_mem _ hy)
    by_cases hx : x = 0
    · subst hx
      have h2 := lst_one l o hl' (by simpa [on] using h1)
      exact ⟨by simpa [lst] using h2.1, by simpa [lst] using h2.2.1, by simpa [lst, sumBy, wt] using h2.2.2⟩
    · have h2 := lst_none l x (by simp [on, hx] at h1; omega)
      have h3 : lst o (x :: l) = x := by
        have : lst o (x :: l) = lst x l := by simp [lst, hx]
        rw [this, h2.1]
      have hx15 : x ≤ 15 := hl x List.mem_cons_self
      have h4 : sumBy wt (x :: l) = wt x + sumBy wt l := by simp [sumBy]
      rw [h3, h4, h2.2]
      exact ⟨by omega, hx15, by simp [wt, hx]⟩
theorem lst_le (B : Nat) : ∀ (l : List Nat) (o : Nat), o ≤ B → (∀ x ∈ l, x ≤ B) → lst o l ≤ B
  | [], _, h, _ => h
  | x :: l, o, h, hl => by
    have : lst o (x :: l) = lst (if x = 0 then o else x) l := rfl
    rw [this]
    refine lst_le B l _ ?_ fun y hy => hl y (List.mem_cons_of_mem _ hy)
    split
    · exact h
    · exact hl x List.mem_cons_self

/-- Which code lengths make, and the error: as the document says it. -/
def kd (l : List Nat) : Nat × Nat := if st l 16 = 0 then (2, 0) else if st l 16 = 1 ∧ fu l 16 = 16384 then (1, 0) else if fu l 16 = 32768 then (0, 0) else (0, 10)
theorem fu_zero (l : List Nat) (hl : Low l) (h : st l 16 = 0) : fu l 16 = 0 := by
  rw [fu_sum l hl]
  rw [st_sum l hl] at h
  exact (lst_none l 0 h).2
theorem kd_cases (l : List Nat) (hl : Low l) :
    (fu l 16 = 32768 ∧ st l 16 ≠ 0 ∧ kd l = (0, 0)) ∨ (fu l 16 = 16384 ∧ st l 16 = 1 ∧ kd l = (1, 0)) ∨ (fu l 16 = 0 ∧ st l 16 = 0 ∧ kd l = (2, 0)) ∨ (fu l 16 ≠ 32768 ∧ ¬ (st l 16 = 1 ∧ fu l 16 = 16384) ∧ st l 16 ≠ 0 ∧ kd l = (0, 10)) := by
  unfold kd
  by_cases h0 : st l 16 = 0
  · right; right; left
    exact ⟨fu_zero l hl h0, h0, by simp [h0]⟩
  · by_cases h1 : st l 16 = 1 ∧ fu l 16 = 16384
    · right; left
      exact ⟨h1.2, h1.1, by simp [h1.1, h1.2]⟩
    · by_cases h2 : fu l 16 = 32768
      · left
        refine ⟨h2, h0, ?_⟩
        rw [if_neg h0, if_neg h1, if_pos h2]
      · right; right; right
        refine ⟨h2, h1, h0, ?_⟩
        rw [if_neg h0, if_neg h1, if_neg h2]
theorem kd_full (l : List Nat) (hl : Low l) (h : (kd l).2 = 0) : fu l 16 ≤ 32768 := by
  rcases kd_cases l hl with ⟨h1, _⟩ | ⟨h1, _⟩ | ⟨h1, _⟩ | ⟨_, _, _, h1⟩
  · omega
  · omega
  · omega
  · rw [h1] at h; simp at h
end Go.Proofs.Ytmdfkchgklphlaa

/- Plain arithmetic of layer 5: how bits are read by a code, and a code's bits turned round. No Go in sight. -/
namespace Go.Proofs.Ytmdfkchgklphlaa

/-- The longest code's length. -/
def lgf (l : List Nat) : Nat → Nat
  | 0 => 0
  | k + 1 => if cn l (k + 1) = 0 then lgf l k else k + 1
def lg (l : List Nat) : Nat := lgf l 15
theorem lgf_le (l : List Nat) : ∀ k, lgf l k ≤ k
  | 0 => Nat.le_refl _
  | k + 1 => by
    unfold lgf
    split
    · exact Nat.le_trans (lgf_le l k) (Nat.le_succ k)
    · exact Nat.le_refl _
theorem lg_le (l : List Nat) : lg l ≤ 15 := lgf_le l 15
theorem lgf_above (l : List Nat) : ∀ K k, lgf l K < k → k ≤ K → cn l k = 0
  | 0, k, h, h2 => by omega
  | K + 1, k, h, h2 => by
    unfold lgf at h
    split at h
    · rename_i h0
      rcases Nat.eq_or_lt_of_le h2 with e | h3
      · rw [e]; exact h0
      · exact lgf_above l K k h (by omega)
    · omega
theorem lgf_has (l : List Nat) : ∀ K, lgf l K = 0 ∨ cn l (lgf l K) ≠ 0
  | 0 => .inl rfl
  | K + 1 => by
    unfold lgf
    split
    · exact lgf_has l K
    · rename_i h0; exact .inr h0
theorem st_above (l : List Nat) (a : Nat) : ∀ b, a ≤ b → (∀ k, a ≤ k → k < b → cn l k = 0) → st l b = st l a ∧ fu l b = fu l a
  | 0, h, _ => by obtain rfl : a = 0 := by omega
                  exact ⟨rfl, rfl⟩
  | b + 1, h, hz => by
    rcases Nat.eq_or_lt_of_le h with e | h1
    · rw [e]; exact ⟨rfl, rfl⟩
    · have h2 := st_above l a b (by omega) fun k h3 h4 => hz k h3 (by omega)
      have h3 := hz b (by omega) (by omega)
      rw [st, fu, h3, h2.1, h2.2]
      simp
theorem lg_top (l : List Nat) : st l 16 = st l (lg l + 1) ∧ fu l 16 = fu l (lg l + 1) :=
  st_above l (lg l + 1) 16 (by have := lg_le l; omega) fun k h1 h2 => lgf_above l 15 k h1 (by omega)
theorem lg_zero (l : List Nat) (h : st l 16 = 0) : lg l = 0 := by
  have h1 := lgf_has l 15
  have h2 := st_mono l (lg l + 1) 16 (by have := lg_le l; omega)
  have h3 : st l (lg l + 1) = st l (lg l) + cn l (lg l) := rfl
  unfold lg at *
  omega
theorem lg_pos (l : List Nat) (h : st l 16 ≠ 0) : 1 ≤ lg l := by
  have h1 := (lg_top l).1
  rcases Nat.eq_zero_or_pos (lg l) with e | e
  · rw [e] at h1
    have h2 : st l (0 + 1) = 0 := by simp [st, cn]
    omega
  · exact e
theorem lone_lg (l : List Nat) (h : st l 16 = 1) (hf : fu l 16 = 16384) : lg l = 1 ∧ cn l 1 = 1 := by
  have h1 := lg_pos l (by omega)
  have h2 := lg_le l
  have h3 := lg_top l
  have h4 := fu_fi l (lg l) h2
  have h5 : st l (lg l + 1) = st l (lg l) + cn l (lg l) := rfl
  have h6 : cn l (lg l) ≠ 0 := by rcases lgf_has l 15 with e | e <;> unfold lg at *; omega; exact e
  have h7 : st l (lg l) = 0 := by omega
  have h8 := fi_jump l 0 (lg l) (Nat.zero_le _) (by rw [h7]; rfl)
  simp [fi] at h8
  have h9 : cn l (lg l) = 1 := by omega
  rw [h8, h9, ← h3.2, hf] at h4
  have e : lg l = 1 := by
    have : 2 ^ 14 = 2 ^ (15 - lg l) := by omega
    have := (Nat.pow_right_inj (a := 2) (by decide)).1 this
    omega
  rw [e] at h9
  exact ⟨e, h9⟩

/-- One bit out of a list. -/
def bt (b : List UInt8) (i : Nat) : Nat := (b.getD i 0).toNat
/-- Reading: k is the length that comes next, n the number of the bits so far. -/
def scan (l : List Nat) (b : List UInt8) : Nat → Nat → Nat → Nat → Nat × Nat × Nat
  | 0, _, _, a => (0, a, 10)
  | f + 1, k, n, a => if b.length ≤ a then (0, a, 3) else if 2 * n + bt b a < fi l k + cn l k then (sy l (st l k + (2 * n + bt b a - fi l k)), a + 1, 0) else scan l b f (k + 1) (2 * n + bt b a) (a + 1)
/-- What a read answers: the symbol, the place behind it, the error. -/
def rdp (l : List Nat) (b : List UInt8) (a : Nat) : Nat × Nat × Nat := scan l b (lg l) 1 0 a
theorem bt_lt (b : List UInt8) (h : Bits b) (i : Nat) : bt b i < 2 := by
  unfold bt
  rw [List.getD_eq_getElem?_getD]
  rcases Nat.lt_or_ge i b.length with hi | hi
  · rw [List.getElem?_eq_getElem hi]; exact h _ (List.getElem_mem hi)
  · rw [List.getElem?_eq_none hi]; decide
/-- A full code: by the longest length at the latest a symbol is found. -/
theorem scan_full (l : List Nat) (b : List UInt8) (hb : Bits b) (hf : fu l 16 = 32768) : ∀ (f k n a : Nat), k + f = lg l → n < 2 ^ (k - 1) → 1 ≤ k → ∀ f2, k + f2 = 15 → scan l b (f2 + 1) k n a = scan l b (f + 1) k n a
  | 0, k, n, a, h1, h2, h3, f2, h4 => by
    have h5 := fu_fi l k (by omega)
    have h6 := (lg_top l).2
    obtain rfl : k = lg l := by omega
    have h7 := pow_split (lg l) (lg_le l)
    have h8 : fi l (lg l) + cn l (lg l) = 2 ^ lg l := by
      refine Nat.eq_of_mul_eq_mul_right (Nat.pow_pos (n := 15 - lg l) (show 0 < 2 by decide)) ?_
      omega
    have h9 := bt_lt b hb a
    have h10 : 2 ^ lg l = 2 * 2 ^ (lg l - 1) := by
      conv => lhs; rw [show lg l = (lg l - 1) + 1 by omega]
      rw [Nat.pow_succ, Nat.mul_comm]
    unfold scan
    by_cases ha : b.length ≤ a
    · rw [if_pos ha, if_pos ha]
    · have h11 : 2 * n + bt b a < fi l (lg l) + cn l (lg l) := by omega
      rw [if_neg ha, if_neg ha, if_pos h11, if_pos h11]
  | f + 1, k, n, a, h1, h2, h3, f2, h4 => by
    obtain ⟨f3, rfl⟩ : ∃ f3, f2 = f3 + 1 := ⟨f2 - 1, by have := lg_le l; omega⟩
    have h9 := bt_lt b hb a
    have h10 : 2 ^ k = 2 * 2 ^ (k - 1) := by
      conv => lhs; rw [show k = (k - 1) + 1 by omega]
      rw [Nat.pow_succ, Nat.mul_comm]
    have ih := scan_full l b hb hf f (k + 1) (2 * n + bt b a) (a + 1) (by omega) (by simp; omega) (by omega) f3 (by omega)
    have u : ∀ F, scan l b (F + 1) k n a = if b.length ≤ a then (0, a, 3) else if 2 * n + bt b a < fi l k + cn l k then (sy l (st l k + (2 * n + bt b a - fi l k)), a + 1, 0) else scan l b F (k + 1) (2 * n + bt b a) (a + 1) := fun _ => rfl
    rw [u, u, ih]
theorem rdp_full (l : List Nat) (b : List UInt8) (hb : Bits b) (a : Nat) (hf : fu l 16 = 32768) (h0 : st l 16 ≠ 0) : scan l b 15 1 0 a = rdp l b a := by
  have h1 := lg_pos l h0
  unfold rdp
  obtain ⟨f, hf1⟩ : ∃ f, lg l = f + 1 := ⟨lg l - 1, by omega⟩
  have := scan_full l b hb hf f 1 0 a (by omega) (by decide) (by omega) 14 rfl
  rw [hf1]
  exact this

theorem fi_ge (l : List Nat) (k : Nat) : ∀ n, k < n → (fi l k + cn l k) * 2 ^ (n - k) ≤ fi l n
  | 0, h => by omega
  | n + 1, h => by
    rcases Nat.eq_or_lt_of_le (Nat.lt_succ_iff.1 h) with e | h1
    · subst e
      rw [fi, show k + 1 - k = 1 by omega]
      omega
    · have h2 := fi_ge l k n h1
      rw [fi, show n + 1 - k = (n - k) + 1 by omega, Nat.pow_succ, ← Nat.mul_assoc]
      omega
/-- A symbol's own bits are read as that symbol. -/
theorem scan_code (l : List Nat) (b : List UInt8) (s a : Nat) (h : Has l s) (hb : ∀ i, i < ln l s → bt b (a + i) = cd l s / 2 ^ (ln l s - 1 - i) % 2) (ha : a + ln l s ≤ b.length) :
    ∀ (d k f : Nat), k + d = ln l s → 1 ≤ k → d < f → scan l b f k (cd l s / 2 ^ (d + 1)) (a + (k - 1)) = (s, a + ln l s, 0)
  | d, k, 0, _, _, h3 => by omega
  | 0, k, f + 1, h1, h2, h3 => by
    have hk : k = ln l s := by omega
    have hb1 := hb (k - 1) (by omega)
    rw [show ln l s - 1 - (k - 1) = 0 by omega, Nat.pow_zero, Nat.div_one] at hb1
    have e1 : 2 * (cd l s / 2 ^ (0 + 1)) + bt b (a + (k - 1)) = cd l s := by rw [hb1]; omega
    have h4 := rk_lt l s h
    have h5 := cd_has l s h
    unfold scan
    rw [if_neg (by omega), e1, hk, if_pos (by omega), h5, show fi l (ln l s) + rk l s - fi l (ln l s) = rk l s by omega]
    have := sy_ps l s h
    unfold ps at this
    rw [this, show a + (ln l s - 1) + 1 = a + ln l s by omega]
  | d + 1, k, f + 1, h1, h2, h3 => by
    have hb1 := hb (k - 1) (by omega)
    rw [show ln l s - 1 - (k - 1) = d + 1 by omega] at hb1
    have e1 : 2 * (cd l s / 2 ^ (d + 1 + 1)) + bt b (a + (k - 1)) = cd l s / 2 ^ (d + 1) := by
      rw [hb1, Nat.pow_succ 2 (d + 1), ← Nat.div_div_eq_div_mul]
      omega
    have h4 := fi_ge l k (ln l s) (by omega)
    have h5 := cd_has l s h
    have h6 : fi l k + cn l k ≤ cd l s / 2 ^ (d + 1) := by
      rw [Nat.le_div_iff_mul_le (Nat.pow_pos (by decide)), show d + 1 = ln l s - k by omega]
      omega
    have ih := scan_code l b s a h hb ha d (k + 1) f (by omega) (by omega) (by omega)
    unfold scan
    rw [if_neg (by omega), e1, if_neg (by omega), show a + (k - 1) + 1 = a + (k + 1 - 1) by omega]
    exact ih
theorem has_lg (l : List Nat) (s : Nat) (h : Has l s) (hl : Low l) : ln l s ≤ lg l := by
  have h1 := rk_lt l s h
  rcases Nat.lt_or_ge (lg l) (ln l s) with h2 | h2
  · have := lgf_above l 15 (ln l s) h2 (ln_le l s hl)
    omega
  · exact h2
theorem rdp_code (l : List Nat) (b : List UInt8) (s a : Nat) (h : Has l s) (hl : Low l) (hf : fu l 16 ≤ 32768) (hb : ∀ i, i < ln l s → bt b (a + i) = cd l s / 2 ^ (ln l s - 1 - i) % 2) (ha : a + ln l s ≤ b.length) : rdp l b a = (s, a + ln l s, 0) := by
  have h1 := has_lg l s h hl
  have h2 := h.2
  have h3 := cd_lt l s h hl hf
  have := scan_code l b s a h hb ha (ln l s - 1) 1 (lg l) (by omega) (by omega) (by omega)
  rw [show ln l s - 1 + 1 = ln l s by omega, Nat.div_eq_of_lt h3] at this
  exact this

/-- The lowest n bits of x, the highest first. -/
def hb : Nat → Nat → List UInt8
  | 0, _ => []
  | n + 1, x => hb n (x / 2) ++ [UInt8.ofNat (x % 2)]
/-- The lowest n bits of x, turned round. -/
def rv : Nat → Nat → Nat
  | 0, _ => 0
  | n + 1, x => rv n (x / 2) + 2 ^ n * (x % 2)
theorem hb_length : ∀ n x, (hb n x).length = n
  | 0, _ => rfl
  | n + 1, x => by simp [hb, hb_length n]
theorem hb_bits : ∀ n x, Bits (hb n x)
  | 0, _ => by intro y hy; simp [hb] at hy
  | n + 1, x => by
    refine bits_append (hb_bits n _) ?_
    intro y hy
    simp at hy
    subst hy
    rw [UInt8.toNat_ofNat']
    omega
theorem le2_hb : ∀ n x, le2 (hb n x) = rv n x
  | 0, _ => rfl
  | n + 1, x => by
    rw [hb, le2_append, hb_length, le2_hb n, rv]
    have : (UInt8.ofNat (x % 2)).toNat = x % 2 := by rw [UInt8.toNat_ofNat']; omega
    simp [le2, this]
theorem rv_lt (n x : Nat) : rv n x < 2 ^ n := by
  rw [← le2_hb]
  have := le2_lt _ (hb_bits n x)
  rw [hb_length] at this
  exact this
theorem rv_zero : ∀ n, rv n 0 = 0
  | 0 => rfl
  | n + 1 => by simp [rv, rv_zero n]
theorem rv_add (b : Nat) : ∀ a x, rv (a + b) x = rv a x * 2 ^ b + rv b (x / 2 ^ a)
  | 0, x => by simp [rv]
  | a + 1, x => by
    rw [show a + 1 + b = (a + b) + 1 by omega, rv, rv, rv_add b a, Nat.add_mul, Nat.pow_add, Nat.pow_succ, Nat.mul_comm (2 ^ a) 2, ← Nat.div_div_eq_div_mul]
    rw [show 2 ^ a * (x % 2) * 2 ^ b = 2 ^ a * 2 ^ b * (x % 2) by rw [Nat.mul_assoc, Nat.mul_assoc, Nat.mul_comm (x % 2)]]
    omega
theorem rv_mod : ∀ n x m, n ≤ m → rv n (x % 2 ^ m) = rv n x
  | 0, _, _, _ => rfl
  | n + 1, x, m, h => by
    obtain ⟨k, rfl⟩ : ∃ k, m = k + 1 := ⟨m - 1, by omega⟩
    have h1 : x % 2 ^ (k + 1) / 2 = x / 2 % 2 ^ k := by rw [Nat.pow_succ, Nat.mul_comm, Nat.mod_mul_right_div_self]
    have h2 : x % 2 ^ (k + 1) % 2 = x % 2 := by rw [Nat.pow_succ, Nat.mul_comm, Nat.mod_mul_right_mod]
    rw [rv, rv, h1, h2, rv_mod n _ k (by omega)]
/-- Sixteen bits turned round, the lower ones taken off. -/
theorem rv_shift (n x : Nat) (hn : n ≤ 16) (hx : x < 2 ^ n) : rv 16 x / 2 ^ (16 - n) = rv n x := by
  have h := rv_add (16 - n) n x
  rw [show n + (16 - n) = 16 by omega, Nat.div_eq_of_lt hx, rv_zero, Nat.add_zero] at h
  rw [h, Nat.mul_div_cancel _ (Nat.pow_pos (by decide))]
/-- By bytes. -/
theorem rv_bytes (x : Nat) : rv 16 x = rv 8 (x / 256) + 256 * rv 8 (x % 256) := by
  have h := rv_add 8 8 x
  have h2 := rv_mod 8 x 8 (Nat.le_refl 8)
  simp only [show (8 + 8 : Nat) = 16 from rfl, show (2 : Nat) ^ 8 = 256 from rfl] at h h2
  rw [h, h2]
  omega
theorem hb_at : ∀ n x i, i < n → bt (hb n x) i = x / 2 ^ (n - 1 - i) % 2
  | 0, _, _, h => by omega
  | n + 1, x, i, h => by
    unfold bt
    rw [hb, List.getD_eq_getElem?_getD]
    rcases Nat.lt_or_ge i n with h1 | h1
    · rw [List.getElem?_append_left (by rw [hb_length]; exact h1)]
      have ih := hb_at n (x / 2) i h1
      unfold bt at ih
      rw [List.getD_eq_getElem?_getD] at ih
      rw [ih, Nat.div_div_eq_div_mul, show n + 1 - 1 - i = (n - 1 - i) + 1 by omega, Nat.pow_succ, Nat.mul_comm 2]
    · obtain rfl : i = n := by omega
      rw [List.getElem?_append_right (by rw [hb_length]; exact Nat.le_refl _), hb_length, Nat.sub_self]
      have : (UInt8.ofNat (x % 2)).toNat = x % 2 := by rw [UInt8.toNat_ofNat']; omega
      simp [this]
/-- One bit of a list, out of its number. -/
theorem bt_le2 (b : List UInt8) (h : Bits b) (i : Nat) : bt b i = le2 b / 2 ^ i % 2 := by
  have h0 := bt_lt b h i
  rcases Nat.lt_or_ge i b.length with hi | hi
  · rw [← le2_drop b i h (by omega), List.drop_eq_getElem_cons hi, le2]
    unfold bt at h0 ⊢
    rw [List.getD_eq_getElem?_getD, List.getElem?_eq_getElem hi] at h0 ⊢
    simp only [Option.getD_some] at h0 ⊢
    omega
  · have h1 : le2 b < 2 ^ i := Nat.lt_of_lt_of_le (le2_lt b h) (Nat.pow_le_pow_right (by decide) hi)
    rw [Nat.div_eq_of_lt h1]
    unfold bt
    rw [List.getD_eq_getElem?_getD, List.getElem?_eq_none hi]
    rfl
end Go.Proofs.Ytmdfkchgklphlaa

/- Layer 7 in plain words: tokens, what they say, and the rows of symbols. -/
namespace Go.Proofs.Ytmdfkchgklphlaa

/-- A token: its byte, its length, how far back. -/
structure Tk where
  b : UInt8
  n : Int
  k : Int

def isLen (x : Int) : Bool := decide (3 ≤ x) && decide (x ≤ 258)
def isDist (x : Int) : Bool := decide (1 ≤ x) && decide (x ≤ 32768)
def mayB (t : Tk) : Bool := if t.n = 0 then decide (t.k = 0) else isLen t.n && isDist t.k && decide (t.b.toNat = 0)

/-- n times the byte that stands k bytes ahead. -/
def copyF (k : Nat) : Nat → List UInt8 → List UInt8
  | 0, l => l
  | n + 1, l => copyF k n (l ++ [l.getD (l.length - k) 0])
def layF (t : Tk) (l : List UInt8) : List UInt8 := if t.n = 0 then l ++ [t.b] else copyF t.k.toNat t.n.toNat l
/-- How many bytes it says. -/
def sayN (t : Tk) : Int := if t.n = 0 then 1 else t.n
def expandF (most : Int) : List Tk → List UInt8 → List UInt8 × Int
  | [], l => (l, 0)
  | t :: r, l => if mayB t = false then ([], 1) else if (l.length : Int) < t.k then ([], 2) else if most < l.length + sayN t then ([], 7) else expandF most r (layF t l)

theorem copyF_snoc (k : Nat) : ∀ (n : Nat) (l : List UInt8), copyF k (n + 1) l = copyF k n l ++ [(copyF k n l).getD ((copyF k n l).length - k) 0]
  | 0, _ => rfl
  | n + 1, l => by
    rw [copyF, copyF_snoc k n]
    rfl
theorem copyF_length (k : Nat) : ∀ (n : Nat) (l : List UInt8), (copyF k n l).length = l.length + n
  | 0, _ => rfl
  | n + 1, l => by
    rw [copyF, copyF_length k n]
    simp
    omega
theorem may_cases (t : Tk) (h : mayB t = true) : (t.n = 0 ∧ t.k = 0) ∨ (3 ≤ t.n ∧ t.n ≤ 258 ∧ 1 ≤ t.k ∧ t.k ≤ 32768) := by
  unfold mayB at h
  split at h
  · rename_i e
    exact .inl ⟨e, by simpa using h⟩
  · simp [isLen, isDist] at h
    exact .inr ⟨h.1.1.1, h.1.1.2, h.1.2.1, h.1.2.2⟩
theorem lay_length (t : Tk) (l : List UInt8) (h : mayB t = true) : ((layF t l).length : Int) = l.length + sayN t := by
  unfold layF sayN
  rcases may_cases t h with ⟨h1, _⟩ | ⟨h1, h2, _, _⟩
  · simp [h1]
  · have : ¬ t.n = 0 := by omega
    rw [if_neg this, if_neg this, copyF_length]
    omega
theorem say_le (t : Tk) (h : mayB t = true) : 1 ≤ sayN t ∧ sayN t ≤ 258 := by
  unfold sayN
  rcases may_cases t h with ⟨h1, _⟩ | ⟨h1, h2, _, _⟩
  · simp [h1]
  · have : ¬ t.n = 0 := by omega
    rw [if_neg this]
    omega

/-- The rows of lengths and of distances, by their places: how many bits, the first number. -/
def lb (s : Nat) : Nat := if s < 8 then 0 else (s - 4) / 4
def lf : Nat → Nat
  | 0 => 3
  | s + 1 => lf s + 2 ^ lb s
def db (s : Nat) : Nat := if s < 4 then 0 else (s - 2) / 2
def df : Nat → Nat
  | 0 => 1
  | s + 1 => df s + 2 ^ db s
structure Sy where
  s : Nat
  f : Nat
  b : Nat
def lrow (i : Nat) : Sy := ⟨257 + i, lf i, lb i⟩
def drow (i : Nat) : Sy := ⟨i, df i, db i⟩
def lrows : List Sy := (List.range 28).map lrow ++ [⟨285, 258, 0⟩]
def drows : List Sy := (List.range 30).map drow
end Go.Proofs.Ytmdfkchgklphlaa

/- Words on memory for layer 5: slices that read as numbers, what is kept below a block. -/
namespace Go.Proofs.Ytmdfkchgklphlaa
open Go.RowKit

/-- The slice at A reads as the cells vs, below block B. -/
def See (w : World) (B : Nat) (A : Option Addr) (vs : List Value) : Prop :=
  ∀ (i : Nat) (v : Value), vs[i]? = some v → ∃ b off, A = some ⟨b, off, none⟩ ∧ b < B ∧ w.cell? ⟨b, off + i, none⟩ = some v
/-- Nothing below B has turned. -/
def Keep (B : Nat) (w w' : World) : Prop := Only (fun j => B ≤ j) w w'

section
variable {w w' w'' : World} {B C : Nat} {A : Option Addr} {vs : List Value} {S : Nat → Prop}
theorem Only.keep (h : Only S w w') (B : Nat) (hS : ∀ j, S j → B ≤ j) : Keep B w w' := h.mono hS
theorem Only.keep0 (h : Only (fun _ => False) w w') (B : Nat) : Keep B w w' := h.mono fun _ f => f.elim
theorem Keep.refl (B : Nat) (w : World) : Keep B w w := Only.refl _ w
theorem Keep.trans (h : Keep B w w') (k : Keep B w' w'') : Keep B w w'' := Only.trans h k
theorem Keep.less (h : Keep C w w') (hB : B ≤ C) : Keep B w w' := Only.mono h fun _ hj => Nat.le_trans hB hj
theorem Keep.below (h : Keep B w w') (hB : B ≤ w.heap.size) : Below B w w' := Only.below h B hB fun _ hk hs => by omega
theorem cell_lt {a : Addr} {v : Value} (h : w.cell? a = some v) : a.block < w.heap.size := by
  rcases Nat.lt_or_ge a.block w.heap.size with hlt | hge
  · exact hlt
  · simp [World.cell?, Array.getElem?_eq_none hge] at h
theorem See.keep (h : See w B A vs) (k : Keep B w w') : See w' B A vs := by
  intro i v hv
  obtain ⟨b, off, hA, hb, hc⟩ := h i v hv
  exact ⟨b, off, hA, hb, (World.cell?_of_block (Only.block k b (cell_lt hc) (by omega))).trans hc⟩
theorem See.new (h : See w B A vs) (k : Only (fun _ => False) w w') : See w' B A vs := h.keep (k.keep0 B)
theorem See.more (h : See w B A vs) (hB : B ≤ C) : See w C A vs := fun i v hv => by
  obtain ⟨b, off, hA, hb, hc⟩ := h i v hv
  exact ⟨b, off, hA, by omega, hc⟩
theorem Row.see {e : TypeId} {n c : Nat} (h : Row e w A n c vs) : See w w.heap.size A vs := by
  intro i v hv
  obtain ⟨g, hA, hc, _⟩ := h.cell hv
  exact ⟨g, 0, hA, cell_lt hc, by rw [Nat.zero_add]; exact hc⟩
theorem Made.see {e : TypeId} {n c : Nat} (h : Made e w A n c vs w') : See w' w'.heap.size A vs := h.1.see
theorem Is.see {g : Nat} {t : TypeId} (h : Is w g t vs) : See w w.heap.size (some ⟨g, 0, none⟩) vs := by
  intro i v hv
  exact ⟨g, 0, rfl, h.lt, by rw [Nat.zero_add]; exact h.cell i hv⟩
end

/-- Numbers as cells. -/
def ints (l : List Nat) : List Value := l.map fun x => .int .i64 (x : Nat)
def zints (l : List Int) : List Value := l.map fun x => .int .i64 x
theorem ints_length (l : List Nat) : (ints l).length = l.length := List.length_map ..
theorem zints_length (l : List Int) : (zints l).length = l.length := List.length_map ..
theorem ints_at (l : List Nat) (i : Nat) (h : i < l.length) : (ints l)[i]? = some (.int .i64 (ln l i : Nat)) := by simp [ints, ln, h]
theorem ints_set (l : List Nat) (i y : Nat) : (ints l).set i (.int .i64 (y : Nat)) = ints (l.set i y) := by simp [ints, List.map_set]
theorem zints_at (l : List Int) (i : Nat) (h : i < l.length) : (zints l)[i]? = some (.int .i64 (l.getD i 0)) := by simp [zints, h]
theorem ints_one (l : List Nat) : ∀ v ∈ ints l, v.oneCell' = true := by simp [ints, Value.oneCell']
/-- A place of a list that is made by places. -/
theorem map_at (n : Nat) (f : Nat → Nat) (i : Nat) (h : i < n) : ln ((List.range n).map f) i = f i := by simp [ln, h]
theorem map_set (n : Nat) (f g : Nat → Nat) (s y : Nat) (hs : g s = y) (h : ∀ t, t < n → t ≠ s → g t = f t) : ((List.range n).map f).set s y = (List.range n).map g := by
  apply List.ext_getElem
  · simp
  · intro i h1 h2
    simp at h1
    rw [List.getElem_set]
    split
    · rename_i e; subst e; simp [hs]
    · rename_i e; simp [h i h1 (fun x => e x.symm)]
theorem map_same (n : Nat) (f g : Nat → Nat) (h : ∀ t, t < n → g t = f t) : (List.range n).map f = (List.range n).map g :=
  List.map_congr_left fun t ht => (h t (by simpa using ht)).symm
theorem map_list (l : List Nat) (n : Nat) (f : Nat → Nat) (hl : l.length = n) (h : ∀ t, t < n → ln l t = f t) : l = (List.range n).map f := by
  apply List.ext_getElem
  · simp [hl]
  · intro i h1 h2
    have := h i (by omega)
    simp [ln, h1] at this
    simp [this]

/-- Lengths that may be. -/
def Okay (z : List Int) : Prop := z.length ≤ 288 ∧ ∀ x ∈ z, 0 ≤ x ∧ x ≤ 15
theorem Okay.nat {z : List Int} (h : Okay z) : ∃ l : List Nat, zints z = ints l ∧ l.length = z.length ∧ l.length ≤ 288 ∧ Low l := by
  refine ⟨z.map Int.toNat, ?_, by simp, by simpa using h.1, ?_⟩
  · simp only [zints, ints, List.map_map]
    refine List.map_congr_left fun x hx => ?_
    have := h.2 x hx
    simp
    omega
  · intro x hx
    obtain ⟨y, hy, rfl⟩ := List.mem_map.1 hx
    have := h.2 y hy
    omega

theorem info3 : (Try.prog.info? 3).map (fun i => (i.zero, i.size, i.bytes)) = some (some (.int .i64 0), 1, 8) := by kernel_rfl
theorem made_is {e : TypeId} {w wx : World} {n : Nat} {vs : List Value} (h : Is wx w.heap.size e vs) (o : Only (fun _ => False) w wx) (hn : vs.length = n) (hm : n ≤ maxLen) : Made e w (some ⟨w.heap.size, 0, none⟩) n n vs wx :=
  ⟨Row.of_is h hn hm, o, by rintro j ⟨ad, e, rfl⟩; obtain rfl := Option.some.inj e; exact Nat.le_refl _⟩
/-- make: a row of zeros. -/
theorem run_make_row {P : Program} {t e : TypeId} {kd : IntKind} {B : Nat} (ht : P.underlying t = some (.slice e)) (hi : (P.info? e).map (fun i => (i.zero, i.size, i.bytes)) = some (some (.int kd 0), 1, B)) (hB : B ≤ 8) (k : Nat) (hk : k ≤ 1073741824) (w : World) :
    (Instr.makeSlice t (.int .i64 k) (.int .i64 k)).run P w = .ok (.slice (some ⟨w.heap.size, 0, none⟩) k k) (w.alloc (.cells (List.replicate k (.int kd 0)).toArray e)) := by
  obtain ⟨i, hi, hz, hsz, hby⟩ := info_parts hi
  have hfit : B * k ≤ 8 * k := Nat.mul_le_mul_right _ hB
  have h := run_make (P := P) w t e i (.int kd 0) ht hi hz .i64 .i64 k k (by omega) (by omega) (by rw [hby]; omega) (by omega)
  have e1 : madeCells (Value.int kd 0).cells (k * 1) = (List.replicate k (Value.int kd 0)).toArray := by
    apply Array.ext'
    rw [Value.cells, toList_madeCells_one]
    · simp
    all_goals intros; simp_all
  rw [Int.toNat_natCast, hsz, e1] at h
  exact h
theorem Made.setAt {e : TypeId} {w wx : World} {g n c : Nat} {vs : List Value} (h : Made e w (some ⟨g, 0, none⟩) n c vs wx) (p : Nat) (u : Value) : Made e w (some ⟨g, 0, none⟩) n c (vs.set p u) (wx.setCell ⟨g, p, none⟩ u) :=
  ⟨h.1.set p u, h.2.1.set (p := ⟨g, p, none⟩) (.inr (h.2.2 g ⟨_, rfl, rfl⟩)) _, h.2.2⟩
theorem Made.drewN {e : TypeId} {w wx : World} {A : Option Addr} {n c : Nat} {vs : List Value} (h : Made e w A n c vs wx) (k : Nat) : Made e w A n c vs (wx.drewN k) := ⟨h.1.drewN k, h.2.1.drewN k, h.2.2⟩
theorem zeros_made {e : TypeId} {w : World} {kd : IntKind} (n : Nat) (hn : n ≤ 1073741824) : Made e w (some ⟨w.heap.size, 0, none⟩) n n (List.replicate n (.int kd 0)) (w.alloc (.cells (List.replicate n (.int kd 0)).toArray e)) :=
  made_is (Is.new w e _) ((Only.refl _ w).alloc _) (by simp) (by unfold maxLen; omega)
theorem Is.new2 (w : World) (o : Obj) (t : TypeId) (cs : List Value) : Is ((w.alloc o).alloc (.cells cs.toArray t)) (w.heap.size + 1) t cs := by
  have h := Is.new (w.alloc o) t cs
  have e : (w.alloc o).heap.size = w.heap.size + 1 := by simp
  rw [e] at h
  exact h
theorem Is.row {w : World} {g : Nat} {t : TypeId} {cs : List Value} (h : Is w g t cs) (ds : List Value) : Is (w.setRow g ds.toArray) g t ds := setRow_heap w g _ _ t _ h
theorem Is.farRow {w : World} {g k : Nat} {t : TypeId} {cs : List Value} (h : Is w g t cs) (hk : g ≠ k) (ds : Array Value) : Is (w.setRow k ds) g t cs := (setRow_other w k g ds hk).trans h
theorem Only.row {S : Nat → Prop} {a w : World} (h : Only S a w) {g : Nat} (hg : S g ∨ a.heap.size ≤ g) (ds : Array Value) : Only S a (w.setRow g ds) :=
  ⟨h.os, h.tape, h.output, by simpa using h.size, fun k hk hs => (setRow_other w g k ds fun e => hg.elim (fun x => hs (e ▸ x)) (fun x => by omega)).trans (h.block k hk hs)⟩
/-- A whole array laid into a block that is known. -/
theorem wpList_store_is {P : Program} {ops : Array Oper} {rest : List Oper} {o : Oper} {a : Act} {w : World} {Q : Exit → Act → World → Prop} (hgd : o.guard = none) (ty : TypeId) (x y : Operand) (ho : o.op = .store ty x y)
    (g : Nat) (cells : List Value) (hx : a.eval x = .pointer (some ⟨g, 0, none⟩)) (hy : a.eval y = .agg cells.toArray) (t : TypeId) (old : List Value) (hg : Is w g t old)
    (hi : (P.info? ty).map (·.size) = some cells.length) (hold : old.length = cells.length) (h1 : ∀ v ∈ cells, v.oneCell' = true)
    (h : ∀ w', Is w' g t cells → Only (fun j => j = g) w w' → wpList P ops Q rest (a.put o.dst undef) w') : wpList P ops Q (o :: rest) a w :=
  wpList_store_row hgd ty x y ho g cells.toArray hx hy t old.toArray hg (by simpa using hi) (by simpa using hold) (all_oneCell_toArray h1) (h _ (hg.row cells) ((Only.refl (fun j => j = g) w).row (.inl rfl) _))
theorem wpList_load_is {P : Program} {ops : Array Oper} {rest : List Oper} {o : Oper} {a : Act} {w : World} {Q : Exit → Act → World → Prop} (hgd : o.guard = none) (ty : TypeId) (x : Operand) (ho : o.op = .load ty x)
    (g : Nat) (hx : a.eval x = .pointer (some ⟨g, 0, none⟩)) (t : TypeId) (cells : List Value) (hg : Is w g t cells) {n : Nat} {e : TypeId} (hu : P.underlying ty = some (.array n e))
    (hi : (P.info? ty).map (·.size) = some cells.length) (h : wpList P ops Q rest (a.put o.dst (.agg cells.toArray)) w) : wpList P ops Q (o :: rest) a w :=
  wpList_load_row hgd ty x ho g hx t cells.toArray (0, 0) _ hg hu rfl (by simpa using hi) h
theorem bcells_length (l : List UInt8) : (bcells l).length = l.length := List.length_map ..
theorem bcells_snoc (l : List UInt8) (x : UInt8) : bcells l ++ [.int .u8 (x.toNat : Nat)] = bcells (l ++ [x]) := by simp [bcells]
theorem bcells_at (l : List UInt8) (i : Nat) (h : i < l.length) : (bcells l)[i]? = some (.int .u8 ((l.getD i 0).toNat : Nat)) := by simp [bcells, h]
/-- Three cells of a token. -/
def tkc (t : Tk) : List Value := [.int .u8 t.b.toNat, .int .i64 t.n, .int .i64 t.k]
def tkV (t : Tk) : Value := .agg #[.int .u8 t.b.toNat, .int .i64 t.n, .int .i64 t.k]
/-- What is seen lies from lo on, so what turns only other blocks leaves it. -/
theorem See.apart {w w' : World} {B lo : Nat} {A : Option Addr} {vs : List Value} {X : Nat → Prop} (h : See w B A vs) (hl : ∀ j, Lies A j → lo ≤ j) (k : Only X w w') (hd : ∀ j, lo ≤ j → j < B → ¬ X j) : See w' B A vs := by
  intro i v hv
  obtain ⟨b, off, hA, hb, hc⟩ := h i v hv
  exact ⟨b, off, hA, hb, (World.cell?_of_block (k.block b (cell_lt hc) (hd b (hl b ⟨_, hA, rfl⟩) hb))).trans hc⟩
end Go.Proofs.Ytmdfkchgklphlaa
