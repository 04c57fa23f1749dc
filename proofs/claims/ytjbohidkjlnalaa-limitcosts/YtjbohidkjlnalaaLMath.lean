/- Plain words on lengths that fit counts: laid at their symbols, what they cost, how full the code is. -/
import Derived.Test.YtjbohidkjlnalaaPack
namespace Go.Proofs.Ytjbohidkjlnalaa

theorem ln_set (l : List Nat) (x y s : Nat) (hx : x < l.length) : ln (l.set x y) s = if s = x then y else ln l s := by
  unfold ln
  rw [List.getD_eq_getElem?_getD, List.getElem?_set]
  by_cases h : s = x
  · subst h; simp [hx]
  · simp [h, show ¬ x = s from fun e => h e.symm]
theorem sumTo_set (l : List Nat) (x y : Nat) (f : Nat → Nat → Nat) (hx : x < l.length) (h0 : ln l x = 0) (hf : f x 0 = 0) : ∀ n, n ≤ l.length → sumTo n (fun s => f s (ln (l.set x y) s)) = sumTo n (fun s => f s (ln l s)) + if x < n then f x y else 0
  | 0, _ => by simp [sumTo]
  | n + 1, hn => by
    rw [sumTo, sumTo, sumTo_set l x y f hx h0 hf n (by omega), ln_set l x y n hx]
    by_cases h : n = x
    · subst h
      rw [if_pos rfl, if_neg (by omega), if_pos (by omega), h0, hf]
    · rw [if_neg h]
      by_cases h2 : x < n
      · rw [if_pos h2, if_pos (by omega)]; omega
      · rw [if_neg h2, if_neg (by omega)]; omega
section
variable {n : Nat} {ss d : List Nat}
theorem fit_out (j s : Nat) (hlt : ∀ x ∈ ss, x < n) (hj : j ≤ ss.length) (hs : s ∉ ss.take j) : ln (fit n ss d j) s = 0 := by
  induction j with
  | zero => simp [fit, ln, List.getElem?_replicate]; split <;> rfl
  | succ j ih =>
    have hm := ln_mem ss j (by omega)
    rw [fit, ln_set _ _ _ _ (by rw [fit_length]; exact hlt _ hm), if_neg, ih (by omega)]
    · intro h; exact hs (List.mem_of_mem_take (l := ss.take (j + 1)) (i := j) (by rw [List.take_take, Nat.min_eq_left (by omega)]; exact h))
    · intro h
      subst h
      apply hs
      rw [List.mem_take_iff_getElem]
      exact ⟨j, by omega, by simp [ln, show j < ss.length by omega]⟩
theorem not_before (hnd : ss.Nodup) (j : Nat) (hj : j < ss.length) : ln ss j ∉ ss.take j := by
  intro h
  rw [List.mem_take_iff_getElem] at h
  obtain ⟨i, hi, he⟩ := h
  have h2 : ss[i] = ss[j] := by simpa [ln, hj] using he
  exact (List.pairwise_iff_getElem.1 hnd i j (by omega) hj (by omega)) h2
theorem fit_sum (hnd : ss.Nodup) (hlt : ∀ x ∈ ss, x < n) (f : Nat → Nat → Nat) (hf : ∀ s, f s 0 = 0) (j : Nat) (hj : j ≤ ss.length) : sumTo n (fun s => f s (ln (fit n ss d j) s)) = sumTo j (fun i => f (ln ss i) (max (ln d i) 1)) := by
  induction j with
  | zero =>
    rw [sumTo_congr (g := fun _ => 0) fun i _ => by rw [fit_out 0 i hlt (by omega) (by simp), hf], sumTo_const]
    rfl
  | succ j ih =>
    have hm := hlt _ (ln_mem ss j (by omega))
    rw [fit, sumTo_set _ _ _ f (by rw [fit_length]; exact hm) (fit_out j _ hlt (by omega) (not_before hnd j (by omega))) (hf _) n (by rw [fit_length]; exact Nat.le_refl _), ih (by omega), if_pos hm, sumTo]
theorem fit_pos (hlt : ∀ x ∈ ss, x < n) (j s : Nat) (hj : j ≤ ss.length) : 0 < ln (fit n ss d j) s ↔ s ∈ ss.take j := by
  constructor
  · intro h
    rcases Classical.em (s ∈ ss.take j) with h1 | h1
    · exact h1
    · rw [fit_out j s hlt hj h1] at h; omega
  · induction j with
    | zero => intro h; simp at h
    | succ j ih =>
      intro h
      rw [fit, ln_set _ _ _ _ (by rw [fit_length]; exact hlt _ (ln_mem ss j (by omega)))]
      split
      · omega
      · rename_i hne
        refine ih (by omega) ?_
        rw [List.take_add_one, List.mem_append] at h
        rcases h with h | h
        · exact h
        · exfalso
          rw [List.getElem?_eq_getElem (by omega)] at h
          simp at h
          exact hne (by rw [h]; simp [ln, show j < ss.length by omega])
theorem fit_max (hlt : ∀ x ∈ ss, x < n) (m : Nat) (hm : 1 ≤ m) (hd : ∀ i, ln d i ≤ m) (j s : Nat) (hj : j ≤ ss.length) : ln (fit n ss d j) s ≤ m := by
  induction j with
  | zero => rw [fit_out 0 s hlt (by omega) (by simp)]; omega
  | succ j ih =>
    rw [fit, ln_set _ _ _ _ (by rw [fit_length]; exact hlt _ (ln_mem ss j (by omega)))]
    have := hd j
    split
    · omega
    · exact ih (by omega)
end
/-- The counts that come, the rarest first. -/
def Wt (c W : List Nat) : Prop := Rise W ∧ W.Perm (c.filter fun x => decide (0 < x))
theorem Wt.eq {c W V : List Nat} (h : Wt c W) (k : Wt c V) : W = V := rise_eq h.1 k.1 (h.2.trans k.2.symm)
theorem Wt.pos {c W : List Nat} (h : Wt c W) : ∀ x ∈ W, 0 < x := fun x hx => by
  have := h.2.mem_iff.1 hx
  simp at this
  exact this.2
theorem Wt.low {c W : List Nat} (h : Wt c W) (hl : Low c) : Low W := fun x hx => by
  have := h.2.mem_iff.1 hx
  simp at this
  exact hl x this.1
theorem syms_map (c : List Nat) : (syms c c.length).map (ln c) = c.filter fun x => decide (0 < x) := by
  unfold syms
  have h : c = (List.range c.length).map (ln c) := by
    apply List.ext_getElem
    · simp
    · intro i h1 h2; simp [ln, h1]
  conv => rhs; rw [h]
  rw [List.filter_map]
  rfl
theorem syms_nodup (c : List Nat) (k : Nat) : (syms c k).Nodup := List.Pairwise.filter _ List.nodup_range
theorem Wt.of {c ss : List Nat} (hp : ss.Perm (syms c c.length)) (hr : Rise (ss.map (ln c))) : Wt c (ss.map (ln c)) := ⟨hr, by rw [← syms_map]; exact hp.map _⟩
theorem mem_syms (c : List Nat) (s : Nat) : s ∈ syms c c.length ↔ 0 < ln c s := by
  simp [syms]
  intro h
  rcases Nat.lt_or_ge s c.length with h1 | h1
  · exact h1
  · simp [ln, h1] at h

/-- What lengths cost. -/
def costOf (c L : List Nat) : Nat := sumTo c.length (fun s => ln c s * ln L s)
/-- The power that a length takes of 2^K. -/
def pw (K l : Nat) : Nat := if l = 0 then 0 else 2 ^ (K - l)
def nz (l : Nat) : Nat := if l = 0 then 0 else 1
/-- Lengths that fit: up to most, full, of one symbol a lone one. -/
structure Good (c L : List Nat) (K most cost : Nat) : Prop where
  len : L.length = c.length
  pos : ∀ s, 0 < ln L s ↔ 0 < ln c s
  top : ∀ s, ln L s ≤ most
  num : sumTo c.length (fun s => nz (ln L s)) = (c.filter fun x => decide (0 < x)).length
  full : 2 ≤ (c.filter fun x => decide (0 < x)).length → sumTo c.length (fun s => pw K (ln L s)) = 2 ^ K
  lone : (c.filter fun x => decide (0 < x)).length = 1 → ∀ s, ln L s ≤ 1
  cost : costOf c L = cost
theorem good_of {c ss d : List Nat} {K most cost : Nat} (hp : ss.Perm (syms c c.length)) (hm : 1 ≤ most) (hdl : d.length = ss.length) (hd : ∀ i, ln d i ≤ most)
    (hfull : 2 ≤ ss.length → (∀ i, i < ss.length → 0 < ln d i) ∧ sumTo ss.length (fun i => 2 ^ (K - ln d i)) = 2 ^ K) (hlone : ss.length = 1 → ln d 0 ≤ 1)
    (hcost : sumTo ss.length (fun i => ln (ss.map (ln c)) i * max (ln d i) 1) = cost) : Good c (fit c.length ss d ss.length) K most cost := by
  have hlt : ∀ x ∈ ss, x < c.length := fun x hx => syms_lt c _ x (hp.mem_iff.1 hx)
  have hnd : ss.Nodup := hp.nodup_iff.2 (syms_nodup c _)
  have hlen : (c.filter fun x => decide (0 < x)).length = ss.length := by rw [← syms_map, List.length_map, hp.length_eq]
  have hat : ∀ i, i < ss.length → ln (ss.map (ln c)) i = ln c (ln ss i) := fun i hi => by simp [ln, hi]
  refine ⟨fit_length _ _ _ _, fun s => ?_, fun s => fit_max hlt most hm hd _ s (Nat.le_refl _), ?_, fun h2 => ?_, fun h1 s => ?_, ?_⟩
  · rw [fit_pos hlt _ s (Nat.le_refl _), List.take_length, hp.mem_iff, mem_syms]
  · rw [hlen, fit_sum hnd hlt (fun _ l => nz l) (fun _ => rfl) _ (Nat.le_refl _), sumTo_congr (g := fun _ => 1) (fun i _ => by unfold nz; rw [if_neg (by omega)]), sumTo_const, Nat.mul_one]
  · rw [hlen] at h2
    obtain ⟨h3, h4⟩ := hfull h2
    rw [fit_sum hnd hlt (fun _ l => pw K l) (fun _ => rfl) _ (Nat.le_refl _), ← h4]
    refine sumTo_congr fun i hi => ?_
    have := h3 i hi
    unfold pw
    rw [if_neg (by omega), Nat.max_eq_left (by omega)]
  · rw [hlen] at h1
    refine fit_max hlt 1 (Nat.le_refl _) (fun i => ?_) _ s (Nat.le_refl _)
    rcases Nat.eq_zero_or_pos i with h | h
    · subst h; exact hlone h1
    · simp [ln, show d.length ≤ i by omega]
  · unfold costOf
    rw [fit_sum hnd hlt (fun s l => ln c s * l) (fun _ => Nat.mul_zero _) _ (Nat.le_refl _), ← hcost]
    exact sumTo_congr fun i hi => by rw [hat i hi]

/-- What the packages of a limit cost. -/
def leastOf (W : List Nat) (most : Nat) : Nat := if W.length < 2 then W.sum else ((rs W (most - 1)).take (2 * (W.length - 1))).sum
theorem sumTo_ge {n : Nat} {f : Nat → Nat} (h1 : ∀ i, i < n → 1 ≤ f i) (j : Nat) (hj : j < n) : f j + (n - 1) ≤ sumTo n f := by
  induction n with
  | zero => omega
  | succ n ih =>
    rw [sumTo]
    rcases Nat.lt_or_ge j n with h | h
    · have := ih (fun i hi => h1 i (by omega)) h
      have := h1 n (by omega)
      omega
    · obtain rfl : j = n := by omega
      have : j * 1 ≤ sumTo j f := by
        rw [← sumTo_const]
        exact sumTo_mono fun i hi => h1 i (by omega)
      omega
theorem pack_full {W : List Nat} (hr : Rise W) (hp : ∀ x ∈ W, 0 < x) (most : Nat) (hm : 1 ≤ most) (h2 : 2 ≤ W.length) (hpow : W.length ≤ 2 ^ most) :
    (∀ j, dp (lv W (most - 1) (2 * (W.length - 1))) j ≤ most) ∧ (∀ j, j < W.length → 0 < dp (lv W (most - 1) (2 * (W.length - 1))) j) ∧ sumTo W.length (fun j => 2 ^ (most - dp (lv W (most - 1) (2 * (W.length - 1))) j)) = 2 ^ most ∧
    sumTo W.length (fun j => ln W j * dp (lv W (most - 1) (2 * (W.length - 1))) j) = leastOf W most := by
  obtain ⟨q, rfl⟩ : ∃ q, most = q + 1 := ⟨most - 1, by omega⟩
  rw [Nat.add_sub_cancel]
  have hlong := rs_long W q hpow
  have hmax := lv_max W q _ hlong
  have hlen := lv_length W q (2 * (W.length - 1))
  have h3 := dp_full W.length (lv W q (2 * (W.length - 1))) (lv_falls hr hp q _ hlong) hmax
  have h4 := lv_kraft W q _ hlong
  have h5 := dp_cost W (lv W q (2 * (W.length - 1))) hmax
  rw [lv_cost W q _ hlong] at h5
  generalize lv W q (2 * (W.length - 1)) = ls at *
  rw [hlen, h4] at h3
  have e1 : 2 * (W.length - 1) * 2 ^ q = (W.length - 1) * 2 ^ (q + 1) := by rw [Nat.pow_succ, Nat.mul_comm 2 (W.length - 1), Nat.mul_assoc, Nat.mul_comm 2 (2 ^ q)]
  have e2 : W.length * 2 ^ (q + 1) = (W.length - 1) * 2 ^ (q + 1) + 2 ^ (q + 1) := by
    obtain ⟨m, hm⟩ : ∃ m, W.length = m + 1 := ⟨W.length - 1, by omega⟩
    rw [hm, Nat.add_mul, Nat.one_mul, Nat.add_sub_cancel]
  have h6 : sumTo W.length (fun j => 2 ^ (q + 1 - dp ls j)) = 2 ^ (q + 1) := by rw [e1] at h3; omega
  refine ⟨fun j => by have := dp_le ls j; omega, fun j hj => ?_, h6, ?_⟩
  · rcases Nat.eq_zero_or_pos (dp ls j) with h | h
    · exfalso
      have := sumTo_ge (f := fun j => 2 ^ (q + 1 - dp ls j)) (fun i _ => Nat.pow_pos (by decide)) j hj
      rw [h6] at this
      simp only [h, Nat.sub_zero] at this
      omega
    · exact h
  · unfold leastOf
    rw [if_neg (by omega), Nat.add_sub_cancel, h5]
theorem dpt_at (n : Nat) (ls : List Nat) (i : Nat) (hi : i < n) : ln (dpt n ls) i = dp ls i := map_at n _ i hi

/-- The program's lengths, by packages, fit. -/
theorem pack_good {c ss : List Nat} {most : Nat} (hp : ss.Perm (syms c c.length)) (hr : Rise (ss.map (ln c))) (hm : 1 ≤ most) (hm15 : most ≤ 15) (hpow : ss.length ≤ 2 ^ most) :
    Good c (fit c.length ss (if ss.length < 2 then List.replicate ss.length 0 else dpt ss.length (lv (ss.map (ln c)) (most - 1) (2 * (ss.length - 1)))) ss.length) 15 most (leastOf (ss.map (ln c)) most) := by
  have hw := Wt.of hp hr
  have hl : (ss.map (ln c)).length = ss.length := List.length_map ..
  by_cases h2 : ss.length < 2
  · rw [if_pos h2]
    refine good_of hp hm (by simp) (fun i => ?_) (fun h => by omega) (fun _ => ?_) ?_
    · simp [ln, List.getElem?_replicate]; split <;> simp
    · simp [ln, List.getElem?_replicate]; split <;> simp
    · unfold leastOf
      rw [if_pos (by rw [hl]; exact h2), ← List.take_length (l := ss.map (ln c)), take_sum _ _ (Nat.le_refl _), hl]
      refine sumTo_congr fun i _ => ?_
      have : ln (List.replicate ss.length 0) i = 0 := by simp [ln, List.getElem?_replicate]; split <;> rfl
      rw [this, List.take_of_length_le (by rw [hl]; exact Nat.le_refl _)]
      simp
  · rw [if_neg h2]
    obtain ⟨f1, f2, f3, f4⟩ := pack_full hr hw.pos most hm (by omega) (by rw [hl]; exact hpow)
    rw [hl] at f1 f2 f3 f4
    refine good_of hp hm (dpt_length _ _) (fun i => ?_) (fun _ => ⟨fun i hi => by rw [dpt_at _ _ i hi]; exact f2 i hi, ?_⟩) (fun h => by omega) ?_
    · rcases Nat.lt_or_ge i ss.length with h | h
      · rw [dpt_at _ _ i h]; exact f1 i
      · simp [ln, dpt, h]
    · have e : ∀ i, i < ss.length → 2 ^ (15 - ln (dpt ss.length (lv (ss.map (ln c)) (most - 1) (2 * (ss.length - 1)))) i) = 2 ^ (most - dp (lv (ss.map (ln c)) (most - 1) (2 * (ss.length - 1))) i) * 2 ^ (15 - most) := fun i hi => by
        rw [dpt_at _ _ i hi, ← Nat.pow_add]
        congr 1
        have := f1 i
        omega
      rw [sumTo_congr e]
      have hmul : ∀ (n : Nat) (f : Nat → Nat) (k : Nat), sumTo n (fun i => f i * k) = sumTo n f * k := fun n f k => by
        induction n with
        | zero => simp [sumTo]
        | succ n ih => rw [sumTo, sumTo, ih, Nat.add_mul]
      rw [hmul, f3, ← Nat.pow_add]
      congr 1
      omega
    · rw [← f4]
      refine sumTo_congr fun i hi => ?_
      rw [dpt_at _ _ i hi, Nat.max_eq_left (f2 i hi)]
end Go.Proofs.Ytjbohidkjlnalaa
