/- Plain words: a greater limit costs no more. -/
import Derived.Test.YtjbohidkjlnalaaLMath
namespace Go.Proofs.Ytjbohidkjlnalaa

/-- How many are up to x. -/
def upTo (x : Nat) (l : List Nat) : Nat := l.countP fun y => decide (y ≤ x)
theorem upTo_in {l : List Nat} (h : Rise l) {i x : Nat} (hi : i < l.length) (hx : ln l i ≤ x) : i + 1 ≤ upTo x l := by
  unfold upTo
  conv => rhs; rw [← List.take_append_drop (i + 1) l]
  rw [List.countP_append, List.countP_eq_length.2, List.length_take]
  · omega
  · intro a ha
    rw [List.mem_take_iff_getElem] at ha
    obtain ⟨j, hj, rfl⟩ := ha
    have := h.at (i := j) (j := i) (by omega) hi
    simp only [ln, List.getD_eq_getElem?_getD, List.getElem?_eq_getElem (show j < l.length by omega), Option.getD_some] at this
    unfold ln at hx
    rw [List.getD_eq_getElem?_getD] at hx
    simp
    omega
theorem upTo_out {l : List Nat} (h : Rise l) {i x : Nat} (hi : i < l.length) (hx : i < upTo x l) : ln l i ≤ x := by
  rcases Nat.lt_or_ge x (ln l i) with h1 | h1
  · exfalso
    unfold upTo at hx
    rw [← List.take_append_drop i l, List.countP_append] at hx
    have h2 : (l.drop i).countP (fun y => decide (y ≤ x)) = 0 := by
      rw [List.countP_eq_zero]
      intro a ha
      rw [List.mem_drop_iff_getElem] at ha
      obtain ⟨j, hj, rfl⟩ := ha
      have := h.at (i := i) (j := i + j) (by omega) (by omega)
      simp only [ln, List.getD_eq_getElem?_getD, List.getElem?_eq_getElem (show i + j < l.length by omega), Option.getD_some] at this
      unfold ln at h1
      rw [List.getD_eq_getElem?_getD] at h1
      simp
      omega
    have h3 : (l.take i).countP (fun y => decide (y ≤ x)) ≤ i := by
      refine Nat.le_trans List.countP_le_length ?_
      rw [List.length_take]
      omega
    omega
  · exact h1
/-- Place by place no greater. -/
def Ple (a b : List Nat) : Prop := b.length ≤ a.length ∧ ∀ i, i < b.length → ln a i ≤ ln b i
theorem Ple.counts {a b : List Nat} (ha : Rise a) (hb : Rise b) (h : Ple a b) (x : Nat) : upTo x b ≤ upTo x a := by
  rcases Nat.eq_zero_or_pos (upTo x b) with h1 | h1
  · omega
  · have h2 : upTo x b ≤ b.length := List.countP_le_length
    have h3 := upTo_out hb (i := upTo x b - 1) (x := x) (by omega) (by omega)
    have h4 := h.2 (upTo x b - 1) (by omega)
    have h5 := upTo_in ha (i := upTo x b - 1) (x := x) (by have := h.1; omega) (by omega)
    omega
theorem Ple.of {a b : List Nat} (ha : Rise a) (hb : Rise b) (hl : b.length ≤ a.length) (h : ∀ x, upTo x b ≤ upTo x a) : Ple a b := by
  refine ⟨hl, fun i hi => ?_⟩
  have h1 := upTo_in hb hi (Nat.le_refl (ln b i))
  exact upTo_out ha (by omega) (by have := h (ln b i); omega)
theorem upTo_mrg (x : Nat) (a b : List Nat) : upTo x (mrg a b) = upTo x a + upTo x b := by
  unfold upTo
  rw [(mrg_perm a b).countP_eq, List.countP_append]
theorem rs_falls {W : List Nat} (hW : Rise W) (k : Nat) : Ple (rs W (k + 1)) (rs W k) := by
  induction k with
  | zero =>
    refine Ple.of (rs_rise hW 1) hW ?_ fun x => ?_
    · rw [rs_length]; show W.length ≤ _; omega
    · show upTo x W ≤ upTo x (mrg W (prs W))
      rw [upTo_mrg]
      omega
  | succ k ih =>
    have hp : Ple (prs (rs W (k + 1))) (prs (rs W k)) := by
      refine ⟨by rw [prs_length, prs_length]; have := ih.1; omega, fun i hi => ?_⟩
      rw [prs_length] at hi
      have := ih.1
      rw [prs_at _ i (by omega), prs_at _ i (by omega)]
      have h1 := ih.2 (2 * i) (by omega)
      have h2 := ih.2 (2 * i + 1) (by omega)
      omega
    have hc := hp.counts (prs_rise _ (rs_rise hW _)) (prs_rise _ (rs_rise hW _))
    refine Ple.of (rs_rise hW _) (rs_rise hW _) ?_ fun x => ?_
    · rw [rs_length, rs_length]; have := ih.1; omega
    · show upTo x (mrg W (prs (rs W k))) ≤ upTo x (mrg W (prs (rs W (k + 1))))
      rw [upTo_mrg, upTo_mrg]
      have := hc x
      omega
theorem least_falls {W : List Nat} (hW : Rise W) (most : Nat) (hm : 1 ≤ most) (hpow : W.length ≤ 2 ^ most) : leastOf W (most + 1) ≤ leastOf W most := by
  unfold leastOf
  split
  · exact Nat.le_refl _
  · obtain ⟨q, rfl⟩ : ∃ q, most = q + 1 := ⟨most - 1, by omega⟩
    have h1 := rs_long W q hpow
    have h2 := rs_falls hW q
    simp only [Nat.add_sub_cancel]
    rw [take_sum _ _ (Nat.le_trans h1 h2.1), take_sum _ _ h1]
    exact sumTo_mono fun i hi => h2.2 i (by omega)
end Go.Proofs.Ytjbohidkjlnalaa
