/- Layer 11, the program: what is told ahead of symbols, written. -/
import Derived.Test.YtoclbodmibagpaaKLens
import Derived.Test.YtoclbodmibagpaaKCodes
import Derived.Test.YtoclbodmibagpaaRTree
namespace Go.Proofs.Ytoclbodmibagpaa
open Go.RowKit

theorem sumBy_sumTo (f : Nat → Nat) (l : List Nat) : ∀ k, k ≤ l.length → sumBy f (l.take k) = sumTo k fun i => f (ln l i)
  | 0, _ => by simp [sumBy, sumTo]
  | k + 1, h => by rw [sumBy_take f l k (by omega), sumBy_sumTo f l k (by omega), sumTo]
theorem sumBy_all (f : Nat → Nat) (l : List Nat) : sumBy f l = sumTo l.length fun i => f (ln l i) := by
  have := sumBy_sumTo f l l.length (Nat.le_refl _)
  rw [List.take_length] at this
  exact this
/-- Lengths that fit make a code. -/
theorem good_kd {c L : List Nat} {most cost : Nat} (h : Good c L 15 most cost) (hm : most ≤ 15) : (kd L).2 = 0 := by
  have hl : Low L := fun x hx => by
    obtain ⟨i, _, rfl⟩ := mem_ln hx
    exact Nat.le_trans (h.top i) hm
  have h1 : fu L 16 = sumTo c.length fun s => pw 15 (ln L s) := by rw [fu_sum L hl, sumBy_all, h.len]; rfl
  have h2 : st L 16 = (c.filter fun x => decide (0 < x)).length := by
    rw [st_sum L hl, sumBy_all, h.len, ← h.num]
    rfl
  unfold kd
  split
  · rfl
  · rename_i h3
    split
    · rfl
    · rename_i h4
      by_cases h5 : 2 ≤ (c.filter fun x => decide (0 < x)).length
      · rw [if_pos (by rw [h1, h.full h5])]
      · exfalso
        have h6 : (c.filter fun x => decide (0 < x)).length = 1 := by omega
        refine h4 ⟨by rw [h2, h6], ?_⟩
        have h7 := h.lone h6
        have h8 := h.num
        rw [h6] at h8
        have h9 : (sumTo c.length fun s => pw 15 (ln L s)) = sumTo c.length fun s => nz (ln L s) * 16384 := sumTo_congr fun s _ => by
          have := h7 s
          unfold pw nz
          rcases Nat.eq_zero_or_pos (ln L s) with e | e
          · rw [if_pos e, if_pos e]
          · rw [if_neg (by omega), if_neg (by omega), show ln L s = 1 by omega]
        have h10 : ∀ n, (sumTo n fun s => nz (ln L s) * 16384) = (sumTo n fun s => nz (ln L s)) * 16384 := fun n => by
          induction n with
          | zero => simp [sumTo]
          | succ n ih => rw [sumTo, sumTo, ih, Nat.add_mul]
        rw [h1, h9, h10, h8]
theorem sumBy_zeros (f : Nat → Nat) (h0 : f 0 = 0) (l : List Nat) (m : Nat) (h : ∀ i, m ≤ i → ln l i = 0) : sumBy f (l.take m) = sumBy f l := by
  rcases Nat.le_total m l.length with hm | hm
  · rw [sumBy_sumTo f l m hm, sumBy_all]
    obtain ⟨d, hd⟩ : ∃ d, l.length = m + d := ⟨l.length - m, by omega⟩
    rw [hd]
    clear hd hm
    induction d with
    | zero => rfl
    | succ d ih => rw [← Nat.add_assoc, sumTo, ← ih, h (m + d) (by omega), h0, Nat.add_zero]
  · rw [List.take_of_length_le hm]
theorem trim_zero (l : List Nat) (least i : Nat) (h : trimN l least l.length ≤ i) : ln l i = 0 := by
  rcases Nat.lt_or_ge i l.length with h2 | h2
  · exact trimN_zero l least _ i h h2
  · unfold ln
    rw [List.getD_eq_getElem?_getD, List.getElem?_eq_none h2]
    rfl
theorem kd_trim (l : List Nat) (least : Nat) (hl : Low l) : kd (trimF l least) = kd l := by
  have hl2 : Low (trimF l least) := fun x hx => hl x (List.mem_of_mem_take hx)
  have h1 : st (trimF l least) 16 = st l 16 := by rw [st_sum _ hl2, st_sum _ hl]; exact sumBy_zeros on rfl l _ fun i h => trim_zero l least i h
  have h2 : fu (trimF l least) 16 = fu l 16 := by rw [fu_sum _ hl2, fu_sum _ hl]; exact sumBy_zeros wt rfl l _ fun i h => trim_zero l least i h
  unfold kd
  rw [h1, h2]

section
variable {L : List Nat} (hL : L.length = 317)
include hL
theorem goodA : Good (L.take 286) (lens6 (L.take 286) 15) 15 15 (leastOf ((order6 (L.take 286)).map (ln (L.take 286))) 15) := lens6_good' _ 15 (by decide) (by decide) (Nat.le_trans (some_le _) (by rw [takeA hL]; decide))
theorem goodB : Good ((L.drop 286).take 30) (lens6 ((L.drop 286).take 30) 15) 15 15 (leastOf ((order6 ((L.drop 286).take 30)).map (ln ((L.drop 286).take 30))) 15) := lens6_good' _ 15 (by decide) (by decide) (Nat.le_trans (some_le _) (by rw [takeB hL]; decide))
omit hL in
theorem low_of_good {c l : List Nat} {cost : Nat} (h : Good c l 15 15 cost) : Low l := fun x hx => by
  obtain ⟨i, _, rfl⟩ := mem_ln hx
  exact h.top i
theorem kdA : (kd (ownA L)).2 = 0 := by
  unfold ownA
  rw [kd_trim _ _ (low_of_good (goodA hL))]
  exact good_kd (goodA hL) (by decide)
theorem kdB : (kd (ownB L)).2 = 0 := by
  unfold ownB
  rw [kd_trim _ _ (low_of_good (goodB hL))]
  exact good_kd (goodB hL) (by decide)
end
theorem goodF (L : List Nat) : Good (countF (ownR L)) (ownF L) 15 7 (leastOf ((order6 (countF (ownR L))).map (ln (countF (ownR L)))) 7) := lens6_good' _ 7 (by decide) (by decide) (Nat.le_trans (some_le _) (by rw [countF_len]; decide))
theorem kdF (L : List Nat) : (kd (ownF L)).2 = 0 := good_kd (goodF L) (by decide)
theorem lowF (L : List Nat) : Low (ownF L) := fun x hx => by
  obtain ⟨i, _, rfl⟩ := mem_ln hx
  exact Nat.le_trans ((ownF_facts L).2 i) (by decide)

/-- Symbols that say a row may be. -/
theorem un_may : ∀ (p : List Ru) (o l : List Nat), unF p o = (l, 0) → ∀ r ∈ p, mayR r = true
  | [], _, _, _, r, hr => by cases hr
  | x :: p, o, l, h, r, hr => by
    rw [unF] at h
    split at h
    · simp at h
    · rename_i h1
      split at h
      · simp at h
      · split at h
        · simp at h
        · rcases List.mem_cons.1 hr with rfl | h2
          · simpa using h1
          · exact un_may p _ l h r h2
theorem bump_mono (r : Ru) (l : List Nat) (i : Nat) : l.getD i 0 ≤ (bump r l).getD i 0 := by
  unfold bump
  split
  · rw [List.getD_eq_getElem?_getD, List.getD_eq_getElem?_getD, List.getElem?_set]
    split
    · rename_i h
      subst h
      split
      · rw [List.getD_eq_getElem?_getD]; simp
      · rename_i h2
        rw [List.getElem?_eq_none (by omega)]
        simp
    · exact Nat.le_refl _
  · exact Nat.le_refl _
theorem count_fold (p : List Ru) : ∀ (l : List Nat) (i : Nat), l.getD i 0 ≤ (p.foldl (fun l r => bump r l) l).getD i 0 := by
  induction p with
  | nil => intro l i; exact Nat.le_refl _
  | cons r p ih => intro l i; exact Nat.le_trans (bump_mono r l i) (ih _ i)
theorem count_pos (p : List Ru) (r : Ru) (hr : r ∈ p) (h0 : 0 ≤ r.s) (h18 : r.s ≤ 18) : ∀ l : List Nat, l.length = 19 → 0 < (p.foldl (fun l r => bump r l) l).getD r.s.toNat 0 := by
  induction p with
  | nil => cases hr
  | cons x p ih =>
    intro l hl
    rw [List.foldl_cons]
    rcases List.mem_cons.1 hr with rfl | h
    · refine Nat.lt_of_lt_of_le ?_ (count_fold p _ _)
      rw [bump_yes r l ⟨h0, h18⟩, List.getD_eq_getElem?_getD, List.getElem?_set, if_pos rfl, if_pos (by omega)]
      simp
    · exact ih h _ (by rw [bump_length, hl])
theorem hasF (L : List Nat) (h : unF (ownR L) [] = (ownA L ++ ownB L, 0)) (r : Ru) (hr : r ∈ ownR L) : Has (ownF L) r.s.toNat := by
  have hm := mayR_yes r (un_may _ _ _ h r hr)
  refine ⟨by rw [(ownF_facts L).1]; omega, ((goodF L).pos _).2 ?_⟩
  exact count_pos (ownR L) r hr hm.1 hm.2.1 _ (by simp)

/-- The first code's lengths, as far as they are told. -/
def ownT (L : List Nat) : List Nat := trimF (toldTo (ownF L) 19) 4
theorem ownT_len (L : List Nat) : 4 ≤ (ownT L).length ∧ (ownT L).length ≤ 19 := by
  unfold ownT
  rw [trimF_length, toldTo_length _ _ (Nat.le_refl _)]
  exact ⟨trimN_ge _ _ _ (by decide), trimN_le _ _ _⟩
theorem ln_all {l : List Nat} {M : Nat} (h : ∀ x ∈ l, x ≤ M) (i : Nat) : ln l i ≤ M := by
  unfold ln
  rw [List.getD_eq_getElem?_getD]
  rcases Nat.lt_or_ge i l.length with h2 | h2
  · rw [List.getElem?_eq_getElem h2]
    exact h _ (List.getElem_mem h2)
  · rw [List.getElem?_eq_none h2]
    exact Nat.zero_le _
theorem ownT_le (L : List Nat) (i : Nat) : ln (ownT L) i ≤ 7 := by
  unfold ownT
  rw [ln_trimF]
  refine ln_all (fun x hx => ?_) i
  obtain ⟨y, _, rfl⟩ := List.mem_map.1 hx
  exact (ownF_facts L).2 y
def hdr0 (L : List Nat) : List UInt8 := nb ((ownA L).length - 257) 5 ++ nb ((ownB L).length - 1) 5 ++ nb ((ownT L).length - 4) 4
def hdr1 (L : List Nat) (k : Nat) : List UInt8 := ((ownT L).take k).flatMap fun n => nb n 3
def ruB (F : List Nat) (r : Ru) : List UInt8 := code F r.s.toNat ++ nb r.m.toNat (bitsF r.s)
def hdr2 (L : List Nat) (k : Nat) : List UInt8 := ((ownR L).take k).flatMap (ruB (ownF L))
/-- All that a block of kind 2 tells ahead of its symbols. -/
def hdrB (L : List Nat) : List UInt8 := hdr0 L ++ hdr1 L 19 ++ hdr2 L 316
end Go.Proofs.Ytoclbodmibagpaa
