/- A symbol that is read takes a bit at least, and is one of the code's. -/
import Derived.Test.YtackcgiokkbhdaaDoorM8
namespace Go.Proofs.YtackcgiokkbhdaaDoor

theorem scan_step (l : List Nat) (b : List UInt8) (f K n p : Nat) : scan l b (f + 1) K n p = if b.length ≤ p then (0, p, 3) else if 2 * n + bt b p < fi l K + cn l K then (sy l (st l K + (2 * n + bt b p - fi l K)), p + 1, 0) else scan l b f (K + 1) (2 * n + bt b p) (p + 1) := rfl
theorem scan_moves (l : List Nat) (b : List UInt8) : ∀ (f K n p : Nat), (scan l b f K n p).2.2 = 0 → p < (scan l b f K n p).2.1 ∧ (scan l b f K n p).2.1 ≤ b.length
  | 0, K, n, p, h => by simp [scan] at h
  | f + 1, K, n, p, h => by
    rw [scan_step] at h ⊢
    by_cases h1 : b.length ≤ p
    · rw [if_pos h1] at h
      simp at h
    · rw [if_neg h1] at h ⊢
      by_cases h2 : 2 * n + bt b p < fi l K + cn l K
      · rw [if_pos h2]
        exact ⟨Nat.lt_succ_self _, by simp; omega⟩
      · rw [if_neg h2] at h ⊢
        have := scan_moves l b f (K + 1) (2 * n + bt b p) (p + 1) h
        omega
theorem sy_lt (l : List Nat) (p : Nat) : sy l p < l.length ∨ sy l p = 0 := by
  unfold sy
  cases h : (List.range l.length).find? fun s => decide (0 < ln l s) && decide (ps l s = p) with
  | none => exact .inr rfl
  | some x => exact .inl (by simpa using List.mem_of_find?_eq_some h)
theorem scan_symbol (l : List Nat) (b : List UInt8) : ∀ (f K n p : Nat), (scan l b f K n p).1 < l.length ∨ (scan l b f K n p).1 = 0
  | 0, K, n, p => .inr (by simp [scan])
  | f + 1, K, n, p => by
    rw [scan_step]
    split
    · exact .inr rfl
    · split
      · exact sy_lt _ _
      · exact scan_symbol l b f _ _ _
theorem rdp_moves (l : List Nat) (b : List UInt8) (a : Nat) (h : (rdp l b a).2.2 = 0) : a < (rdp l b a).2.1 ∧ (rdp l b a).2.1 ≤ b.length := scan_moves l b _ _ _ _ h
theorem rdp_symbol (l : List Nat) (b : List UInt8) (a : Nat) (h : l.length ≤ 288) : (rdp l b a).1 < 288 := by
  rcases scan_symbol l b (lg l) 1 0 a with h1 | h1
  · exact Nat.lt_of_lt_of_le h1 h
  · show (scan l b (lg l) 1 0 a).1 < 288
    omega
/-- The error of a symbol is one that the walk tells. -/
theorem scan_err (l : List Nat) (b : List UInt8) : ∀ (f K n p : Nat), (scan l b f K n p).2.2 ≤ 10
  | 0, K, n, p => by simp [scan]
  | f + 1, K, n, p => by
    rw [scan_step]
    split
    · simp
    · split
      · simp
      · exact scan_err l b f _ _ _
theorem rdp_err (l : List Nat) (b : List UInt8) (a : Nat) : (rdp l b a).2.2 ≤ 10 := scan_err l b _ _ _ _

theorem mLen_ok (B : List UInt8) (s a : Nat) (h : (mLen B s a).1 = 0) : a ≤ (mLen B s a).2.1 ∧ (mLen B s a).2.1 ≤ B.length ∧ s ≤ 285 ∧ (mLen B s a).2.2 = lv s + nm B a (lw s) := by
  unfold mLen at h ⊢
  split at h
  · cases h
  · split at h
    · cases h
    · rename_i h1 h2
      rw [if_neg h1, if_neg h2]
      exact ⟨Nat.le_add_right _ _, by simp; omega, by omega, rfl⟩
theorem mDist_ok (B : List UInt8) (l : List Nat) (a : Nat) (h : (mDist B l a).1 = 0) : a ≤ (mDist B l a).2.1 ∧ (mDist B l a).2.1 ≤ B.length ∧ 1 ≤ (mDist B l a).2.2 ∧ (mDist B l a).2.2 ≤ 40000 := by
  unfold mDist at h ⊢
  split at h
  · rename_i h1
    exact absurd h h1
  · rename_i h1
    have hm := rdp_moves l B a (by omega)
    split at h
    · cases h
    · rename_i h2
      split at h
      · cases h
      · rename_i h3
        rw [if_neg h1, if_neg h2, if_neg h3]
        have ht : (rdp l B a).1 < 30 := by omega
        generalize (rdp l B a).1 = y at h3 ht ⊢
        generalize (rdp l B a).2.1 = a2 at h3 hm ⊢
        have hy := nm_lt B a2 (db y)
        have hd : ∀ s : Fin 30, 1 ≤ df s.val ∧ df s.val + 2 ^ db s.val ≤ 32769 := by decide +kernel
        have := hd ⟨y, ht⟩
        simp only at this ⊢
        omega
theorem mBack_ok (B : List UInt8) (l : List Nat) (most : Int) (s a : Nat) (out : List UInt8) (h : (mBack B l most s a out).1 = 0) :
    a ≤ (mBack B l most s a out).2.1 ∧ (mBack B l most s a out).2.1 ≤ B.length ∧ ((mBack B l most s a out).2.2.length : Int) ≤ most := by
  unfold mBack at h ⊢
  split at h
  · rename_i h1; exact absurd h h1
  · rename_i h1
    split at h
    · rename_i h2; exact absurd h h2
    · rename_i h2
      split at h
      · cases h
      · rename_i h3
        split at h
        · cases h
        · rename_i h4
          rw [if_neg h1, if_neg h2, if_neg h3, if_neg h4]
          have q1 := mLen_ok B s a (by omega)
          have q2 := mDist_ok B l (mLen B s a).2.1 (by omega)
          refine ⟨Nat.le_trans q1.1 q2.1, q2.2.1, ?_⟩
          simp only [copyF_length]
          omega
end Go.Proofs.YtackcgiokkbhdaaDoor
