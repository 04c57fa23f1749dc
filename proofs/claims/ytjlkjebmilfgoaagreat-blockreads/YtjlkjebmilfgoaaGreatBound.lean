/- Layer 8 in plain words: where blocks end, and how much is said. -/
import Derived.Test.YtjlkjebmilfgoaaGreatIC
namespace Go.Proofs.YtjlkjebmilfgoaaGreat

theorem mCoded_ok (B : List UInt8) (la lb : List Nat) (most : Int) (M : Nat) (hM : most ≤ M) : ∀ (f a : Nat) (out : List UInt8), a ≤ B.length → out.length ≤ M → (mCoded B la lb most f a out).1 = 0 → a ≤ (mCoded B la lb most f a out).2.1 ∧ (mCoded B la lb most f a out).2.1 ≤ B.length ∧ (mCoded B la lb most f a out).2.2.length ≤ M
  | 0, a, out, _, _, h => by cases h
  | f + 1, a, out, ha, ho, h => by
    rw [mCoded_step] at h ⊢
    have hm := rdp_moves la B a
    by_cases h1 : (rdp la B a).2.2 ≠ 0
    · rw [if_pos h1] at h
      exact absurd h h1
    · rw [if_neg h1] at h ⊢
      have hm := hm (by omega)
      by_cases h2 : (rdp la B a).1 = 256
      · rw [if_pos h2] at h ⊢
        exact ⟨by simp; omega, hm.2, ho⟩
      · rw [if_neg h2] at h ⊢
        by_cases h3 : (rdp la B a).1 < 256
        · rw [if_pos h3] at h ⊢
          by_cases h4 : most < out.length + 1
          · rw [if_pos h4] at h
            cases h
          · rw [if_neg h4] at h ⊢
            have := mCoded_ok B la lb most M hM f _ _ hm.2 (by rw [List.length_append]; simp; omega) h
            exact ⟨by omega, this.2⟩
        · rw [if_neg h3] at h ⊢
          by_cases h4 : (mBack B lb most (rdp la B a).1 (rdp la B a).2.1 out).1 ≠ 0
          · rw [if_pos h4] at h
            exact absurd h h4
          · rw [if_neg h4] at h ⊢
            have hb := mBack_ok B lb most (rdp la B a).1 (rdp la B a).2.1 out (by omega)
            have := mCoded_ok B la lb most M hM f _ _ hb.2.1 (by omega) h
            exact ⟨by omega, this.2⟩
theorem mRow_ok (B : List UInt8) (l : List Nat) (n : Nat) : ∀ (f a : Nat) (o : List Nat), a ≤ B.length → (mRow B l n f a o).1 = 0 → a ≤ (mRow B l n f a o).2.1 ∧ (mRow B l n f a o).2.1 ≤ B.length
  | 0, a, o, ha, _ => ⟨Nat.le_refl _, ha⟩
  | f + 1, a, o, ha, h => by
    rw [mRow_step] at h ⊢
    have hm := rdp_moves l B a
    by_cases h0 : n ≤ o.length
    · rw [if_pos h0]
      exact ⟨Nat.le_refl _, ha⟩
    · rw [if_neg h0] at h ⊢
      by_cases h1 : (rdp l B a).2.2 ≠ 0
      · rw [if_pos h1] at h
        exact absurd h h1
      · rw [if_neg h1] at h ⊢
        have hm := hm (by omega)
        by_cases h2 : (rdp l B a).1 < 16
        · rw [if_pos h2] at h ⊢
          have := mRow_ok B l n f _ _ hm.2 h
          exact ⟨by omega, this.2⟩
        · rw [if_neg h2] at h ⊢
          by_cases h3 : (rdp l B a).1 = 16 ∧ o.length = 0
          · rw [if_pos h3] at h
            cases h
          · rw [if_neg h3] at h ⊢
            by_cases h4 : B.length < (rdp l B a).2.1 + tw (rdp l B a).1
            · rw [if_pos h4] at h
              cases h
            · rw [if_neg h4] at h ⊢
              by_cases h5 : n < o.length + (tv (rdp l B a).1 + nm B (rdp l B a).2.1 (tw (rdp l B a).1))
              · rw [if_pos h5] at h
                cases h
              · rw [if_neg h5] at h ⊢
                have := mRow_ok B l n f _ _ (by omega) h
                exact ⟨by omega, this.2⟩
theorem mOwn2_ok (B : List UInt8) (n0 n1 : Nat) (l : List Nat) (a : Nat) (ha : a ≤ B.length) (h : (mOwn2 B n0 n1 l a).1 = 0) : a ≤ (mOwn2 B n0 n1 l a).2.1 ∧ (mOwn2 B n0 n1 l a).2.1 ≤ B.length := by
  unfold mOwn2 at h ⊢
  have hr := mRow_ok B l (n0 + n1) (n0 + n1) a [] ha
  by_cases h1 : (kd l).2 ≠ 0 ∨ (kd l).1 = 2
  · rw [if_pos h1] at h; cases h
  · rw [if_neg h1] at h ⊢
    by_cases h2 : (mRow B l (n0 + n1) (n0 + n1) a []).1 ≠ 0
    · rw [if_pos h2] at h; exact absurd h h2
    · rw [if_neg h2] at h ⊢
      by_cases h3 : ln (mRow B l (n0 + n1) (n0 + n1) a []).2.2 256 = 0
      · rw [if_pos h3] at h; cases h
      · rw [if_neg h3] at h ⊢
        by_cases h4 : (kd ((mRow B l (n0 + n1) (n0 + n1) a []).2.2.take n0)).2 ≠ 0 ∨ (kd ((mRow B l (n0 + n1) (n0 + n1) a []).2.2.drop n0)).2 ≠ 0
        · rw [if_pos h4] at h; cases h
        · rw [if_neg h4]
          exact hr (by omega)
theorem mOwn_ok (B : List UInt8) (a : Nat) (h : (mOwn B a).1 = 0) : a ≤ (mOwn B a).2.1 ∧ (mOwn B a).2.1 ≤ B.length := by
  unfold mOwn at h ⊢
  by_cases h1 : B.length < a + 14
  · rw [if_pos h1] at h; cases h
  · rw [if_neg h1] at h ⊢
    by_cases h2 : 286 < 257 + nm B a 5 ∨ 30 < 1 + nm B (a + 5) 5
    · rw [if_pos h2] at h; cases h
    · rw [if_neg h2] at h ⊢
      by_cases h3 : B.length < a + 14 + 3 * (4 + nm B (a + 10) 4)
      · rw [if_pos h3] at h; cases h
      · rw [if_neg h3] at h ⊢
        have := mOwn2_ok _ _ _ _ _ (by omega) h
        exact ⟨by omega, this.2⟩
theorem mStored_ok (B : List UInt8) (most : Int) (M a : Nat) (out : List UInt8) (hM : most ≤ M) (h : (mStored B most a out).1 = 0) : a ≤ (mStored B most a out).2.1 ∧ (mStored B most a out).2.1 ≤ B.length ∧ (mStored B most a out).2.2.length ≤ M := by
  unfold mStored at h ⊢
  have hu : a ≤ up8 a := by unfold up8; omega
  by_cases h1 : B.length < up8 a + 32
  · rw [if_pos h1] at h; cases h
  · rw [if_neg h1] at h ⊢
    by_cases h2 : nm B (up8 a) 16 + nm B (up8 a + 16) 16 ≠ 65535
    · rw [if_pos h2] at h; cases h
    · rw [if_neg h2] at h ⊢
      by_cases h3 : most < out.length + nm B (up8 a) 16
      · rw [if_pos h3] at h; cases h
      · rw [if_neg h3] at h ⊢
        by_cases h4 : B.length < up8 a + 32 + 8 * nm B (up8 a) 16
        · rw [if_pos h4] at h; cases h
        · rw [if_neg h4]
          refine ⟨by simp; omega, by simp; omega, ?_⟩
          simp only [List.length_append, by8_length]
          omega
theorem mBlock_ok (B : List UInt8) (most : Int) (M kind a : Nat) (out : List UInt8) (hM : most ≤ M) (ha : a ≤ B.length) (ho : out.length ≤ M) (h : (mBlock B most kind a out).1 = 0) : a ≤ (mBlock B most kind a out).2.1 ∧ (mBlock B most kind a out).2.1 ≤ B.length ∧ (mBlock B most kind a out).2.2.length ≤ M := by
  unfold mBlock at h ⊢
  by_cases h1 : kind = 0
  · rw [if_pos h1] at h ⊢
    exact mStored_ok B most M a out hM h
  · rw [if_neg h1] at h ⊢
    by_cases h2 : kind = 1
    · rw [if_pos h2] at h ⊢
      exact mCoded_ok B _ _ most M hM _ a out ha ho h
    · rw [if_neg h2] at h ⊢
      by_cases h3 : kind = 2
      · rw [if_pos h3] at h ⊢
        by_cases h4 : (mOwn B a).1 ≠ 0
        · rw [if_pos h4] at h; exact absurd h h4
        · rw [if_neg h4] at h ⊢
          have q := mOwn_ok B a (by omega)
          have := mCoded_ok B _ _ most M hM _ _ out q.2 ho h
          exact ⟨by omega, this.2⟩
      · rw [if_neg h3] at h
        cases h
theorem mStr_step (B : List UInt8) (most : Int) (f a : Nat) (out : List UInt8) (ks : List Nat) : mStr B most (f + 1) a out ks =
    if B.length < a + 3 then (3, a, out, ks)
    else if (mBlock B most (nm B (a + 1) 2) (a + 3) out).1 ≠ 0 then ((mBlock B most (nm B (a + 1) 2) (a + 3) out).1, a, out, ks)
    else if nm B a 1 = 1 then (0, (mBlock B most (nm B (a + 1) 2) (a + 3) out).2.1, (mBlock B most (nm B (a + 1) 2) (a + 3) out).2.2, ks ++ [nm B (a + 1) 2])
    else mStr B most f (mBlock B most (nm B (a + 1) 2) (a + 3) out).2.1 (mBlock B most (nm B (a + 1) 2) (a + 3) out).2.2 (ks ++ [nm B (a + 1) 2]) := rfl
end Go.Proofs.YtjlkjebmilfgoaaGreat
