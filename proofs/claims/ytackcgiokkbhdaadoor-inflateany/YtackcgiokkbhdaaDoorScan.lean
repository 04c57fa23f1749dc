/- Plain arithmetic of layer 5: how bits are read by a code, and a code's bits turned round. No Go in sight. -/
import Derived.Test.YtackcgiokkbhdaaDoorMath
namespace Go.Proofs.YtackcgiokkbhdaaDoor

/-- The longest code's length. -/
def lgf (l : List Nat) : Nat → Nat
  | 0 => 0
  | k + 1 => if cn l (k + 1) = 0 then lgf l k else k + 1
def lg (l : List Nat) : Nat := lgf l 15
theorem lgf_le (l : List Nat) : ∀ k, lgf l k ≤ k
  | 0 => Nat.le_refl _
  | k + 1 => by
    unfold lgf
    split
    · exact Nat.le_trans (lgf_le l k) (Nat.le_succ k)
    · exact Nat.le_refl _
theorem lg_le (l : List Nat) : lg l ≤ 15 := lgf_le l 15
theorem lgf_above (l : List Nat) : ∀ K k, lgf l K < k → k ≤ K → cn l k = 0
  | 0, k, h, h2 => by omega
  | K + 1, k, h, h2 => by
    unfold lgf at h
    split at h
    · rename_i h0
      rcases Nat.eq_or_lt_of_le h2 with e | h3
      · rw [e]; exact h0
      · exact lgf_above l K k h (by omega)
    · omega
theorem lgf_has (l : List Nat) : ∀ K, lgf l K = 0 ∨ cn l (lgf l K) ≠ 0
  | 0 => .inl rfl
  | K + 1 => by
    unfold lgf
    split
    · exact lgf_has l K
    · rename_i h0; exact .inr h0
theorem st_above (l : List Nat) (a : Nat) : ∀ b, a ≤ b → (∀ k, a ≤ k → k < b → cn l k = 0) → st l b = st l a ∧ fu l b = fu l a
  | 0, h, _ => by obtain rfl : a = 0 := by omega
                  exact ⟨rfl, rfl⟩
  | b + 1, h, hz => by
    rcases Nat.eq_or_lt_of_le h with e | h1
    · rw [e]; exact ⟨rfl, rfl⟩
    · have h2 := st_above l a b (by omega) fun k h3 h4 => hz k h3 (by omega)
      have h3 := hz b (by omega) (by omega)
      rw [st, fu, h3, h2.1, h2.2]
      simp
theorem lg_top (l : List Nat) : st l 16 = st l (lg l + 1) ∧ fu l 16 = fu l (lg l + 1) :=
  st_above l (lg l + 1) 16 (by have := lg_le l; omega) fun k h1 h2 => lgf_above l 15 k h1 (by omega)
theorem lg_zero (l : List Nat) (h : st l 16 = 0) : lg l = 0 := by
  have h1 := lgf_has l 15
  have h2 := st_mono l (lg l + 1) 16 (by have := lg_le l; omega)
  have h3 : st l (lg l + 1) = st l (lg l) + cn l (lg l) := rfl
  unfold lg at *
  omega
theorem lg_pos (l : List Nat) (h : st l 16 ≠ 0) : 1 ≤ lg l := by
  have h1 := (lg_top l).1
  rcases Nat.eq_zero_or_pos (lg l) with e | e
  · rw [e] at h1
    have h2 : st l (0 + 1) = 0 := by simp [st, cn]
    omega
  · exact e
theorem lone_lg (l : List Nat) (h : st l 16 = 1) (hf : fu l 16 = 16384) : lg l = 1 ∧ cn l 1 = 1 := by
  have h1 := lg_pos l (by omega)
  have h2 := lg_le l
  have h3 := lg_top l
  have h4 := fu_fi l (lg l) h2
  have h5 : st l (lg l + 1) = st l (lg l) + cn l (lg l) := rfl
  have h6 : cn l (lg l) ≠ 0 := by rcases lgf_has l 15 with e | e <;> unfold lg at *; omega; exact e
  have h7 : st l (lg l) = 0 := by omega
  have h8 := fi_jump l 0 (lg l) (Nat.zero_le _) (by rw [h7]; rfl)
  simp [fi] at h8
  have h9 : cn l (lg l) = 1 := by omega
  rw [h8, h9, ← h3.2, hf] at h4
  have e : lg l = 1 := by
    have : 2 ^ 14 = 2 ^ (15 - lg l) := by omega
    have := (Nat.pow_right_inj (a := 2) (by decide)).1 this
    omega
  rw [e] at h9
  exact ⟨e, h9⟩

/-- One bit out of a list. -/
def bt (b : List UInt8) (i : Nat) : Nat := (b.getD i 0).toNat
/-- Reading: k is the length that comes next, n the number of the bits so far. -/
def scan (l : List Nat) (b : List UInt8) : Nat → Nat → Nat → Nat → Nat × Nat × Nat
  | 0, _, _, a => (0, a, 10)
  | f + 1, k, n, a => if b.length ≤ a then (0, a, 3) else if 2 * n + bt b a < fi l k + cn l k then (sy l (st l k + (2 * n + bt b a - fi l k)), a + 1, 0) else scan l b f (k + 1) (2 * n + bt b a) (a + 1)
/-- What a read answers: the symbol, the place behind it, the error. -/
def rdp (l : List Nat) (b : List UInt8) (a : Nat) : Nat × Nat × Nat := scan l b (lg l) 1 0 a
theorem bt_lt (b : List UInt8) (h : Bits b) (i : Nat) : bt b i < 2 := by
  unfold bt
  rw [List.getD_eq_getElem?_getD]
  rcases Nat.lt_or_ge i b.length with hi | hi
  · rw [List.getElem?_eq_getElem hi]; exact h _ (List.getElem_mem hi)
  · rw [List.getElem?_eq_none hi]; decide
/-- A full code: by the longest length at the latest a symbol is found. -/
theorem scan_full (l : List Nat) (b : List UInt8) (hb : Bits b) (hf : fu l 16 = 32768) : ∀ (f k n a : Nat), k + f = lg l → n < 2 ^ (k - 1) → 1 ≤ k → ∀ f2, k + f2 = 15 → scan l b (f2 + 1) k n a = scan l b (f + 1) k n a
  | 0, k, n, a, h1, h2, h3, f2, h4 => by
    have h5 := fu_fi l k (by omega)
    have h6 := (lg_top l).2
    obtain rfl : k = lg l := by omega
    have h7 := pow_split (lg l) (lg_le l)
    have h8 : fi l (lg l) + cn l (lg l) = 2 ^ lg l := by
      refine Nat.eq_of_mul_eq_mul_right (Nat.pow_pos (n := 15 - lg l) (show 0 < 2 by decide)) ?_
      omega
    have h9 := bt_lt b hb a
    have h10 : 2 ^ lg l = 2 * 2 ^ (lg l - 1) := by
      conv => lhs; rw [show lg l = (lg l - 1) + 1 by omega]
      rw [Nat.pow_succ, Nat.mul_comm]
    unfold scan
    by_cases ha : b.length ≤ a
    · rw [if_pos ha, if_pos ha]
    · have h11 : 2 * n + bt b a < fi l (lg l) + cn l (lg l) := by omega
      rw [if_neg ha, if_neg ha, if_pos h11, if_pos h11]
  | f + 1, k, n, a, h1, h2, h3, f2, h4 => by
    obtain ⟨f3, rfl⟩ : ∃ f3, f2 = f3 + 1 := ⟨f2 - 1, by have := lg_le l; omega⟩
    have h9 := bt_lt b hb a
    have h10 : 2 ^ k = 2 * 2 ^ (k - 1) := by
      conv => lhs; rw [show k = (k - 1) + 1 by omega]
      rw [Nat.pow_succ, Nat.mul_comm]
    have ih := scan_full l b hb hf f (k + 1) (2 * n + bt b a) (a + 1) (by omega) (by simp; omega) (by omega) f3 (by omega)
    have u : ∀ F, scan l b (F + 1) k n a = if b.length ≤ a then (0, a, 3) else if 2 * n + bt b a < fi l k + cn l k then (sy l (st l k + (2 * n + bt b a - fi l k)), a + 1, 0) else scan l b F (k + 1) (2 * n + bt b a) (a + 1) := fun _ => rfl
    rw [u, u, ih]
theorem rdp_full (l : List Nat) (b : List UInt8) (hb : Bits b) (a : Nat) (hf : fu l 16 = 32768) (h0 : st l 16 ≠ 0) : scan l b 15 1 0 a = rdp l b a := by
  have h1 := lg_pos l h0
  unfold rdp
  obtain ⟨f, hf1⟩ : ∃ f, lg l = f + 1 := ⟨lg l - 1, by omega⟩
  have := scan_full l b hb hf f 1 0 a (by omega) (by decide) (by omega) 14 rfl
  rw [hf1]
  exact this

theorem fi_ge (l : List Nat) (k : Nat) : ∀ n, k < n → (fi l k + cn l k) * 2 ^ (n - k) ≤ fi l n
  | 0, h => by omega
  | n + 1, h => by
    rcases Nat.eq_or_lt_of_le (Nat.lt_succ_iff.1 h) with e | h1
    · subst e
      rw [fi, show k + 1 - k = 1 by omega]
      omega
    · have h2 := fi_ge l k n h1
      rw [fi, show n + 1 - k = (n - k) + 1 by omega, Nat.pow_succ, ← Nat.mul_assoc]
      omega
/-- A symbol's own bits are read as that symbol. -/
theorem scan_code (l : List Nat) (b : List UInt8) (s a : Nat) (h : Has l s) (hb : ∀ i, i < ln l s → bt b (a + i) = cd l s / 2 ^ (ln l s - 1 - i) % 2) (ha : a + ln l s ≤ b.length) :
    ∀ (d k f : Nat), k + d = ln l s → 1 ≤ k → d < f → scan l b f k (cd l s / 2 ^ (d + 1)) (a + (k - 1)) = (s, a + ln l s, 0)
  | d, k, 0, _, _, h3 => by omega
  | 0, k, f + 1, h1, h2, h3 => by
    have hk : k = ln l s := by omega
    have hb1 := hb (k - 1) (by omega)
    rw [show ln l s - 1 - (k - 1) = 0 by omega, Nat.pow_zero, Nat.div_one] at hb1
    have e1 : 2 * (cd l s / 2 ^ (0 + 1)) + bt b (a + (k - 1)) = cd l s := by rw [hb1]; omega
    have h4 := rk_lt l s h
    have h5 := cd_has l s h
    unfold scan
    rw [if_neg (by omega), e1, hk, if_pos (by omega), h5, show fi l (ln l s) + rk l s - fi l (ln l s) = rk l s by omega]
    have := sy_ps l s h
    unfold ps at this
    rw [this, show a + (ln l s - 1) + 1 = a + ln l s by omega]
  | d + 1, k, f + 1, h1, h2, h3 => by
    have hb1 := hb (k - 1) (by omega)
    rw [show ln l s - 1 - (k - 1) = d + 1 by omega] at hb1
    have e1 : 2 * (cd l s / 2 ^ (d + 1 + 1)) + bt b (a + (k - 1)) = cd l s / 2 ^ (d + 1) := by
      rw [hb1, Nat.pow_succ 2 (d + 1), ← Nat.div_div_eq_div_mul]
      omega
    have h4 := fi_ge l k (ln l s) (by omega)
    have h5 := cd_has l s h
    have h6 : fi l k + cn l k ≤ cd l s / 2 ^ (d + 1) := by
      rw [Nat.le_div_iff_mul_le (Nat.pow_pos (by decide)), show d + 1 = ln l s - k by omega]
      omega
    have ih := scan_code l b s a h hb ha d (k + 1) f (by omega) (by omega) (by omega)
    unfold scan
    rw [if_neg (by omega), e1, if_neg (by omega), show a + (k - 1) + 1 = a + (k + 1 - 1) by omega]
    exact ih
theorem has_lg (l : List Nat) (s : Nat) (h : Has l s) (hl : Low l) : ln l s ≤ lg l := by
  have h1 := rk_lt l s h
  rcases Nat.lt_or_ge (lg l) (ln l s) with h2 | h2
  · have := lgf_above l 15 (ln l s) h2 (ln_le l s hl)
    omega
  · exact h2
theorem rdp_code (l : List Nat) (b : List UInt8) (s a : Nat) (h : Has l s) (hl : Low l) (hf : fu l 16 ≤ 32768) (hb : ∀ i, i < ln l s → bt b (a + i) = cd l s / 2 ^ (ln l s - 1 - i) % 2) (ha : a + ln l s ≤ b.length) : rdp l b a = (s, a + ln l s, 0) := by
  have h1 := has_lg l s h hl
  have h2 := h.2
  have h3 := cd_lt l s h hl hf
  have := scan_code l b s a h hb ha (ln l s - 1) 1 (lg l) (by omega) (by omega) (by omega)
  rw [show ln l s - 1 + 1 = ln l s by omega, Nat.div_eq_of_lt h3] at this
  exact this

/-- The lowest n bits of x, the highest first. -/
def hb : Nat → Nat → List UInt8
  | 0, _ => []
  | n + 1, x => hb n (x / 2) ++ [UInt8.ofNat (x % 2)]
/-- The lowest n bits of x, turned round. -/
def rv : Nat → Nat → Nat
  | 0, _ => 0
  | n + 1, x => rv n (x / 2) + 2 ^ n * (x % 2)
theorem hb_length : ∀ n x, (hb n x).length = n
  | 0, _ => rfl
  | n + 1, x => by simp [hb, hb_length n]
theorem hb_bits : ∀ n x, Bits (hb n x)
  | 0, _ => by intro y hy; simp [hb] at hy
  | n + 1, x => by
    refine bits_append (hb_bits n _) ?_
    intro y hy
    simp at hy
    subst hy
    rw [UInt8.toNat_ofNat']
    omega
theorem le2_hb : ∀ n x, le2 (hb n x) = rv n x
  | 0, _ => rfl
  | n + 1, x => by
    rw [hb, le2_append, hb_length, le2_hb n, rv]
    have : (UInt8.ofNat (x % 2)).toNat = x % 2 := by rw [UInt8.toNat_ofNat']; omega
    simp [le2, this]
theorem rv_lt (n x : Nat) : rv n x < 2 ^ n := by
  rw [← le2_hb]
  have := le2_lt _ (hb_bits n x)
  rw [hb_length] at this
  exact this
theorem rv_zero : ∀ n, rv n 0 = 0
  | 0 => rfl
  | n + 1 => by simp [rv, rv_zero n]
theorem rv_add (b : Nat) : ∀ a x, rv (a + b) x = rv a x * 2 ^ b + rv b (x / 2 ^ a)
  | 0, x => by simp [rv]
  | a + 1, x => by
    rw [show a + 1 + b = (a + b) + 1 by omega, rv, rv, rv_add b a, Nat.add_mul, Nat.pow_add, Nat.pow_succ, Nat.mul_comm (2 ^ a) 2, ← Nat.div_div_eq_div_mul]
    rw [show 2 ^ a * (x % 2) * 2 ^ b = 2 ^ a * 2 ^ b * (x % 2) by rw [Nat.mul_assoc, Nat.mul_assoc, Nat.mul_comm (x % 2)]]
    omega
theorem rv_mod : ∀ n x m, n ≤ m → rv n (x % 2 ^ m) = rv n x
  | 0, _, _, _ => rfl
  | n + 1, x, m, h => by
    obtain ⟨k, rfl⟩ : ∃ k, m = k + 1 := ⟨m - 1, by omega⟩
    have h1 : x % 2 ^ (k + 1) / 2 = x / 2 % 2 ^ k := by rw [Nat.pow_succ, Nat.mul_comm, Nat.mod_mul_right_div_self]
    have h2 : x % 2 ^ (k + 1) % 2 = x % 2 := by rw [Nat.pow_succ, Nat.mul_comm, Nat.mod_mul_right_mod]
    rw [rv, rv, h1, h2, rv_mod n _ k (by omega)]
/-- Sixteen bits turned round, the lower ones taken off. -/
theorem rv_shift (n x : Nat) (hn : n ≤ 16) (hx : x < 2 ^ n) : rv 16 x / 2 ^ (16 - n) = rv n x := by
  have h := rv_add (16 - n) n x
  rw [show n + (16 - n) = 16 by omega, Nat.div_eq_of_lt hx, rv_zero, Nat.add_zero] at h
  rw [h, Nat.mul_div_cancel _ (Nat.pow_pos (by decide))]
/-- By bytes. -/
theorem rv_bytes (x : Nat) : rv 16 x = rv 8 (x / 256) + 256 * rv 8 (x % 256) := by
  have h := rv_add 8 8 x
  have h2 := rv_mod 8 x 8 (Nat.le_refl 8)
  simp only [show (8 + 8 : Nat) = 16 from rfl, show (2 : Nat) ^ 8 = 256 from rfl] at h h2
  rw [h, h2]
  omega
theorem hb_at : ∀ n x i, i < n → bt (hb n x) i = x / 2 ^ (n - 1 - i) % 2
  | 0, _, _, h => by omega
  | n + 1, x, i, h => by
    unfold bt
    rw [hb, List.getD_eq_getElem?_getD]
    rcases Nat.lt_or_ge i n with h1 | h1
    · rw [List.getElem?_append_left (by rw [hb_length]; exact h1)]
      have ih := hb_at n (x / 2) i h1
      unfold bt at ih
      rw [List.getD_eq_getElem?_getD] at ih
      rw [ih, Nat.div_div_eq_div_mul, show n + 1 - 1 - i = (n - 1 - i) + 1 by omega, Nat.pow_succ, Nat.mul_comm 2]
    · obtain rfl : i = n := by omega
      rw [List.getElem?_append_right (by rw [hb_length]; exact Nat.le_refl _), hb_length, Nat.sub_self]
      have : (UInt8.ofNat (x % 2)).toNat = x % 2 := by rw [UInt8.toNat_ofNat']; omega
      simp [this]
/-- One bit of a list, out of its number. -/
theorem bt_le2 (b : List UInt8) (h : Bits b) (i : Nat) : bt b i = le2 b / 2 ^ i % 2 := by
  have h0 := bt_lt b h i
  rcases Nat.lt_or_ge i b.length with hi | hi
  · rw [← le2_drop b i h (by omega), List.drop_eq_getElem_cons hi, le2]
    unfold bt at h0 ⊢
    rw [List.getD_eq_getElem?_getD, List.getElem?_eq_getElem hi] at h0 ⊢
    simp only [Option.getD_some] at h0 ⊢
    omega
  · have h1 : le2 b < 2 ^ i := Nat.lt_of_lt_of_le (le2_lt b h) (Nat.pow_le_pow_right (by decide) hi)
    rw [Nat.div_eq_of_lt h1]
    unfold bt
    rw [List.getD_eq_getElem?_getD, List.getElem?_eq_none hi]
    rfl
end Go.Proofs.YtackcgiokkbhdaaDoor
