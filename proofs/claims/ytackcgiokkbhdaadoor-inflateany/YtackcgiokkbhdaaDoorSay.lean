/- Layer 7 in plain words: which symbol says a number, and what a symbol says; the rows of symbols, row by row. -/
import Derived.Test.YtackcgiokkbhdaaDoorTMath
import Derived.Lib.BitFns
namespace Go.Proofs.YtackcgiokkbhdaaDoor

/-- n is said by the symbol a, with b bits, which hold c; or by none. -/
inductive LenIs : Int → Int → Int → Int → Bool → Prop
  | no (n : Int) (h : n < 3 ∨ 258 < n) : LenIs n 0 0 0 false
  | last : LenIs 258 285 0 0 true
  | row (s m : Nat) (hs : s < 28) (hm : m < 2 ^ lb s) (h : lf s + m ≤ 257) : LenIs ((lf s + m : Nat) : Int) ((257 + s : Nat) : Int) (lb s : Nat) (m : Nat) true
inductive DistIs : Int → Int → Int → Int → Bool → Prop
  | no (n : Int) (h : n < 1 ∨ 32768 < n) : DistIs n 0 0 0 false
  | row (s m : Nat) (hs : s < 30) (hm : m < 2 ^ db s) : DistIs ((df s + m : Nat) : Int) (s : Nat) (db s : Nat) (m : Nat) true
/-- The symbol a with the number c says n. -/
inductive LofIs : Int → Int → Int → Bool → Prop
  | out (a c : Int) (h : a < 257 ∨ 285 < a) : LofIs a c 0 false
  | last : LofIs 285 0 258 true
  | lastNo (c : Int) (h : c ≠ 0) : LofIs 285 c 0 false
  | row (s m : Nat) (hs : s < 28) (hm : m < 2 ^ lb s) (h : lf s + m ≤ 257) : LofIs ((257 + s : Nat) : Int) (m : Nat) ((lf s + m : Nat) : Int) true
  | rowNo (s : Nat) (c : Int) (hs : s < 28) (h : c < 0 ∨ (2 ^ lb s : Nat) ≤ c) : LofIs ((257 + s : Nat) : Int) c 0 false
  | row284 : LofIs 284 31 0 false
inductive DofIs : Int → Int → Int → Bool → Prop
  | out (a c : Int) (h : a < 0 ∨ 29 < a) : DofIs a c 0 false
  | row (s m : Nat) (hs : s < 30) (hm : m < 2 ^ db s) : DofIs (s : Nat) (m : Nat) ((df s + m : Nat) : Int) true
  | rowNo (s : Nat) (c : Int) (hs : s < 30) (h : c < 0 ∨ (2 ^ db s : Nat) ≤ c) : DofIs (s : Nat) c 0 false

theorem between (f : Nat → Nat) (n : Nat) (h0 : f 0 ≤ n) : ∀ k, n < f k → ∃ s, s < k ∧ f s ≤ n ∧ n < f (s + 1)
  | 0, h => by omega
  | k + 1, h => by
    rcases Nat.lt_or_ge n (f k) with h1 | h1
    · obtain ⟨s, h2, h3⟩ := between f n h0 k h1
      exact ⟨s, by omega, h3⟩
    · exact ⟨k, by omega, h1, h⟩
theorem lf28 : lf 28 = 259 := by decide +kernel
theorem df30 : df 30 = 32769 := by decide +kernel
theorem lenIs (n : Int) : ∃ a b c ok, LenIs n a b c ok := by
  by_cases h1 : n < 3 ∨ 258 < n
  · exact ⟨_, _, _, _, .no n h1⟩
  · by_cases h2 : n = 258
    · subst h2; exact ⟨_, _, _, _, .last⟩
    · obtain ⟨x, rfl⟩ : ∃ x : Nat, n = x := ⟨n.toNat, by omega⟩
      obtain ⟨s, hs, h3, h4⟩ := between lf x (by show 3 ≤ x; omega) 28 (by rw [lf28]; omega)
      rw [lf] at h4
      have h := LenIs.row s (x - lf s) hs (by omega) (by omega)
      rw [show lf s + (x - lf s) = x from by omega] at h
      exact ⟨_, _, _, _, h⟩
theorem distIs (n : Int) : ∃ a b c ok, DistIs n a b c ok := by
  by_cases h1 : n < 1 ∨ 32768 < n
  · exact ⟨_, _, _, _, .no n h1⟩
  · obtain ⟨x, rfl⟩ : ∃ x : Nat, n = x := ⟨n.toNat, by omega⟩
    obtain ⟨s, hs, h3, h4⟩ := between df x (by show 1 ≤ x; omega) 30 (by rw [df30]; omega)
    rw [df] at h4
    have h := DistIs.row s (x - df s) hs (by omega)
    rw [show df s + (x - df s) = x from by omega] at h
    exact ⟨_, _, _, _, h⟩
theorem lrow_top : ∀ s : Fin 28, lf s.val + 2 ^ lb s.val ≤ 258 ∨ (s.val = 27 ∧ lf s.val = 227 ∧ lb s.val = 5) := by decide +kernel
theorem lofIs (a c : Int) : ∃ n ok, LofIs a c n ok := by
  by_cases h1 : a < 257 ∨ 285 < a
  · exact ⟨_, _, .out a c h1⟩
  · by_cases h2 : a = 285
    · subst h2
      by_cases h3 : c = 0
      · subst h3; exact ⟨_, _, .last⟩
      · exact ⟨_, _, .lastNo c h3⟩
    · obtain ⟨s, hs, rfl⟩ : ∃ s : Nat, s < 28 ∧ a = ((257 + s : Nat) : Int) := ⟨(a - 257).toNat, by omega, by omega⟩
      by_cases h3 : c < 0 ∨ (2 ^ lb s : Nat) ≤ c
      · exact ⟨_, _, .rowNo s c hs h3⟩
      · obtain ⟨m, rfl⟩ : ∃ m : Nat, c = m := ⟨c.toNat, by omega⟩
        by_cases h4 : lf s + m ≤ 257
        · exact ⟨_, _, .row s m hs (by omega) h4⟩
        · rcases lrow_top ⟨s, hs⟩ with h5 | ⟨h5, h6, h7⟩
          · simp only at h5
            omega
          · simp only at h5 h6 h7
            subst h5
            rw [h7] at h3
            obtain rfl : m = 31 := by omega
            exact ⟨_, _, .row284⟩
theorem dofIs (a c : Int) : ∃ n ok, DofIs a c n ok := by
  by_cases h1 : a < 0 ∨ 29 < a
  · exact ⟨_, _, .out a c h1⟩
  · obtain ⟨s, hs, rfl⟩ : ∃ s : Nat, s < 30 ∧ a = (s : Nat) := ⟨a.toNat, by omega, by omega⟩
    by_cases h3 : c < 0 ∨ (2 ^ db s : Nat) ≤ c
    · exact ⟨_, _, .rowNo s c hs h3⟩
    · obtain ⟨m, rfl⟩ : ∃ m : Nat, c = m := ⟨c.toNat, by omega⟩
      exact ⟨_, _, .row s m hs (by omega)⟩
/-- What says a number says it. -/
theorem LenIs.back {n a b c : Int} (h : LenIs n a b c true) : LofIs a c n true := by
  cases h with
  | last => exact .last
  | row s m hs hm h => exact .row s m hs hm h
theorem DistIs.back {n a b c : Int} (h : DistIs n a b c true) : DofIs a c n true := by
  cases h with
  | row s m hs hm => exact .row s m hs hm
theorem LofIs.back {a c n : Int} (h : LofIs a c n true) : ∃ b, LenIs n a b c true := by
  cases h with
  | last => exact ⟨_, .last⟩
  | row s m hs hm h => exact ⟨_, .row s m hs hm h⟩
theorem DofIs.back {a c n : Int} (h : DofIs a c n true) : ∃ b, DistIs n a b c true := by
  cases h with
  | row s m hs hm => exact ⟨_, .row s m hs hm⟩

/-- A row in the program's words: symbol s of v bits, G the size of its group; its first number's first digits are k. -/
structure RowIs (s v G k : Nat) : Prop where
  sym : v * 2 ^ G + k = s
  top : k < 2 ^ (G + 1)
  low : v = 0 ∨ 2 ^ G ≤ k
  width : s / 2 ^ G - 1 = v
theorem lrow_is : ∀ s : Fin 28, lb s.val * 4 + (s.val - lb s.val * 4) = s.val ∧ s.val - lb s.val * 4 < 8 ∧ (lb s.val = 0 ∨ 4 ≤ s.val - lb s.val * 4) ∧ s.val / 4 - 1 = lb s.val ∧ lf s.val = 3 + (s.val - lb s.val * 4) * 2 ^ lb s.val := by decide +kernel
theorem drow_is : ∀ s : Fin 30, db s.val * 2 + (s.val - db s.val * 2) = s.val ∧ s.val - db s.val * 2 < 4 ∧ (db s.val = 0 ∨ 2 ≤ s.val - db s.val * 2) ∧ s.val / 2 - 1 = db s.val ∧ df s.val = 1 + (s.val - db s.val * 2) * 2 ^ db s.val := by decide +kernel
theorem lrowIs (s : Nat) (h : s < 28) : ∃ k, RowIs s (lb s) 2 k ∧ lf s = 3 + k * 2 ^ lb s := by
  obtain ⟨h1, h2, h3, h4, h5⟩ := lrow_is ⟨s, h⟩
  exact ⟨_, ⟨h1, h2, h3, h4⟩, h5⟩
theorem drowIs (s : Nat) (h : s < 30) : ∃ k, RowIs s (db s) 1 k ∧ df s = 1 + k * 2 ^ db s := by
  obtain ⟨h1, h2, h3, h4, h5⟩ := drow_is ⟨s, h⟩
  exact ⟨_, ⟨h1, h2, h3, h4⟩, h5⟩
theorem bitLen_small : ∀ k : Fin 8, Lib.bitLen k.val ≤ 3 ∧ (4 ≤ k.val → Lib.bitLen k.val = 3) ∧ (k.val < 4 → Lib.bitLen k.val ≤ 2) ∧ (2 ≤ k.val → k.val < 4 → Lib.bitLen k.val = 2) := by decide +kernel
/-- The number's digits. -/
theorem RowIs.bits {s v G k : Nat} (h : RowIs s v G k) (hG : G = 1 ∨ G = 2) (m : Nat) (hm : m < 2 ^ v) (hx : k * 2 ^ v + m ≤ 32767) :
    Lib.bitLen (k * 2 ^ v + m) - (G + 1) = v ∧ Lib.bitLen (k * 2 ^ v + m) ≤ 15 ∧ (k * 2 ^ v + m) / 2 ^ v = k ∧ (k * 2 ^ v + m) % 2 ^ v = m := by
  have hp : 0 < 2 ^ v := Nat.pow_pos (by decide)
  have e1 : (k * 2 ^ v + m) / 2 ^ v = k := by rw [Nat.mul_comm, Nat.mul_add_div hp, Nat.div_eq_of_lt hm, Nat.add_zero]
  have e2 : (k * 2 ^ v + m) % 2 ^ v = m := by rw [Nat.mul_comm, Nat.mul_add_mod, Nat.mod_eq_of_lt hm]
  refine ⟨?_, Lib.bitLen_le _ 15 (by omega) (by omega), e1, e2⟩
  have hk8 : k < 8 := by
    have := h.top
    rcases hG with rfl | rfl <;> omega
  obtain ⟨b1, b2, b3, b4⟩ := bitLen_small ⟨k, hk8⟩
  simp only at b1 b2 b3 b4
  rcases h.low with h0 | h0
  · subst h0
    obtain rfl : m = 0 := by simpa using hm
    rw [Nat.pow_zero, Nat.mul_one, Nat.add_zero]
    have := h.top
    rcases hG with rfl | rfl <;> omega
  · have hk1 : 1 ≤ k := Nat.le_trans (Nat.pow_pos (by decide)) h0
    have h2 : 2 ^ v ≤ k * 2 ^ v + m := Nat.le_trans (Nat.le_mul_of_pos_left _ hk1) (Nat.le_add_right _ _)
    rw [Lib.bitLen_shift v _ h2 (by omega), e1]
    have := h.top
    rcases hG with rfl | rfl <;> omega
end Go.Proofs.YtackcgiokkbhdaaDoor
