/- Plain arithmetic of the document's answer for layer 1: lists of bits. No Go in sight. -/
import Derived.Test.YtackcgiokkbhdaaDoorBMath
namespace Go.Proofs.YtackcgiokkbhdaaDoor

/-- All are 0 or 1. -/
def Bits (l : List UInt8) : Prop := ∀ x ∈ l, x.toNat < 2

/-- The lowest k bits of a number. -/
def nb (x k : Nat) : List UInt8 := (List.range k).map fun j => UInt8.ofNat (x / 2 ^ j % 2)
/-- The bits of bytes. -/
def bitsOf (s : List UInt8) : List UInt8 := s.flatMap fun c => nb c.toNat 8

theorem nb_length (x k : Nat) : (nb x k).length = k := by simp [nb]
theorem nb_succ (x k : Nat) : nb x (k + 1) = nb x k ++ [UInt8.ofNat (x / 2 ^ k % 2)] := by simp [nb, List.range_succ]
theorem nb_bits (x k : Nat) : Bits (nb x k) := by
  intro y hy
  obtain ⟨j, _, rfl⟩ := List.mem_map.1 hy
  rw [UInt8.toNat_ofNat']
  omega
theorem le2_append : ∀ a b : List UInt8, le2 (a ++ b) = le2 a + 2 ^ a.length * le2 b
  | [], b => by simp [le2]
  | x :: a, b => by
    simp only [List.cons_append, le2, le2_append a b, List.length_cons, Nat.pow_succ]
    rw [Nat.mul_add, ← Nat.add_assoc, ← Nat.mul_assoc, Nat.mul_comm (2 ^ a.length) 2]
theorem le2_lt : ∀ a : List UInt8, Bits a → le2 a < 2 ^ a.length
  | [], _ => by simp [le2]
  | x :: a, h => by
    have h1 := le2_lt a fun y hy => h y (List.mem_cons_of_mem _ hy)
    have hx : x.toNat < 2 := h x List.mem_cons_self
    simp only [le2, List.length_cons, Nat.pow_succ]
    omega
theorem le2_nb (x k : Nat) : le2 (nb x k) = x % 2 ^ k := by
  induction k with
  | zero => simp [nb, le2, Nat.mod_one]
  | succ k ih =>
    have h2 : x / 2 ^ k % 2 < 2 := Nat.mod_lt _ (by decide)
    rw [nb_succ, le2_append, ih, nb_length, Nat.pow_succ, Nat.mod_mul]
    simp only [le2, UInt8.toNat_ofNat', Nat.mul_zero, Nat.add_zero]
    rw [Nat.mod_eq_of_lt (show x / 2 ^ k % 2 < 2 ^ 8 by omega)]
theorem bits_append {a b : List UInt8} (ha : Bits a) (hb : Bits b) : Bits (a ++ b) := by
  intro x hx
  rcases List.mem_append.1 hx with h | h
  · exact ha x h
  · exact hb x h
theorem bits_zeros (n : Nat) : Bits (List.replicate n 0) := by
  intro x hx
  obtain ⟨_, rfl⟩ := List.mem_replicate.1 hx
  decide
theorem le2_zeros (n : Nat) : le2 (List.replicate n 0) = 0 := by
  induction n with
  | zero => rfl
  | succ n ih => simp [List.replicate_succ, le2, ih]
theorem bitsOf_bits (s : List UInt8) : Bits (bitsOf s) := by
  intro x hx
  obtain ⟨c, _, hc⟩ := List.mem_flatMap.1 hx
  exact nb_bits _ _ x hc
theorem bitsOf_length (s : List UInt8) : (bitsOf s).length = 8 * s.length := by
  induction s with
  | nil => rfl
  | cons c s ih =>
    have : bitsOf (c :: s) = nb c.toNat 8 ++ bitsOf s := rfl
    rw [this, List.length_append, nb_length, ih, List.length_cons]
    omega
theorem le2_bitsOf (s : List UInt8) : le2 (bitsOf s) = le s := by
  induction s with
  | nil => rfl
  | cons c s ih =>
    have hc : c.toNat < 256 := c.toNat_lt
    have : bitsOf (c :: s) = nb c.toNat 8 ++ bitsOf s := rfl
    rw [this, le2_append, nb_length, ih, le2_nb, le]
    omega
theorem bitsOf_snoc (s : List UInt8) (i : Nat) (c : UInt8) (h : s[i]? = some c) : bitsOf (s.take (i + 1)) = bitsOf (s.take i) ++ nb c.toNat 8 := by
  rw [List.take_add_one, h]
  simp [bitsOf]
theorem bits_take {l : List UInt8} (h : Bits l) (n : Nat) : Bits (l.take n) := fun x hx => h x (List.mem_of_mem_take hx)
theorem bits_drop {l : List UInt8} (h : Bits l) (n : Nat) : Bits (l.drop n) := fun x hx => h x (List.mem_of_mem_drop hx)
theorem le2_take (l : List UInt8) (i : Nat) (h : Bits l) : le2 (l.take i) = le2 l % 2 ^ i := by
  rcases Nat.le_total i l.length with hi | hi
  · have e := le2_append (l.take i) (l.drop i)
    rw [List.take_append_drop] at e
    have hl : (l.take i).length = i := by simp [hi]
    have hlt := le2_lt _ (bits_take h i)
    rw [hl] at e hlt
    rw [e, Nat.add_mul_mod_self_left, Nat.mod_eq_of_lt hlt]
  · rw [List.take_of_length_le hi, Nat.mod_eq_of_lt]
    exact Nat.lt_of_lt_of_le (le2_lt l h) (Nat.pow_le_pow_right (by decide) hi)
theorem le2_drop (l : List UInt8) (i : Nat) (h : Bits l) (hi : i ≤ l.length) : le2 (l.drop i) = le2 l / 2 ^ i := by
  have e := le2_append (l.take i) (l.drop i)
  rw [List.take_append_drop] at e
  have hl : (l.take i).length = i := by simp [hi]
  have hlt := le2_lt _ (bits_take h i)
  rw [hl] at e hlt
  rw [e, Nat.add_mul_div_left _ _ (Nat.pow_pos (by decide)), Nat.div_eq_of_lt hlt, Nat.zero_add]
/-- One bit ahead. -/
theorem le2_step (l : List UInt8) (i m : Nat) : le2 ((l.drop i).take (m + 1)) = (l[i]?.getD 0).toNat + 2 * le2 ((l.drop (i + 1)).take m) := by
  rcases Nat.lt_or_ge i l.length with hi | hi
  · rw [List.drop_eq_getElem_cons hi, List.take_succ_cons, le2, List.getElem?_eq_getElem hi]
    rfl
  · rw [List.drop_of_length_le hi, List.drop_of_length_le (by omega)]
    simp [le2, hi]
/-- Eight bits more are a byte more. -/
theorem le2_byte (l : List UInt8) (i : Nat) (hi : i ≤ l.length) : le2 (l.take (i + 8)) = le2 (l.take i) + 2 ^ i * le2 ((l.drop i).take 8) := by
  rw [List.take_add, le2_append, List.length_take, Nat.min_eq_left hi]
theorem le2_eight (l : List UInt8) (h : Bits l) (i : Nat) : le2 ((l.drop i).take 8) < 256 := by
  refine Nat.lt_of_lt_of_le (le2_lt _ (bits_take (bits_drop h i) 8)) ?_
  exact Nat.pow_le_pow_right (n := 2) (j := 8) (by decide) (List.length_take_le _ _)
end Go.Proofs.YtackcgiokkbhdaaDoor
