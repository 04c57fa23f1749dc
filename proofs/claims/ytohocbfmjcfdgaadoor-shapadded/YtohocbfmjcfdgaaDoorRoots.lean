/- Layer 4: the document's roots of primes by numbers, and that they are the program's tables. No program is spoken of here. -/
import Derived.Test.YtohocbfmjcfdgaaDoorMath
namespace Go.Proofs.YtohocbfmjcfdgaaDoor

/-- The primes among the first n numbers from 2 on: those that none before divides. -/
def sieve : Nat → List Nat
  | 0 => []
  | n + 1 => if (sieve n).any (fun q => (n + 2) % q == 0) then sieve n else sieve n ++ [n + 2]
/-- The root, bit by bit from the highest of 37: after n of them. -/
def climb (limit power : Nat) : Nat → Nat
  | 0 => 0
  | n + 1 => if (climb limit power n + 2 ^ (36 - n)) ^ power ≤ limit then climb limit power n + 2 ^ (36 - n) else climb limit power n
def rootOf (power p : Nat) : Nat := climb (p * 4294967296 ^ power) power 37 % 4294967296

theorem primes8 : (sieve 18).map (rootOf 2) = first.list := by kernel_rfl
theorem primes64 : (sieve 310).map (rootOf 3) = consts := by kernel_rfl
theorem sieve_short : (List.range 18).all (fun n => decide ((sieve n).length < 8)) = true := by kernel_rfl
theorem sieve_long : (List.range 310).all (fun n => decide ((sieve n).length < 64)) = true := by kernel_rfl
theorem sieve_some : ∀ n, ∀ x ∈ sieve n, 2 ≤ x ∧ x ≤ n + 1
  | 0 => by simp [sieve]
  | n + 1 => by
    intro x hx
    simp only [sieve] at hx
    split at hx
    · have := sieve_some n x hx
      omega
    · simp only [List.mem_append, List.mem_singleton] at hx
      rcases hx with hx | rfl
      · have := sieve_some n x hx
        omega
      · omega
theorem sieve_length : ∀ n, (sieve n).length ≤ n
  | 0 => by simp [sieve]
  | n + 1 => by
    have := sieve_length n
    simp only [sieve]
    split
    · omega
    · simp; omega
theorem climb_lt (limit power : Nat) : ∀ n, n ≤ 37 → climb limit power n + 2 ^ (37 - n) ≤ 2 ^ 37
  | 0, _ => by simp [climb]
  | n + 1, h => by
    have h1 := climb_lt limit power n (by omega)
    have h2 : 2 ^ (37 - n) = 2 ^ (36 - n) * 2 := by rw [← Nat.pow_succ]; congr 1; omega
    have h3 : 37 - (n + 1) = 36 - n := by omega
    rw [h3]
    simp only [climb]
    split <;> omega

/-- Numbers of digits of base 65536, the lowest first. -/
def val : List Nat → Nat
  | [] => 0
  | x :: r => x + 65536 * val r
def Small (l : List Nat) : Prop := ∀ x ∈ l, x < 65536
theorem Small.at {l : List Nat} (h : Small l) (i : Nat) : l.getD i 0 < 65536 := by
  rw [List.getD_eq_getElem?_getD]
  rcases Nat.lt_or_ge i l.length with hi | hi
  · rw [List.getElem?_eq_getElem hi]
    exact h _ (List.getElem_mem hi)
  · rw [List.getElem?_eq_none hi]
    decide
theorem Small.set {l : List Nat} (h : Small l) (i y : Nat) (hy : y < 65536) : Small (l.set i y) := fun x hx => by
  rcases List.mem_or_eq_of_mem_set hx with hx | rfl
  · exact h x hx
  · exact hy
theorem Small.take {l : List Nat} (h : Small l) (i : Nat) : Small (l.take i) := fun x hx => h x (List.mem_of_mem_take hx)
theorem val_lt : ∀ (l : List Nat), Small l → val l < 65536 ^ l.length
  | [], _ => by simp [val]
  | x :: r, h => by
    have h1 := val_lt r fun y hy => h y (List.mem_cons_of_mem _ hy)
    have h2 := h x List.mem_cons_self
    simp only [val, List.length_cons, Nat.pow_succ]
    omega
theorem val_zeros : ∀ n, val (List.replicate n 0) = 0
  | 0 => rfl
  | n + 1 => by rw [List.replicate_succ, val, val_zeros n]
theorem val_set : ∀ (l : List Nat) (j y : Nat), j < l.length → val (l.set j y) + l.getD j 0 * 65536 ^ j = val l + y * 65536 ^ j
  | x :: r, 0, y, _ => by simp [val]; omega
  | x :: r, j + 1, y, h => by
    have h1 := val_set r j y (by simpa using h)
    simp only [List.set_cons_succ, val, List.getD_cons_succ, Nat.pow_succ]
    rw [show r.getD j 0 * (65536 ^ j * 65536) = 65536 * (r.getD j 0 * 65536 ^ j) from by rw [← Nat.mul_assoc, Nat.mul_comm], show y * (65536 ^ j * 65536) = 65536 * (y * 65536 ^ j) from by rw [← Nat.mul_assoc, Nat.mul_comm]]
    omega
theorem at_le : ∀ (l : List Nat) (j : Nat), l.getD j 0 * 65536 ^ j ≤ val l
  | [], j => by simp
  | x :: r, 0 => by simp [val]
  | x :: r, j + 1 => by
    have h1 := at_le r j
    simp only [val, List.getD_cons_succ, Nat.pow_succ]
    rw [show r.getD j 0 * (65536 ^ j * 65536) = 65536 * (r.getD j 0 * 65536 ^ j) from by rw [← Nat.mul_assoc, Nat.mul_comm]]
    omega
theorem val_more : ∀ (l : List Nat) (k : Nat), k < l.length → val (l.take (k + 1)) = val (l.take k) + l.getD k 0 * 65536 ^ k
  | x :: r, 0, _ => by simp [val]
  | x :: r, k + 1, h => by
    have h1 := val_more r k (by simpa using h)
    simp only [List.take_succ_cons, val, List.getD_cons_succ, Nat.pow_succ] at h1 ⊢
    rw [show r.getD k 0 * (65536 ^ k * 65536) = 65536 * (r.getD k 0 * 65536 ^ k) from by rw [← Nat.mul_assoc, Nat.mul_comm], h1]
    omega
theorem val_drop (l : List Nat) (i : Nat) : val (l.drop i) = l.getD i 0 + 65536 * val (l.drop (i + 1)) := by
  rcases Nat.lt_or_ge i l.length with hi | hi
  · rw [List.drop_eq_getElem_cons hi, val, List.getD_eq_getElem?_getD, List.getElem?_eq_getElem hi]
    rfl
  · rw [List.drop_eq_nil_of_le hi, List.drop_eq_nil_of_le (by omega), List.getD_eq_getElem?_getD, List.getElem?_eq_none hi]
    rfl
theorem less_of_top (a b : List Nat) (ha : Small a) : ∀ i, val (a.drop i) < val (b.drop i) → val a < val b
  | 0, h => by simpa using h
  | i + 1, h => by
    have h1 := ha.at i
    refine less_of_top a b ha i ?_
    rw [val_drop a i, val_drop b i]
    omega

/-- One digit of a product. -/
theorem times_step (l : List Nat) (i k ai d c v V0 : Nat) (hp : i + k < l.length) (h : val l + c * 65536 ^ (i + k) = V0 + ai * v * 65536 ^ i) :
    val (l.set (i + k) ((l.getD (i + k) 0 + ai * d + c) % 65536)) + (l.getD (i + k) 0 + ai * d + c) / 65536 * 65536 ^ (i + k + 1) = V0 + ai * (v + d * 65536 ^ k) * 65536 ^ i := by
  have h1 := val_set l (i + k) ((l.getD (i + k) 0 + ai * d + c) % 65536) hp
  obtain ⟨o, ho⟩ : ∃ o, l.getD (i + k) 0 = o := ⟨_, rfl⟩
  rw [ho] at h1 ⊢
  obtain ⟨X, hX⟩ : ∃ X, o + ai * d + c = X := ⟨_, rfl⟩
  rw [hX] at h1 ⊢
  obtain ⟨W, hW⟩ : ∃ W, 65536 ^ (i + k) = W := ⟨_, rfl⟩
  have h4 : 65536 ^ (i + k + 1) = 65536 * W := by rw [Nat.pow_succ, hW, Nat.mul_comm]
  have h6 : ai * (v + d * 65536 ^ k) * 65536 ^ i = ai * v * 65536 ^ i + ai * d * W := by
    rw [Nat.mul_add, Nat.add_mul, ← hW, Nat.pow_add, ← Nat.mul_assoc ai d, Nat.mul_assoc (ai * d), Nat.mul_comm (65536 ^ k)]
  have h2 : X * W = o * W + ai * d * W + c * W := by rw [← hX, Nat.add_mul, Nat.add_mul]
  have h3 : X * W = X % 65536 * W + X / 65536 * (65536 * W) := by
    rw [← Nat.mul_assoc, ← Nat.add_mul]
    congr 1
    omega
  rw [hW] at h h1
  rw [h4, h6]
  omega
/-- The last digit of a row of the product holds no more. -/
theorem times_last (a b l : List Nat) (i c : Nat) (ha : Small a) (hb : Small b) (hi : i < a.length) (h : val l + c * 65536 ^ (i + b.length) = val (a.take i) * val b + a.getD i 0 * val b * 65536 ^ i) :
    l.getD (i + b.length) 0 + c < 65536 := by
  have h1 := at_le l (i + b.length)
  have h2 : val (a.take i) * val b + a.getD i 0 * val b * 65536 ^ i = val (a.take (i + 1)) * val b := by
    rw [val_more a i hi, Nat.add_mul, Nat.mul_assoc, Nat.mul_assoc, Nat.mul_comm (val b)]
  have h3 := val_lt _ (ha.take (i + 1))
  have h4 := val_lt b hb
  have h5 : (a.take (i + 1)).length = i + 1 := by simp; omega
  rw [h5] at h3
  have h6 : val (a.take (i + 1)) * val b < 65536 ^ (i + 1) * 65536 ^ b.length := Nat.mul_lt_mul'' h3 h4
  have h7 : 65536 ^ (i + 1) * 65536 ^ b.length = 65536 * 65536 ^ (i + b.length) := by
    rw [← Nat.pow_add, show i + 1 + b.length = i + b.length + 1 from by omega, Nat.pow_succ, Nat.mul_comm]
  rw [h2] at h
  rw [h7] at h6
  have h8 : (l.getD (i + b.length) 0 + c) * 65536 ^ (i + b.length) < 65536 * 65536 ^ (i + b.length) := by
    rw [Nat.add_mul]
    omega
  exact Nat.lt_of_mul_lt_mul_right h8
theorem times_done (a b l : List Nat) (i : Nat) (hi : i < a.length) (h : val l + 0 * 65536 ^ (i + b.length) = val (a.take i) * val b + a.getD i 0 * val b * 65536 ^ i) : val l = val (a.take (i + 1)) * val b := by
  rw [val_more a i hi, Nat.add_mul, Nat.mul_assoc (a.getD i 0), Nat.mul_comm (65536 ^ i), ← Nat.mul_assoc]
  omega
def digitsOf (n : Nat) : List Nat := [n % 65536, n / 65536 % 65536, n / 4294967296 % 65536, n / 281474976710656]
theorem digitsOf_val (n : Nat) : val (digitsOf n) = n := by
  simp only [digitsOf, val]
  omega
theorem digitsOf_small (n : Nat) (h : n < 18446744073709551616) : Small (digitsOf n) := by
  intro x hx
  simp only [digitsOf, List.mem_cons, List.not_mem_nil, or_false] at hx
  omega
end Go.Proofs.YtohocbfmjcfdgaaDoor
