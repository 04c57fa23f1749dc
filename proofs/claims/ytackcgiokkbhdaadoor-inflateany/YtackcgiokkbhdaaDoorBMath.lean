/- Plain arithmetic of layer 1: bytes and bits as numbers, the lowest first. No Go in sight. -/
import Derived.WalkKit
namespace Go.Proofs.YtackcgiokkbhdaaDoor

/-- The number of bytes, the lowest first. -/
def le : List UInt8 → Nat
  | [] => 0
  | b :: r => b.toNat + 256 * le r

/-- The number of bits (0 or 1 each), the lowest first. -/
def le2 : List UInt8 → Nat
  | [] => 0
  | b :: r => b.toNat + 2 * le2 r

theorem le_append : ∀ a b : List UInt8, le (a ++ b) = le a + 256 ^ a.length * le b
  | [], b => by simp [le]
  | x :: a, b => by
    simp only [List.cons_append, le, le_append a b, List.length_cons, Nat.pow_succ]
    rw [Nat.mul_add, ← Nat.add_assoc, ← Nat.mul_assoc, Nat.mul_comm (256 ^ a.length) 256]
theorem le_lt : ∀ a : List UInt8, le a < 256 ^ a.length
  | [] => by simp [le]
  | x :: a => by
    have h := le_lt a
    have hx : x.toNat < 256 := x.toNat_lt
    simp only [le, List.length_cons, Nat.pow_succ]
    have : x.toNat + 256 * le a < 256 * (le a + 1) := by omega
    have : 256 * (le a + 1) ≤ 256 * 256 ^ a.length := Nat.mul_le_mul_left _ h
    rw [Nat.mul_comm (256 ^ a.length) 256]
    omega
theorem le_inj : ∀ a b : List UInt8, a.length = b.length → le a = le b → a = b
  | [], [], _, _ => rfl
  | [], _ :: _, h, _ => by simp at h
  | _ :: _, [], h, _ => by simp at h
  | x :: a, y :: b, h, e => by
    have hx : x.toNat < 256 := x.toNat_lt
    have hy : y.toNat < 256 := y.toNat_lt
    simp only [le] at e
    have h1 : x.toNat = y.toNat := by omega
    have h2 : le a = le b := by omega
    rw [le_inj a b (by simpa using h) h2, UInt8.toNat_inj.1 h1]
/-- The bytes from place i on. -/
theorem le_drop (l : List UInt8) (i : Nat) (h : i ≤ l.length) : le (l.drop i) = le l / 256 ^ i := by
  have e := le_append (l.take i) (l.drop i)
  rw [List.take_append_drop] at e
  have hl : (l.take i).length = i := by simp [h]
  have hlt := le_lt (l.take i)
  rw [hl] at e hlt
  rw [e, Nat.add_mul_div_left _ _ (Nat.pow_pos (by decide)), Nat.div_eq_of_lt hlt, Nat.zero_add]
theorem le_take (l : List UInt8) (i : Nat) : le (l.take i) = le l % 256 ^ i := by
  rcases Nat.le_total i l.length with h | h
  · have e := le_append (l.take i) (l.drop i)
    rw [List.take_append_drop] at e
    have hl : (l.take i).length = i := by simp [h]
    have hlt := le_lt (l.take i)
    rw [hl] at e hlt
    rw [e, Nat.add_mul_mod_self_left, Nat.mod_eq_of_lt hlt]
  · rw [List.take_of_length_le h, Nat.mod_eq_of_lt]
    exact Nat.lt_of_lt_of_le (le_lt l) (Nat.pow_le_pow_right (by decide) h)
/-- One byte more. -/
theorem le_take_succ (l : List UInt8) (k : Nat) (h : k < l.length) : le (l.take (k + 1)) = le (l.take k) + 256 ^ k * (l[k]?.getD 0).toNat := by
  rw [List.take_add_one, le_append, List.length_take, Nat.min_eq_left (by omega)]
  simp [h, le]
theorem pow256 (k : Nat) : 256 ^ k = 2 ^ (8 * k) := by rw [Nat.pow_mul]

theorem or_add (a b i : Nat) (h : a < 2 ^ i) : a ||| 2 ^ i * b = a + 2 ^ i * b := by
  rw [Nat.or_comm, ← Nat.two_pow_add_eq_or_of_lt h, Nat.add_comm]
theorem and_low (a n : Nat) : a &&& (2 ^ n - 1) = a % 2 ^ n := Nat.and_two_pow_sub_one_eq_mod a n

theorem mod_div_mod (x m s n : Nat) (h : s + n ≤ m) : x % 2 ^ m / 2 ^ s % 2 ^ n = x / 2 ^ s % 2 ^ n := by
  rw [show m = s + (m - s) from by omega, Nat.pow_add, Nat.mod_mul_right_div_self, Nat.mod_mod_of_dvd]
  exact Nat.pow_dvd_pow 2 (by omega)

/-- n bits at place a, out of the bytes that hold them. -/
theorem bits_of_bytes (l : List UInt8) (a n k : Nat) (hk : a % 8 + n ≤ 8 * k) : le ((l.drop (a / 8)).take k) / 2 ^ (a % 8) % 2 ^ n = le l / 2 ^ a % 2 ^ n := by
  rw [le_take]
  rcases Nat.le_total (a / 8) l.length with h | h
  · rw [le_drop l _ h, pow256, pow256, mod_div_mod _ _ _ _ hk]
    rw [Nat.div_div_eq_div_mul, ← Nat.pow_add, show 8 * (a / 8) + a % 8 = a from by omega]
  · rw [List.drop_of_length_le h]
    have h1 : le l < 2 ^ a := Nat.lt_of_lt_of_le (le_lt l) (by rw [pow256]; exact Nat.pow_le_pow_right (by decide) (by omega))
    rw [Nat.div_eq_of_lt h1]
    simp [le]

/-- Nothing is left over once the bytes hold all bits. -/
theorem none_left (a r T n K : Nat) (h : a + 256 ^ n * r = T) (hT : T < 2 ^ K) (hn : K ≤ 8 * n) : r = 0 ∧ a = T := by
  have hp : 2 ^ K ≤ 256 ^ n := by rw [pow256]; exact Nat.pow_le_pow_right (by decide) hn
  rcases Nat.eq_zero_or_pos r with h0 | h0
  · subst h0; simp at h; exact ⟨rfl, h⟩
  · have : 256 ^ n * 1 ≤ 256 ^ n * r := Nat.mul_le_mul_left _ h0
    omega
/-- What is put fits behind what is there. -/
theorem put_lt (a x k M : Nat) (ha : a < 2 ^ k) (hx : x < 2 ^ M) : a + x * 2 ^ k < 2 ^ (k + M) := by
  have : (x + 1) * 2 ^ k ≤ 2 ^ M * 2 ^ k := Nat.mul_le_mul_right _ hx
  rw [Nat.add_mul, Nat.one_mul] at this
  rw [Nat.pow_add, Nat.mul_comm (2 ^ k)]
  omega
/-- One byte is taken off what is left over. -/
theorem put_step (l : List UInt8) (n r T : Nat) (hl : l.length = n) (h : le l + 256 ^ n * r = T) : le (l ++ [UInt8.ofNat r]) + 256 ^ (n + 1) * (r / 256) = T := by
  rw [le_append, hl, ← h, Nat.pow_succ, Nat.mul_assoc, Nat.add_assoc, ← Nat.mul_add]
  simp only [le, UInt8.toNat_ofNat', Nat.mul_zero, Nat.add_zero]
  rw [show r % 2 ^ 8 + 256 * (r / 256) = r from by omega]
/-- The byte that has begun takes its part. -/
theorem put_last (l : List UInt8) (n u k x : Nat) (hl : l.length = n + 1) (hk : k = 8 * n + u) (hlt : le l < 2 ^ k) :
    ∃ c : UInt8, l[n]? = some c ∧ c.toNat < 2 ^ u ∧ ∀ d : UInt8, d.toNat = c.toNat + x * 2 ^ u % 256 → le (l.set n d) + 256 ^ (n + 1) * (x * 2 ^ u / 256) = le l + x * 2 ^ k := by
  obtain ⟨init, c, rfl⟩ : ∃ init c, l = init ++ [c] := ⟨l.dropLast, l.getLast (by intro e; simp [e] at hl), (List.dropLast_concat_getLast _).symm⟩
  have hi : init.length = n := by simpa using hl
  subst hi
  have e1 : le (init ++ [c]) = le init + 256 ^ init.length * c.toNat := by rw [le_append]; simp [le]
  refine ⟨c, by simp, ?_, ?_⟩
  · rw [e1, hk, Nat.pow_add, ← pow256] at hlt
    have : 256 ^ init.length * c.toNat < 256 ^ init.length * 2 ^ u := by omega
    exact Nat.lt_of_mul_lt_mul_left this
  · intro d hd
    have e2 : (init ++ [c]).set init.length d = init ++ [d] := by simp
    rw [e2, e1, le_append, hk, Nat.pow_add 2, ← pow256, Nat.pow_succ]
    simp only [le, Nat.mul_zero, Nat.add_zero, hd]
    rw [show x * (256 ^ init.length * 2 ^ u) = 256 ^ init.length * (x * 2 ^ u) from by rw [← Nat.mul_assoc, Nat.mul_comm x, Nat.mul_assoc]]
    generalize x * 2 ^ u = y
    rw [Nat.mul_assoc, Nat.add_assoc, Nat.add_assoc, ← Nat.mul_add, ← Nat.mul_add]
    congr 2
    omega
end Go.Proofs.YtackcgiokkbhdaaDoor
