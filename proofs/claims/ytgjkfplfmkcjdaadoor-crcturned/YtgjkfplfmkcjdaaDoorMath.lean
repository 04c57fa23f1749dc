/- Plain arithmetic of layer 3: one bit of a CRC falls out; such steps go over xor, and can be undone. No Go in sight. -/
import Derived.WalkKit
namespace Go.Proofs.YtgjkfplfmkcjdaaDoor

/-- What the number is xor'ed with. -/
def poly : Nat := 3988292384
/-- One bit falls out. -/
def step (c : Nat) : Nat := if c % 2 = 1 then c / 2 ^^^ poly else c / 2
/-- So many bits fall out. -/
def steps : Nat → Nat → Nat
  | 0, c => c
  | n + 1, c => steps n (step c)

theorem xor_half (a b : Nat) : (a ^^^ b) / 2 = a / 2 ^^^ b / 2 := by
  apply Nat.eq_of_testBit_eq
  intro i
  simp [Nat.testBit_div_two]
theorem xor_low (a b : Nat) : (a ^^^ b) % 2 = (a % 2 + b % 2) % 2 := by
  have h : (a ^^^ b).testBit 0 = (a.testBit 0 ^^ b.testBit 0) := Nat.testBit_xor a b 0
  simp only [Nat.testBit_zero] at h
  rcases Nat.mod_two_eq_zero_or_one a with ha | ha <;> rcases Nat.mod_two_eq_zero_or_one b with hb | hb <;> rcases Nat.mod_two_eq_zero_or_one (a ^^^ b) with hc | hc <;> simp_all
theorem xor_back (a b : Nat) : a ^^^ b ^^^ b = a := by rw [Nat.xor_assoc, Nat.xor_self, Nat.xor_zero]
theorem xor_can {a b c : Nat} (h : a ^^^ c = b ^^^ c) : a = b := by rw [← xor_back a c, h, xor_back]
theorem xor_none {a b : Nat} (h : a ^^^ b = 0) : a = b := xor_can (c := b) (by rw [h, Nat.xor_self])
/-- Four numbers, two and two. -/
theorem xor_four (a b c d : Nat) : (a ^^^ b) ^^^ (c ^^^ d) = (a ^^^ c) ^^^ (b ^^^ d) := by
  rw [Nat.xor_assoc, ← Nat.xor_assoc b c d, Nat.xor_comm b c, Nat.xor_assoc c b d, ← Nat.xor_assoc]

theorem step_xor (a b : Nat) : step (a ^^^ b) = step a ^^^ step b := by
  unfold step
  rw [xor_half, xor_low]
  rcases Nat.mod_two_eq_zero_or_one a with ha | ha <;> rcases Nat.mod_two_eq_zero_or_one b with hb | hb <;> simp only [ha, hb] <;> simp
  · rw [Nat.xor_assoc]
  · rw [Nat.xor_assoc, Nat.xor_comm (b / 2) poly, ← Nat.xor_assoc]
  · rw [xor_four, Nat.xor_self, Nat.xor_zero]
theorem steps_xor : ∀ n a b, steps n (a ^^^ b) = steps n a ^^^ steps n b
  | 0, _, _ => rfl
  | n + 1, a, b => by rw [steps, step_xor, steps_xor n]; rfl
theorem steps_add : ∀ m n c, steps (m + n) c = steps n (steps m c)
  | 0, n, c => by rw [Nat.zero_add]; rfl
  | m + 1, n, c => by rw [show m + 1 + n = (m + n) + 1 from by omega]; exact steps_add m n (step c)
theorem steps_succ (n c : Nat) : steps (n + 1) c = step (steps n c) := steps_add n 1 c
theorem step_lt {c : Nat} (h : c < 4294967296) : step c < 4294967296 := by
  unfold step
  split
  · exact Nat.xor_lt_two_pow (n := 32) (by omega) (by decide)
  · omega
theorem steps_lt {c : Nat} (h : c < 4294967296) : ∀ n, steps n c < 4294967296
  | 0 => h
  | n + 1 => by rw [steps_succ]; exact step_lt (steps_lt h n)
theorem step_double (c : Nat) : step (2 * c) = c := by
  unfold step
  rw [if_neg (by omega)]
  omega
/-- What is moved up by so many bits comes down again. -/
theorem steps_up (c : Nat) : ∀ k, steps k (2 ^ k * c) = c
  | 0 => by simp [steps]
  | k + 1 => by
    rw [steps, show 2 ^ (k + 1) * c = 2 * (2 ^ k * c) from by rw [Nat.pow_succ, Nat.mul_comm (2 ^ k) 2, Nat.mul_assoc], step_double]
    exact steps_up c k
/-- A number is its upper bits and its lower ones. -/
theorem xor_parts (k q r : Nat) (h : r < 2 ^ k) : 2 ^ k * q ^^^ r = 2 ^ k * q + r := by
  apply Nat.eq_of_testBit_eq
  intro i
  rw [Nat.testBit_xor, Nat.testBit_two_pow_mul_add _ h, Nat.testBit_two_pow_mul]
  by_cases hi : i < k
  · rw [if_pos hi]
    simp [show ¬ k ≤ i by omega]
  · rw [if_neg hi, Nat.testBit_lt_two_pow (Nat.lt_of_lt_of_le h (Nat.pow_le_pow_right (by decide) (by omega)))]
    simp [show k ≤ i by omega]
/-- k bits at once. -/
theorem steps_parts (k c : Nat) : steps k c = c / 2 ^ k ^^^ steps k (c % 2 ^ k) := by
  have h : 2 ^ k * (c / 2 ^ k) ^^^ c % 2 ^ k = c := by
    rw [xor_parts _ _ _ (Nat.mod_lt _ (Nat.pow_pos (by decide)))]
    exact Nat.div_add_mod c (2 ^ k)
  have e : steps k (2 ^ k * (c / 2 ^ k) ^^^ c % 2 ^ k) = c / 2 ^ k ^^^ steps k (c % 2 ^ k) := by rw [steps_xor, steps_up]
  rwa [h] at e
theorem step_inj {a b : Nat} (ha : a < 4294967296) (hb : b < 4294967296) (h : step a = step b) : a = b := by
  have h0 : step (a ^^^ b) = 0 := by rw [step_xor, h, Nat.xor_self]
  have hl : a ^^^ b < 4294967296 := Nat.xor_lt_two_pow (n := 32) ha hb
  have hz : a ^^^ b = 0 := by
    unfold step at h0
    split at h0
    · have := xor_none h0
      unfold poly at this
      omega
    · omega
  exact xor_none hz
theorem steps_inj {a b : Nat} (ha : a < 4294967296) (hb : b < 4294967296) : ∀ n, steps n a = steps n b → a = b
  | 0, h => h
  | n + 1, h => steps_inj ha hb n (step_inj (steps_lt ha n) (steps_lt hb n) (by rw [← steps_succ, ← steps_succ, h]))

/-- The number behind bytes, c ahead of them. -/
def run (c : Nat) : List UInt8 → Nat
  | [] => c
  | b :: r => run (steps 8 (c ^^^ b.toNat)) r
theorem run_nil (c : Nat) : run c [] = c := rfl
theorem run_cons (c : Nat) (b : UInt8) (r : List UInt8) : run c (b :: r) = run (steps 8 (c ^^^ b.toNat)) r := rfl
def full : Nat := 4294967295
/-- The CRC. -/
def crc (l : List UInt8) : Nat := run full l ^^^ full

theorem byte_lt (c : Nat) (b : UInt8) (h : c < 4294967296) : steps 8 (c ^^^ b.toNat) < 4294967296 :=
  steps_lt (Nat.xor_lt_two_pow (n := 32) h (by have := b.toNat_lt; omega)) 8
theorem run_lt : ∀ (l : List UInt8) (c : Nat), c < 4294967296 → run c l < 4294967296
  | [], _, h => h
  | b :: r, c, h => run_lt r _ (byte_lt c b h)
theorem run_append : ∀ (a b : List UInt8) (c : Nat), run c (a ++ b) = run (run c a) b
  | [], _, _ => rfl
  | x :: a, b, c => by rw [List.cons_append, run_cons, run_append a b, run_cons]
theorem run_snoc (l : List UInt8) (c k : Nat) (h : k < l.length) : run c (l.take (k + 1)) = steps 8 (run c (l.take k) ^^^ (l[k]?.getD 0).toNat) := by
  rw [List.take_add_one, run_append, List.getElem?_eq_getElem h, Option.toList_some, run_cons, run_nil, Option.getD_some]
/-- What is ahead goes its own way. -/
theorem run_xor : ∀ (l : List UInt8) (c d : Nat), run (c ^^^ d) l = steps (8 * l.length) c ^^^ run d l
  | [], _, _ => rfl
  | b :: r, c, d => by
    rw [run_cons, run_cons, Nat.xor_assoc, steps_xor, run_xor r, ← steps_add, List.length_cons, show 8 + 8 * r.length = 8 * (r.length + 1) from by omega]
theorem run_inj (l : List UInt8) {c d : Nat} (hc : c < 4294967296) (hd : d < 4294967296) (h : run c l = run d l) : c = d := by
  have e1 := run_xor l c 0
  have e2 := run_xor l d 0
  rw [Nat.xor_zero] at e1 e2
  rw [e1, e2] at h
  exact steps_inj hc hd _ (xor_can h)
theorem crc_lt (l : List UInt8) : crc l < 4294967296 := Nat.xor_lt_two_pow (n := 32) (run_lt l _ (by decide)) (by decide)
/-- Of the CRCs of two texts that of both is told. -/
theorem crc_append (s t : List UInt8) : crc (s ++ t) = steps (8 * t.length) (crc s) ^^^ crc t := by
  unfold crc
  rw [run_append, ← Nat.xor_assoc, ← run_xor, xor_back]

/-- The number of bytes, the lowest first. -/
def le : List UInt8 → Nat
  | [] => 0
  | b :: r => b.toNat + 256 * le r
theorem le_lt : ∀ a : List UInt8, le a < 256 ^ a.length
  | [] => by simp [le]
  | x :: a => by
    have h := le_lt a
    have hx : x.toNat < 256 := x.toNat_lt
    simp only [le, List.length_cons, Nat.pow_succ]
    omega
theorem le_inj : ∀ a b : List UInt8, a.length = b.length → le a = le b → a = b
  | [], [], _, _ => rfl
  | [], _ :: _, h, _ => by simp at h
  | _ :: _, [], h, _ => by simp at h
  | x :: a, y :: b, h, e => by
    have hx : x.toNat < 256 := x.toNat_lt
    have hy : y.toNat < 256 := y.toNat_lt
    simp only [le] at e
    rw [le_inj a b (by simpa using h) (by omega), UInt8.toNat_inj.1 (show x.toNat = y.toNat by omega)]
/-- Bytes one by one are as their number at once. -/
theorem run_le : ∀ (m : List UInt8) (c : Nat), run c m = steps (8 * m.length) (c ^^^ le m)
  | [], c => by
    rw [run_nil]
    show c = c ^^^ 0
    rw [Nat.xor_zero]
  | b :: m, c => by
    rw [run_cons, run_le m, List.length_cons, show 8 * (m.length + 1) = 8 + 8 * m.length from by omega, steps_add]
    congr 1
    rw [le, show b.toNat + 256 * le m = 2 ^ 8 * le m + b.toNat from by omega, ← xor_parts 8 _ _ b.toNat_lt, Nat.xor_comm (2 ^ 8 * le m), ← Nat.xor_assoc, steps_xor 8 _ (2 ^ 8 * le m), steps_up]
/-- Up to four bytes in a row that are other ones make another CRC. -/
theorem crc_turned (p m m' q : List UInt8) (hl : m.length = m'.length) (h4 : m.length ≤ 4) : crc (p ++ m ++ q) = crc (p ++ m' ++ q) ↔ p ++ m ++ q = p ++ m' ++ q := by
  refine ⟨fun h => ?_, fun h => by rw [h]⟩
  unfold crc at h
  have h1 := congrArg (· ^^^ full) h
  simp only [xor_back] at h1
  rw [run_append, run_append, run_append, run_append] at h1
  have hp : run full p < 4294967296 := run_lt _ _ (by decide)
  have h2 := run_inj q (run_lt _ _ hp) (run_lt _ _ hp) h1
  rw [run_le m, run_le m', hl] at h2
  have hlt : ∀ l : List UInt8, l.length ≤ 4 → le l < 4294967296 := fun l h => Nat.lt_of_lt_of_le (le_lt l) (Nat.pow_le_pow_right (n := 256) (j := 4) (by decide) h)
  have h3 := steps_inj (Nat.xor_lt_two_pow (n := 32) hp (hlt m h4)) (Nat.xor_lt_two_pow (n := 32) hp (hlt m' (by omega))) _ h2
  rw [Nat.xor_comm _ (le m), Nat.xor_comm _ (le m')] at h3
  rw [le_inj m m' hl (xor_can h3)]

/-- The lowest j bits' worth of a product: round by round. -/
def prod (a b : Nat) : Nat → Nat
  | 0 => 0
  | j + 1 => if (a / 2 ^ (31 - j)) % 2 = 1 then prod a b j ^^^ steps j b else prod a b j
theorem prod_lt (a b : Nat) (hb : b < 4294967296) : ∀ j, prod a b j < 4294967296
  | 0 => by unfold prod; decide
  | j + 1 => by
    unfold prod
    split
    · exact Nat.xor_lt_two_pow (n := 32) (prod_lt a b hb j) (steps_lt hb j)
    · exact prod_lt a b hb j
theorem steps_zero : ∀ n, steps n 0 = 0
  | 0 => rfl
  | n + 1 => steps_zero n
/-- To multiply by what has moved on is to move on the product. -/
theorem prod_steps (a b k : Nat) : ∀ j, prod a (steps k b) j = steps k (prod a b j)
  | 0 => (steps_zero k).symm
  | j + 1 => by
    unfold prod
    rw [prod_steps a b k j]
    split
    · rw [steps_xor, ← steps_add, ← steps_add, Nat.add_comm]
    · rfl
theorem steps_one (j : Nat) (h : j ≤ 31) : steps j 2147483648 = 2 ^ (31 - j) := by
  have := steps_up (2 ^ (31 - j)) j
  rwa [← Nat.pow_add, show j + (31 - j) = 31 from by omega] at this
/-- One. -/
theorem prod_one (a : Nat) (ha : a < 4294967296) : ∀ j, j ≤ 32 → prod a 2147483648 j = a / 2 ^ (32 - j) * 2 ^ (32 - j)
  | 0, _ => by
    show 0 = a / 4294967296 * 4294967296
    omega
  | j + 1, h => by
    unfold prod
    rw [prod_one a ha j (by omega), steps_one j (by omega), show 32 - j = (31 - j) + 1 from by omega, show 32 - (j + 1) = 31 - j from by omega]
    generalize 31 - j = i
    rw [Nat.pow_succ, ← Nat.div_div_eq_div_mul]
    generalize a / 2 ^ i = q
    have hp : 0 < 2 ^ i := Nat.pow_pos (by decide)
    have e : q / 2 * (2 ^ i * 2) = 2 ^ (i + 1) * (q / 2) := by rw [Nat.pow_succ, Nat.mul_comm]
    split
    · rename_i h1
      rw [e, xor_parts _ _ _ (by rw [Nat.pow_succ]; omega), Nat.pow_succ, Nat.mul_assoc]
      have : q = 2 * (q / 2) + 1 := by omega
      rw [← Nat.mul_succ]
      rw [Nat.mul_comm q]
      exact congrArg (2 ^ i * ·) this.symm
    · rename_i h1
      have : q = 2 * (q / 2) := by omega
      rw [e, Nat.pow_succ, Nat.mul_assoc, Nat.mul_comm q]
      exact congrArg (2 ^ i * ·) this.symm
/-- To multiply by one that has moved on is to move on. -/
theorem prod_all (a k : Nat) (ha : a < 4294967296) : prod a (steps k 2147483648) 32 = steps k a := by
  rw [prod_steps, prod_one a ha 32 (by omega)]
  simp
end Go.Proofs.YtgjkfplfmkcjdaaDoor
