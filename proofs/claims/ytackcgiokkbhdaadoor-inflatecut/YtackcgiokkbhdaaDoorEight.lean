/- Bytes by their bits. -/
import Derived.Test.YtackcgiokkbhdaaDoorM8
import Derived.Test.YtackcgiokkbhdaaDoorM7
namespace Go.Proofs.YtackcgiokkbhdaaDoor
open Go.RowKit

theorem le_at : ∀ (i : Nat) (l : List UInt8), le l / 2 ^ (8 * i) % 2 ^ 8 = (l.getD i 0).toNat
  | _, [] => by simp [le]
  | 0, x :: r => by
    have := x.toNat_lt
    simp [le]
  | i + 1, x :: r => by
    have hx := x.toNat_lt
    have e : (2 : Nat) ^ (8 * (i + 1)) = 256 * 2 ^ (8 * i) := by rw [show 8 * (i + 1) = 8 + 8 * i from by omega, Nat.pow_add]
    have e2 : le (x :: r) / 256 = le r := by simp [le]; omega
    rw [e, ← Nat.div_div_eq_div_mul, e2, le_at i r]
    simp
theorem by8_eq (l : List UInt8) (q : Nat) : ∀ n, q + n ≤ l.length → by8 (bitsOf l) (8 * q) n = (l.drop q).take n
  | 0, _ => by simp [by8]
  | n + 1, h => by
    have hl : q + n < l.length := by omega
    have hd : n < (l.drop q).length := by rw [List.length_drop]; omega
    rw [by8, by8_eq l q n (by omega), List.take_add_one, List.getElem?_drop, List.getElem?_eq_getElem hl]
    have e : nm (bitsOf l) (8 * q + 8 * n) 8 = (l[q + n]).toNat := by
      unfold nm
      rw [le2_bitsOf, ← Nat.mul_add, le_at]
      simp [hl]
    rw [e]
    simp
theorem extract8 (s : ByteArray) (q n : Nat) (h : q + n ≤ s.size) : (s.extract q (q + n)).data.toList = by8 (bitsOf s.data.toList) (8 * q) n := by
  rw [by8_eq _ q n (by simpa using h)]
  simp [ByteArray.data_extract, List.take_drop]
theorem by8_length (B : List UInt8) (a : Nat) : ∀ n, (by8 B a n).length = n
  | 0 => rfl
  | n + 1 => by rw [by8, List.length_append, by8_length B a n]; rfl
theorem xor16 (x : Nat) (h : x < 65536) : x ^^^ 65535 = 65535 - x := by
  have := congrArg BitVec.toNat (BitVec.xor_allOnes (x := BitVec.ofNat 16 x))
  rw [BitVec.toNat_xor, BitVec.toNat_allOnes, BitVec.toNat_not, BitVec.toNat_ofNat, Nat.mod_eq_of_lt (by omega)] at this
  exact this
theorem xor_u32 (x : Nat) (h : x < 65536) : bits .xor .u32 (x : Int) 65535 = ((65535 - x : Nat) : Int) := by
  unfold bits
  show IntKind.u32.wrap (((BitVec.ofInt 32 (x : Int) ^^^ BitVec.ofInt 32 (65535 : Int)).toNat : Nat) : Int) = _
  have e1 : (BitVec.ofInt 32 (x : Int)).toNat = x := by simp; omega
  have e2 : (BitVec.ofInt 32 (65535 : Int)).toNat = 65535 := by decide
  rw [BitVec.toNat_xor, e1, e2, xor16 x h, IntKind.wrap_u32']
  omega
theorem up8_le (a z : Nat) (h : a ≤ 8 * z) : up8 a ≤ 8 * z ∧ a ≤ up8 a := by unfold up8; omega
end Go.Proofs.YtackcgiokkbhdaaDoor
