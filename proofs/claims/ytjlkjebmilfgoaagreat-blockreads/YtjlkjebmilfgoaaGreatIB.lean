/- Layer 8, the program: symbols, and stored bytes. -/
import Derived.Test.YtjlkjebmilfgoaaGreatIA
import Derived.Test.YtjlkjebmilfgoaaGreatKShape
import Derived.Laws.ResultCell
import Derived.Test.YtjlkjebmilfgoaaGreatM8
import Derived.Test.YtjlkjebmilfgoaaGreatM7
/- Layer 8, the program: symbols up to a block's end. -/
namespace Go.Proofs.YtjlkjebmilfgoaaGreat
open Go.RowKit

/-- Two tables; all that they lead to lies from lo up to hi. -/
structure Cods (w : World) (lo hi T1 T2 : Nat) (la lb : List Nat) : Prop where
  t1 : Tab w lo T1 la
  t2 : Tab w lo T2 lb
  h1 : T1 ≤ hi
  h2 : T2 ≤ hi
  hh : hi < w.heap.size
/-- Lengths that make a code of symbols. -/
structure Lens (la : List Nat) : Prop where
  low : Low la
  len : la.length ≤ 288
theorem Cods.keep {w w' : World} {lo hi T1 T2 : Nat} {la lb : List Nat} {X : Nat → Prop} (h : Cods w lo hi T1 T2 la lb) (k : Only X w w') (hd : ∀ j, lo ≤ j → j ≤ hi → ¬ X j) : Cods w' lo hi T1 T2 la lb :=
  ⟨h.t1.keep k fun j a b => hd j a (Nat.le_trans b h.h1), h.t2.keep k fun j a b => hd j a (Nat.le_trans b h.h2), h.h1, h.h2, Nat.lt_of_lt_of_le h.hh k.size⟩

section
variable {w wx wy : World} {b d : Nat} {s : ByteArray} {most : Int} {A A' : Option Addr} {kv p1 p2 : Value} {lo hi T1 T2 : Nat} {la lb : List Nat} {K a n c : Nat} {out : List UInt8}
end

theorem mCoded_step (B : List UInt8) (la lb : List Nat) (most : Int) (f a : Nat) (out : List UInt8) : mCoded B la lb most (f + 1) a out =
    if (rdp la B a).2.2 ≠ 0 then ((rdp la B a).2.2, a, out)
    else if (rdp la B a).1 = 256 then (0, (rdp la B a).2.1, out)
    else if (rdp la B a).1 < 256 then (if most < out.length + 1 then (7, a, out) else mCoded B la lb most f (rdp la B a).2.1 (out ++ [UInt8.ofNat (rdp la B a).1]))
    else if (mBack B lb most (rdp la B a).1 (rdp la B a).2.1 out).1 ≠ 0 then mBack B lb most (rdp la B a).1 (rdp la B a).2.1 out
    else mCoded B la lb most f (mBack B lb most (rdp la B a).1 (rdp la B a).2.1 out).2.1 (mBack B lb most (rdp la B a).1 (rdp la B a).2.1 out).2.2 := rfl

end Go.Proofs.YtjlkjebmilfgoaaGreat

/- Layer 8, the program: the lengths of kind 1, and two tables of lengths. -/

/- Layer 8, the program: the tables of a block. -/
namespace Go.Proofs.YtjlkjebmilfgoaaGreat
open Go.RowKit

end Go.Proofs.YtjlkjebmilfgoaaGreat

/- Bytes by their bits. -/
namespace Go.Proofs.YtjlkjebmilfgoaaGreat
open Go.RowKit

theorem le_at : ∀ (i : Nat) (l : List UInt8), le l / 2 ^ (8 * i) % 2 ^ 8 = (l.getD i 0).toNat
  | _, [] => by simp [le]
  | 0, x :: r => by
    have := x.toNat_lt
    simp [le]
  | i + 1, x :: r => by
    have hx := x.toNat_lt
    have e : (2 : Nat) ^ (8 * (i + 1)) = 256 * 2 ^ (8 * i) := by rw [show 8 * (i + 1) = 8 + 8 * i from by omega, Nat.pow_add]
    have e2 : le (x :: r) / 256 = le r := by simp [le]; omega
    rw [e, ← Nat.div_div_eq_div_mul, e2, le_at i r]
    simp
theorem by8_eq (l : List UInt8) (q : Nat) : ∀ n, q + n ≤ l.length → by8 (bitsOf l) (8 * q) n = (l.drop q).take n
  | 0, _ => by simp [by8]
  | n + 1, h => by
    have hl : q + n < l.length := by omega
    have hd : n < (l.drop q).length := by rw [List.length_drop]; omega
    rw [by8, by8_eq l q n (by omega), List.take_add_one, List.getElem?_drop, List.getElem?_eq_getElem hl]
    have e : nm (bitsOf l) (8 * q + 8 * n) 8 = (l[q + n]).toNat := by
      unfold nm
      rw [le2_bitsOf, ← Nat.mul_add, le_at]
      simp [hl]
    rw [e]
    simp
theorem extract8 (s : ByteArray) (q n : Nat) (h : q + n ≤ s.size) : (s.extract q (q + n)).data.toList = by8 (bitsOf s.data.toList) (8 * q) n := by
  rw [by8_eq _ q n (by simpa using h)]
  simp [ByteArray.data_extract, List.take_drop]
theorem by8_length (B : List UInt8) (a : Nat) : ∀ n, (by8 B a n).length = n
  | 0 => rfl
  | n + 1 => by rw [by8, List.length_append, by8_length B a n]; rfl
theorem xor16 (x : Nat) (h : x < 65536) : x ^^^ 65535 = 65535 - x := by
  have := congrArg BitVec.toNat (BitVec.xor_allOnes (x := BitVec.ofNat 16 x))
  rw [BitVec.toNat_xor, BitVec.toNat_allOnes, BitVec.toNat_not, BitVec.toNat_ofNat, Nat.mod_eq_of_lt (by omega)] at this
  exact this
theorem xor_u32 (x : Nat) (h : x < 65536) : bits .xor .u32 (x : Int) 65535 = ((65535 - x : Nat) : Int) := by
  unfold bits
  show IntKind.u32.wrap (((BitVec.ofInt 32 (x : Int) ^^^ BitVec.ofInt 32 (65535 : Int)).toNat : Nat) : Int) = _
  have e1 : (BitVec.ofInt 32 (x : Int)).toNat = x := by simp; omega
  have e2 : (BitVec.ofInt 32 (65535 : Int)).toNat = 65535 := by decide
  rw [BitVec.toNat_xor, e1, e2, xor16 x h, IntKind.wrap_u32']
  omega
theorem up8_le (a z : Nat) (h : a ≤ 8 * z) : up8 a ≤ 8 * z ∧ a ≤ up8 a := by unfold up8; omega
end Go.Proofs.YtjlkjebmilfgoaaGreat

/- Layer 8, the program: a block's head, and a block whose bytes stand as they are. -/
namespace Go.Proofs.YtjlkjebmilfgoaaGreat
open Go.RowKit

/-- Two numbers of bits, one behind the other. -/
theorem two_bits (s : ByteArray) (a n m : Nat) (ha : a ≤ 8 * s.size) (hn : n ≤ 32) (hm : m ≤ 32) : ∃ v1 b1 f1 v2 b2 f2, rBits s a false n = (v1, b1, f1) ∧ rBits s b1 f1 m = (v2, b2, f2) ∧ b1 ≤ 8 * s.size ∧ b2 ≤ 8 * s.size ∧ v1 < 4294967296 ∧ v2 < 4294967296 ∧ (f2 = true ↔ 8 * s.size < a + n + m) ∧
    (f2 = false → v1 = nm (bitsOf s.data.toList) a n ∧ v2 = nm (bitsOf s.data.toList) (a + n) m ∧ b2 = a + n + m) := by
  have lt32 : ∀ a k, k ≤ 32 → le s.data.toList / 2 ^ a % 2 ^ k < 4294967296 := fun a k hk => Nat.lt_of_lt_of_le (Nat.mod_lt _ (Nat.pow_pos (by decide))) (Nat.pow_le_pow_right (n := 2) (j := 32) (by decide) hk)
  by_cases h1 : 8 * s.size < a + n
  · have e1 : rBits s a false n = (0, a, true) := by unfold rBits; rw [if_pos (by simp [short]; omega)]
    have e2 : rBits s a true m = (0, a, true) := by unfold rBits; rw [if_pos (by simp [short])]
    exact ⟨0, a, true, 0, a, true, e1, e2, ha, ha, by decide, by decide, ⟨fun _ => by omega, fun _ => rfl⟩, fun h => by cases h⟩
  · have e1 : rBits s a false n = (le s.data.toList / 2 ^ a % 2 ^ n, a + n, false) := by unfold rBits; rw [if_neg (by simp [short]; omega)]; rfl
    by_cases h2 : 8 * s.size < a + n + m
    · have e2 : rBits s (a + n) false m = (0, a + n, true) := by unfold rBits; rw [if_pos (by simp [short]; omega)]
      exact ⟨_, _, _, _, _, _, e1, e2, by omega, by omega, lt32 a n hn, by decide, ⟨fun _ => h2, fun _ => rfl⟩, fun h => by cases h⟩
    · have e2 : rBits s (a + n) false m = (le s.data.toList / 2 ^ (a + n) % 2 ^ m, a + n + m, false) := by unfold rBits; rw [if_neg (by simp [short]; omega)]; rfl
      exact ⟨_, _, _, _, _, _, e1, e2, by omega, by omega, lt32 a n hn, lt32 (a + n) m hm, ⟨fun h => (by cases h), fun h => (by omega)⟩, fun _ => ⟨nm_of s a n, nm_of s (a + n) m, rfl⟩⟩

end Go.Proofs.YtjlkjebmilfgoaaGreat
