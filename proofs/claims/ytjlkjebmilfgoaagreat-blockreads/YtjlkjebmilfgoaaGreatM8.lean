/- Layer 1: Align and Bytes; layers 7 and 8 in plain words. -/
import Derived.Test.YtjlkjebmilfgoaaGreatM2
import Derived.Test.YtjlkjebmilfgoaaGreatTShelf
import Derived.Test.YtjlkjebmilfgoaaGreatM3
import Derived.Lib.BitFns
/- The reader of layer 1: Align and Bytes, and Bits of a reader whatever its state. -/
namespace Go.Proofs.YtjlkjebmilfgoaaGreat
open Go.RowKit

/-- Bytes cannot be given. -/
def lacks (s : ByteArray) (a : Nat) (f : Bool) (n : Int) : Bool := f || decide (n < 0) || decide ((s.size : Int) - ((a + 7) / 8 : Nat) < n)

/-- What a reader comes to when it is asked for n bits. -/
def rBits (s : ByteArray) (a : Nat) (f : Bool) (n : Int) : Nat × Nat × Bool :=
  if short s.size a f n then (0, a, true) else (le s.data.toList / 2 ^ a % 2 ^ n.toNat, a + n.toNat, false)
def rBytes (s : ByteArray) (a : Nat) (f : Bool) (n : Int) : ByteArray × Nat × Bool :=
  if lacks s a f n then (ByteArray.empty, a, true) else (s.extract ((a + 7) / 8) ((a + 7) / 8 + n.toNat), 8 * ((a + 7) / 8 + n.toNat), false)

end Go.Proofs.YtjlkjebmilfgoaaGreat

/- Layer 7 in plain words: which symbol says a number, and what a symbol says; the rows of symbols, row by row. -/
namespace Go.Proofs.YtjlkjebmilfgoaaGreat

/-- n is said by the symbol a, with b bits, which hold c; or by none. -/
inductive LenIs : Int → Int → Int → Int → Bool → Prop
  | no (n : Int) (h : n < 3 ∨ 258 < n) : LenIs n 0 0 0 false
  | last : LenIs 258 285 0 0 true
  | row (s m : Nat) (hs : s < 28) (hm : m < 2 ^ lb s) (h : lf s + m ≤ 257) : LenIs ((lf s + m : Nat) : Int) ((257 + s : Nat) : Int) (lb s : Nat) (m : Nat) true
inductive DistIs : Int → Int → Int → Int → Bool → Prop
  | no (n : Int) (h : n < 1 ∨ 32768 < n) : DistIs n 0 0 0 false
  | row (s m : Nat) (hs : s < 30) (hm : m < 2 ^ db s) : DistIs ((df s + m : Nat) : Int) (s : Nat) (db s : Nat) (m : Nat) true
/-- The symbol a with the number c says n. -/
inductive LofIs : Int → Int → Int → Bool → Prop
  | out (a c : Int) (h : a < 257 ∨ 285 < a) : LofIs a c 0 false
  | last : LofIs 285 0 258 true
  | lastNo (c : Int) (h : c ≠ 0) : LofIs 285 c 0 false
  | row (s m : Nat) (hs : s < 28) (hm : m < 2 ^ lb s) (h : lf s + m ≤ 257) : LofIs ((257 + s : Nat) : Int) (m : Nat) ((lf s + m : Nat) : Int) true
  | rowNo (s : Nat) (c : Int) (hs : s < 28) (h : c < 0 ∨ (2 ^ lb s : Nat) ≤ c) : LofIs ((257 + s : Nat) : Int) c 0 false
  | row284 : LofIs 284 31 0 false
inductive DofIs : Int → Int → Int → Bool → Prop
  | out (a c : Int) (h : a < 0 ∨ 29 < a) : DofIs a c 0 false
  | row (s m : Nat) (hs : s < 30) (hm : m < 2 ^ db s) : DofIs (s : Nat) (m : Nat) ((df s + m : Nat) : Int) true
  | rowNo (s : Nat) (c : Int) (hs : s < 30) (h : c < 0 ∨ (2 ^ db s : Nat) ≤ c) : DofIs (s : Nat) c 0 false

theorem between (f : Nat → Nat) (n : Nat) (h0 : f 0 ≤ n) : ∀ k, n < f k → ∃ s, s < k ∧ f s ≤ n ∧ n < f (s + 1)
  | 0, h => by omega
  | k + 1, h => by
    rcases Nat.lt_or_ge n (f k) with h1 | h1
    · obtain ⟨s, h2, h3⟩ := between f n h0 k h1
      exact ⟨s, by omega, h3⟩
    · exact ⟨k, by omega, h1, h⟩
theorem lf28 : lf 28 = 259 := by decide +kernel
theorem df30 : df 30 = 32769 := by decide +kernel
theorem lenIs (n : Int) : ∃ a b c ok, LenIs n a b c ok := by
  by_cases h1 : n < 3 ∨ 258 < n
  · exact ⟨_, _, _, _, .no n h1⟩
  · by_cases h2 : n = 258
    · subst h2; exact ⟨_, _, _, _, .last⟩
    · obtain ⟨x, rfl⟩ : ∃ x : Nat, n = x := ⟨n.toNat, by omega⟩
      obtain ⟨s, hs, h3, h4⟩ := between lf x (by show 3 ≤ x; omega) 28 (by rw [lf28]; omega)
      rw [lf] at h4
      have h := LenIs.row s (x - lf s) hs (by omega) (by omega)
      rw [show lf s + (x - lf s) = x from by omega] at h
      exact ⟨_, _, _, _, h⟩
theorem distIs (n : Int) : ∃ a b c ok, DistIs n a b c ok := by
  by_cases h1 : n < 1 ∨ 32768 < n
  · exact ⟨_, _, _, _, .no n h1⟩
  · obtain ⟨x, rfl⟩ : ∃ x : Nat, n = x := ⟨n.toNat, by omega⟩
    obtain ⟨s, hs, h3, h4⟩ := between df x (by show 1 ≤ x; omega) 30 (by rw [df30]; omega)
    rw [df] at h4
    have h := DistIs.row s (x - df s) hs (by omega)
    rw [show df s + (x - df s) = x from by omega] at h
    exact ⟨_, _, _, _, h⟩
theorem lrow_top : ∀ s : Fin 28, lf s.val + 2 ^ lb s.val ≤ 258 ∨ (s.val = 27 ∧ lf s.val = 227 ∧ lb s.val = 5) := by decide +kernel
theorem lofIs (a c : Int) : ∃ n ok, LofIs a c n ok := by
  by_cases h1 : a < 257 ∨ 285 < a
  · exact ⟨_, _, .out a c h1⟩
  · by_cases h2 : a = 285
    · subst h2
      by_cases h3 : c = 0
      · subst h3; exact ⟨_, _, .last⟩
      · exact ⟨_, _, .lastNo c h3⟩
    · obtain ⟨s, hs, rfl⟩ : ∃ s : Nat, s < 28 ∧ a = ((257 + s : Nat) : Int) := ⟨(a - 257).toNat, by omega, by omega⟩
      by_cases h3 : c < 0 ∨ (2 ^ lb s : Nat) ≤ c
      · exact ⟨_, _, .rowNo s c hs h3⟩
      · obtain ⟨m, rfl⟩ : ∃ m : Nat, c = m := ⟨c.toNat, by omega⟩
        by_cases h4 : lf s + m ≤ 257
        · exact ⟨_, _, .row s m hs (by omega) h4⟩
        · rcases lrow_top ⟨s, hs⟩ with h5 | ⟨h5, h6, h7⟩
          · simp only at h5
            omega
          · simp only at h5 h6 h7
            subst h5
            rw [h7] at h3
            obtain rfl : m = 31 := by omega
            exact ⟨_, _, .row284⟩
theorem dofIs (a c : Int) : ∃ n ok, DofIs a c n ok := by
  by_cases h1 : a < 0 ∨ 29 < a
  · exact ⟨_, _, .out a c h1⟩
  · obtain ⟨s, hs, rfl⟩ : ∃ s : Nat, s < 30 ∧ a = (s : Nat) := ⟨a.toNat, by omega, by omega⟩
    by_cases h3 : c < 0 ∨ (2 ^ db s : Nat) ≤ c
    · exact ⟨_, _, .rowNo s c hs h3⟩
    · obtain ⟨m, rfl⟩ : ∃ m : Nat, c = m := ⟨c.toNat, by omega⟩
      exact ⟨_, _, .row s m hs (by omega)⟩
/-- What says a number says it. -/
theorem LenIs.back {n a b c : Int} (h : LenIs n a b c true) : LofIs a c n true := by
  cases h with
  | last => exact .last
  | row s m hs hm h => exact .row s m hs hm h
theorem DistIs.back {n a b c : Int} (h : DistIs n a b c true) : DofIs a c n true := by
  cases h with
  | row s m hs hm => exact .row s m hs hm
theorem LofIs.back {a c n : Int} (h : LofIs a c n true) : ∃ b, LenIs n a b c true := by
  cases h with
  | last => exact ⟨_, .last⟩
  | row s m hs hm h => exact ⟨_, .row s m hs hm h⟩
theorem DofIs.back {a c n : Int} (h : DofIs a c n true) : ∃ b, DistIs n a b c true := by
  cases h with
  | row s m hs hm => exact ⟨_, .row s m hs hm⟩

/-- A row in the program's words: symbol s of v bits, G the size of its group; its first number's first digits are k. -/
structure RowIs (s v G k : Nat) : Prop where
  sym : v * 2 ^ G + k = s
  top : k < 2 ^ (G + 1)
  low : v = 0 ∨ 2 ^ G ≤ k
  width : s / 2 ^ G - 1 = v
theorem lrow_is : ∀ s : Fin 28, lb s.val * 4 + (s.val - lb s.val * 4) = s.val ∧ s.val - lb s.val * 4 < 8 ∧ (lb s.val = 0 ∨ 4 ≤ s.val - lb s.val * 4) ∧ s.val / 4 - 1 = lb s.val ∧ lf s.val = 3 + (s.val - lb s.val * 4) * 2 ^ lb s.val := by decide +kernel
theorem drow_is : ∀ s : Fin 30, db s.val * 2 + (s.val - db s.val * 2) = s.val ∧ s.val - db s.val * 2 < 4 ∧ (db s.val = 0 ∨ 2 ≤ s.val - db s.val * 2) ∧ s.val / 2 - 1 = db s.val ∧ df s.val = 1 + (s.val - db s.val * 2) * 2 ^ db s.val := by decide +kernel
theorem lrowIs (s : Nat) (h : s < 28) : ∃ k, RowIs s (lb s) 2 k ∧ lf s = 3 + k * 2 ^ lb s := by
  obtain ⟨h1, h2, h3, h4, h5⟩ := lrow_is ⟨s, h⟩
  exact ⟨_, ⟨h1, h2, h3, h4⟩, h5⟩
theorem drowIs (s : Nat) (h : s < 30) : ∃ k, RowIs s (db s) 1 k ∧ df s = 1 + k * 2 ^ db s := by
  obtain ⟨h1, h2, h3, h4, h5⟩ := drow_is ⟨s, h⟩
  exact ⟨_, ⟨h1, h2, h3, h4⟩, h5⟩
theorem bitLen_small : ∀ k : Fin 8, Lib.bitLen k.val ≤ 3 ∧ (4 ≤ k.val → Lib.bitLen k.val = 3) ∧ (k.val < 4 → Lib.bitLen k.val ≤ 2) ∧ (2 ≤ k.val → k.val < 4 → Lib.bitLen k.val = 2) := by decide +kernel
/-- The number's digits. -/
theorem RowIs.bits {s v G k : Nat} (h : RowIs s v G k) (hG : G = 1 ∨ G = 2) (m : Nat) (hm : m < 2 ^ v) (hx : k * 2 ^ v + m ≤ 32767) :
    Lib.bitLen (k * 2 ^ v + m) - (G + 1) = v ∧ Lib.bitLen (k * 2 ^ v + m) ≤ 15 ∧ (k * 2 ^ v + m) / 2 ^ v = k ∧ (k * 2 ^ v + m) % 2 ^ v = m := by
  have hp : 0 < 2 ^ v := Nat.pow_pos (by decide)
  have e1 : (k * 2 ^ v + m) / 2 ^ v = k := by rw [Nat.mul_comm, Nat.mul_add_div hp, Nat.div_eq_of_lt hm, Nat.add_zero]
  have e2 : (k * 2 ^ v + m) % 2 ^ v = m := by rw [Nat.mul_comm, Nat.mul_add_mod, Nat.mod_eq_of_lt hm]
  refine ⟨?_, Lib.bitLen_le _ 15 (by omega) (by omega), e1, e2⟩
  have hk8 : k < 8 := by
    have := h.top
    rcases hG with rfl | rfl <;> omega
  obtain ⟨b1, b2, b3, b4⟩ := bitLen_small ⟨k, hk8⟩
  simp only at b1 b2 b3 b4
  rcases h.low with h0 | h0
  · subst h0
    obtain rfl : m = 0 := by simpa using hm
    rw [Nat.pow_zero, Nat.mul_one, Nat.add_zero]
    have := h.top
    rcases hG with rfl | rfl <;> omega
  · have hk1 : 1 ≤ k := Nat.le_trans (Nat.pow_pos (by decide)) h0
    have h2 : 2 ^ v ≤ k * 2 ^ v + m := Nat.le_trans (Nat.le_mul_of_pos_left _ hk1) (Nat.le_add_right _ _)
    rw [Lib.bitLen_shift v _ h2 (by omega), e1]
    have := h.top
    rcases hG with rfl | rfl <;> omega
end Go.Proofs.YtjlkjebmilfgoaaGreat

/- Layer 8 in plain words: what bits say, step by step, or the error that is met first. -/
namespace Go.Proofs.YtjlkjebmilfgoaaGreat

/-- The number of n bits at a. -/
def nm (B : List UInt8) (a n : Nat) : Nat := le2 B / 2 ^ a % 2 ^ n
theorem nm_lt (B : List UInt8) (a n : Nat) : nm B a n < 2 ^ n := Nat.mod_lt _ (Nat.pow_pos (by decide))
/-- Where the next byte begins. -/
def up8 (a : Nat) : Nat := (a + 7) / 8 * 8
/-- The n bytes at a. -/
def by8 (B : List UInt8) (a : Nat) : Nat → List UInt8
  | 0 => []
  | n + 1 => by8 B a n ++ [UInt8.ofNat (nm B (a + 8 * n) 8)]

/-- An answer: an error or 0; where the bits stand behind it; what is said. -/
abbrev Ans := Nat × Nat × List UInt8

def mStored (B : List UInt8) (most : Int) (a : Nat) (out : List UInt8) : Ans :=
  if B.length < up8 a + 32 then (3, a, out)
  else if nm B (up8 a) 16 + nm B (up8 a + 16) 16 ≠ 65535 then (2, a, out)
  else if most < out.length + nm B (up8 a) 16 then (7, a, out)
  else if B.length < up8 a + 32 + 8 * nm B (up8 a) 16 then (3, a, out)
  else (0, up8 a + 32 + 8 * nm B (up8 a) 16, out ++ by8 B (up8 a + 32) (nm B (up8 a) 16))

/-- Of a symbol of lengths: how many bits, the first number. -/
def lw (s : Nat) : Nat := if s = 285 then 0 else lb (s - 257)
def lv (s : Nat) : Nat := if s = 285 then 258 else lf (s - 257)

def mLen (B : List UInt8) (s a : Nat) : Nat × Nat × Nat :=
  if 285 < s then (2, a, 0) else if B.length < a + lw s then (3, a, 0) else (0, a + lw s, lv s + nm B a (lw s))
def mDist (B : List UInt8) (l : List Nat) (a : Nat) : Nat × Nat × Nat :=
  if (rdp l B a).2.2 ≠ 0 then ((rdp l B a).2.2, a, 0)
  else if 29 < (rdp l B a).1 then (2, a, 0)
  else if B.length < (rdp l B a).2.1 + db (rdp l B a).1 then (3, a, 0)
  else (0, (rdp l B a).2.1 + db (rdp l B a).1, df (rdp l B a).1 + nm B (rdp l B a).2.1 (db (rdp l B a).1))
def mBack (B : List UInt8) (l : List Nat) (most : Int) (s a : Nat) (out : List UInt8) : Ans :=
  if (mLen B s a).1 ≠ 0 then ((mLen B s a).1, a, out)
  else if (mDist B l (mLen B s a).2.1).1 ≠ 0 then ((mDist B l (mLen B s a).2.1).1, a, out)
  else if out.length < (mDist B l (mLen B s a).2.1).2.2 then (2, a, out)
  else if most < out.length + (mLen B s a).2.2 then (7, a, out)
  else (0, (mDist B l (mLen B s a).2.1).2.1, copyF (mDist B l (mLen B s a).2.1).2.2 (mLen B s a).2.2 out)

/-- Symbols up to the block's end; f bounds how many. -/
def mCoded (B : List UInt8) (la lb : List Nat) (most : Int) : Nat → Nat → List UInt8 → Ans
  | 0, a, out => (3, a, out)
  | f + 1, a, out =>
    if (rdp la B a).2.2 ≠ 0 then ((rdp la B a).2.2, a, out)
    else if (rdp la B a).1 = 256 then (0, (rdp la B a).2.1, out)
    else if (rdp la B a).1 < 256 then (if most < out.length + 1 then (7, a, out) else mCoded B la lb most f (rdp la B a).2.1 (out ++ [UInt8.ofNat (rdp la B a).1]))
    else if (mBack B lb most (rdp la B a).1 (rdp la B a).2.1 out).1 ≠ 0 then mBack B lb most (rdp la B a).1 (rdp la B a).2.1 out
    else mCoded B la lb most f (mBack B lb most (rdp la B a).1 (rdp la B a).2.1 out).2.1 (mBack B lb most (rdp la B a).1 (rdp la B a).2.1 out).2.2

/-- Of 16, 17 and 18: how many bits, the least number of times. -/
def tw (s : Nat) : Nat := if s = 16 then 2 else if s = 17 then 3 else 7
def tv (s : Nat) : Nat := if s = 18 then 11 else 3
/-- n lengths by the first code. -/
def mRow (B : List UInt8) (l : List Nat) (n : Nat) : Nat → Nat → List Nat → Nat × Nat × List Nat
  | 0, a, o => (0, a, o)
  | f + 1, a, o =>
    if n ≤ o.length then (0, a, o)
    else if (rdp l B a).2.2 ≠ 0 then ((rdp l B a).2.2, a, o)
    else if (rdp l B a).1 < 16 then mRow B l n f (rdp l B a).2.1 (o ++ [(rdp l B a).1])
    else if (rdp l B a).1 = 16 ∧ o.length = 0 then (2, a, o)
    else if B.length < (rdp l B a).2.1 + tw (rdp l B a).1 then (3, a, o)
    else if n < o.length + (tv (rdp l B a).1 + nm B (rdp l B a).2.1 (tw (rdp l B a).1)) then (2, a, o)
    else mRow B l n f ((rdp l B a).2.1 + tw (rdp l B a).1) (o ++ List.replicate (tv (rdp l B a).1 + nm B (rdp l B a).2.1 (tw (rdp l B a).1)) (if (rdp l B a).1 = 16 then o.getD (o.length - 1) 0 else 0))

/-- The first code's lengths. -/
def order : List Nat := [16, 17, 18, 0, 8, 7, 9, 6, 10, 5, 11, 4, 12, 3, 13, 2, 14, 1, 15]
def firsts (B : List UInt8) (a : Nat) : Nat → List Nat
  | 0 => List.replicate 19 0
  | i + 1 => (firsts B a i).set (order.getD i 0) (nm B (a + 3 * i) 3)

abbrev Own3 := Nat × Nat × List Nat × List Nat
def mOwn2 (B : List UInt8) (n0 n1 : Nat) (l : List Nat) (a : Nat) : Own3 :=
  if (kd l).2 ≠ 0 ∨ (kd l).1 = 2 then (10, a, [], [])
  else if (mRow B l (n0 + n1) (n0 + n1) a []).1 ≠ 0 then ((mRow B l (n0 + n1) (n0 + n1) a []).1, a, [], [])
  else if ln (mRow B l (n0 + n1) (n0 + n1) a []).2.2 256 = 0 then (2, a, [], [])
  else if (kd ((mRow B l (n0 + n1) (n0 + n1) a []).2.2.take n0)).2 ≠ 0 ∨ (kd ((mRow B l (n0 + n1) (n0 + n1) a []).2.2.drop n0)).2 ≠ 0 then (10, a, [], [])
  else (0, (mRow B l (n0 + n1) (n0 + n1) a []).2.1, (mRow B l (n0 + n1) (n0 + n1) a []).2.2.take n0, (mRow B l (n0 + n1) (n0 + n1) a []).2.2.drop n0)
def mOwn (B : List UInt8) (a : Nat) : Own3 :=
  if B.length < a + 14 then (3, a, [], [])
  else if 286 < 257 + nm B a 5 ∨ 30 < 1 + nm B (a + 5) 5 then (2, a, [], [])
  else if B.length < a + 14 + 3 * (4 + nm B (a + 10) 4) then (3, a, [], [])
  else mOwn2 B (257 + nm B a 5) (1 + nm B (a + 5) 5) (firsts B (a + 14) (4 + nm B (a + 10) 4)) (a + 14 + 3 * (4 + nm B (a + 10) 4))

/-- The lengths of kind 1. -/
def fixA : List Nat := List.replicate 144 8 ++ List.replicate 112 9 ++ List.replicate 24 7 ++ List.replicate 8 8
def fixB : List Nat := List.replicate 32 5
/-- What stands behind a block's head. -/
def mBlock (B : List UInt8) (most : Int) (kind a : Nat) (out : List UInt8) : Ans :=
  if kind = 0 then mStored B most a out
  else if kind = 1 then mCoded B fixA fixB most (B.length + 1) a out
  else if kind = 2 then (if (mOwn B a).1 ≠ 0 then ((mOwn B a).1, a, out) else mCoded B (mOwn B a).2.2.1 (mOwn B a).2.2.2 most (B.length + 1) (mOwn B a).2.1 out)
  else (2, a, out)
/-- Blocks up to the last one; f bounds how many. -/
def mStr (B : List UInt8) (most : Int) : Nat → Nat → List UInt8 → List Nat → Nat × Nat × List UInt8 × List Nat
  | 0, a, out, ks => (3, a, out, ks)
  | f + 1, a, out, ks =>
    if B.length < a + 3 then (3, a, out, ks)
    else if (mBlock B most (nm B (a + 1) 2) (a + 3) out).1 ≠ 0 then ((mBlock B most (nm B (a + 1) 2) (a + 3) out).1, a, out, ks)
    else if nm B a 1 = 1 then (0, (mBlock B most (nm B (a + 1) 2) (a + 3) out).2.1, (mBlock B most (nm B (a + 1) 2) (a + 3) out).2.2, ks ++ [nm B (a + 1) 2])
    else mStr B most f (mBlock B most (nm B (a + 1) 2) (a + 3) out).2.1 (mBlock B most (nm B (a + 1) 2) (a + 3) out).2.2 (ks ++ [nm B (a + 1) 2])
def mStream (B : List UInt8) (most : Int) : Nat × Nat × List UInt8 × List Nat := mStr B most (B.length + 1) 0 [] []
end Go.Proofs.YtjlkjebmilfgoaaGreat
