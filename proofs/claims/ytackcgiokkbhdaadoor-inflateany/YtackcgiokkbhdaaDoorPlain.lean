/- Layer 8 in plain words: what bits say, step by step, or the error that is met first. -/
import Derived.Test.YtackcgiokkbhdaaDoorScan
import Derived.Test.YtackcgiokkbhdaaDoorSay
namespace Go.Proofs.YtackcgiokkbhdaaDoor

/-- The number of n bits at a. -/
def nm (B : List UInt8) (a n : Nat) : Nat := le2 B / 2 ^ a % 2 ^ n
theorem nm_lt (B : List UInt8) (a n : Nat) : nm B a n < 2 ^ n := Nat.mod_lt _ (Nat.pow_pos (by decide))
/-- Where the next byte begins. -/
def up8 (a : Nat) : Nat := (a + 7) / 8 * 8
/-- The n bytes at a. -/
def by8 (B : List UInt8) (a : Nat) : Nat → List UInt8
  | 0 => []
  | n + 1 => by8 B a n ++ [UInt8.ofNat (nm B (a + 8 * n) 8)]

/-- An answer: an error or 0; where the bits stand behind it; what is said. -/
abbrev Ans := Nat × Nat × List UInt8

def mStored (B : List UInt8) (most : Int) (a : Nat) (out : List UInt8) : Ans :=
  if B.length < up8 a + 32 then (3, a, out)
  else if nm B (up8 a) 16 + nm B (up8 a + 16) 16 ≠ 65535 then (2, a, out)
  else if most < out.length + nm B (up8 a) 16 then (7, a, out)
  else if B.length < up8 a + 32 + 8 * nm B (up8 a) 16 then (3, a, out)
  else (0, up8 a + 32 + 8 * nm B (up8 a) 16, out ++ by8 B (up8 a + 32) (nm B (up8 a) 16))

/-- Of a symbol of lengths: how many bits, the first number. -/
def lw (s : Nat) : Nat := if s = 285 then 0 else lb (s - 257)
def lv (s : Nat) : Nat := if s = 285 then 258 else lf (s - 257)

def mLen (B : List UInt8) (s a : Nat) : Nat × Nat × Nat :=
  if 285 < s then (2, a, 0) else if B.length < a + lw s then (3, a, 0) else (0, a + lw s, lv s + nm B a (lw s))
def mDist (B : List UInt8) (l : List Nat) (a : Nat) : Nat × Nat × Nat :=
  if (rdp l B a).2.2 ≠ 0 then ((rdp l B a).2.2, a, 0)
  else if 29 < (rdp l B a).1 then (2, a, 0)
  else if B.length < (rdp l B a).2.1 + db (rdp l B a).1 then (3, a, 0)
  else (0, (rdp l B a).2.1 + db (rdp l B a).1, df (rdp l B a).1 + nm B (rdp l B a).2.1 (db (rdp l B a).1))
def mBack (B : List UInt8) (l : List Nat) (most : Int) (s a : Nat) (out : List UInt8) : Ans :=
  if (mLen B s a).1 ≠ 0 then ((mLen B s a).1, a, out)
  else if (mDist B l (mLen B s a).2.1).1 ≠ 0 then ((mDist B l (mLen B s a).2.1).1, a, out)
  else if out.length < (mDist B l (mLen B s a).2.1).2.2 then (2, a, out)
  else if most < out.length + (mLen B s a).2.2 then (7, a, out)
  else (0, (mDist B l (mLen B s a).2.1).2.1, copyF (mDist B l (mLen B s a).2.1).2.2 (mLen B s a).2.2 out)

/-- Symbols up to the block's end; f bounds how many. -/
def mCoded (B : List UInt8) (la lb : List Nat) (most : Int) : Nat → Nat → List UInt8 → Ans
  | 0, a, out => (3, a, out)
  | f + 1, a, out =>
    if (rdp la B a).2.2 ≠ 0 then ((rdp la B a).2.2, a, out)
    else if (rdp la B a).1 = 256 then (0, (rdp la B a).2.1, out)
    else if (rdp la B a).1 < 256 then (if most < out.length + 1 then (7, a, out) else mCoded B la lb most f (rdp la B a).2.1 (out ++ [UInt8.ofNat (rdp la B a).1]))
    else if (mBack B lb most (rdp la B a).1 (rdp la B a).2.1 out).1 ≠ 0 then mBack B lb most (rdp la B a).1 (rdp la B a).2.1 out
    else mCoded B la lb most f (mBack B lb most (rdp la B a).1 (rdp la B a).2.1 out).2.1 (mBack B lb most (rdp la B a).1 (rdp la B a).2.1 out).2.2

/-- Of 16, 17 and 18: how many bits, the least number of times. -/
def tw (s : Nat) : Nat := if s = 16 then 2 else if s = 17 then 3 else 7
def tv (s : Nat) : Nat := if s = 18 then 11 else 3
/-- n lengths by the first code. -/
def mRow (B : List UInt8) (l : List Nat) (n : Nat) : Nat → Nat → List Nat → Nat × Nat × List Nat
  | 0, a, o => (0, a, o)
  | f + 1, a, o =>
    if n ≤ o.length then (0, a, o)
    else if (rdp l B a).2.2 ≠ 0 then ((rdp l B a).2.2, a, o)
    else if (rdp l B a).1 < 16 then mRow B l n f (rdp l B a).2.1 (o ++ [(rdp l B a).1])
    else if (rdp l B a).1 = 16 ∧ o.length = 0 then (2, a, o)
    else if B.length < (rdp l B a).2.1 + tw (rdp l B a).1 then (3, a, o)
    else if n < o.length + (tv (rdp l B a).1 + nm B (rdp l B a).2.1 (tw (rdp l B a).1)) then (2, a, o)
    else mRow B l n f ((rdp l B a).2.1 + tw (rdp l B a).1) (o ++ List.replicate (tv (rdp l B a).1 + nm B (rdp l B a).2.1 (tw (rdp l B a).1)) (if (rdp l B a).1 = 16 then o.getD (o.length - 1) 0 else 0))

/-- The first code's lengths. -/
def order : List Nat := [16, 17, 18, 0, 8, 7, 9, 6, 10, 5, 11, 4, 12, 3, 13, 2, 14, 1, 15]
def firsts (B : List UInt8) (a : Nat) : Nat → List Nat
  | 0 => List.replicate 19 0
  | i + 1 => (firsts B a i).set (order.getD i 0) (nm B (a + 3 * i) 3)

abbrev Own3 := Nat × Nat × List Nat × List Nat
def mOwn2 (B : List UInt8) (n0 n1 : Nat) (l : List Nat) (a : Nat) : Own3 :=
  if (kd l).2 ≠ 0 ∨ (kd l).1 = 2 then (10, a, [], [])
  else if (mRow B l (n0 + n1) (n0 + n1) a []).1 ≠ 0 then ((mRow B l (n0 + n1) (n0 + n1) a []).1, a, [], [])
  else if ln (mRow B l (n0 + n1) (n0 + n1) a []).2.2 256 = 0 then (2, a, [], [])
  else if (kd ((mRow B l (n0 + n1) (n0 + n1) a []).2.2.take n0)).2 ≠ 0 ∨ (kd ((mRow B l (n0 + n1) (n0 + n1) a []).2.2.drop n0)).2 ≠ 0 then (10, a, [], [])
  else (0, (mRow B l (n0 + n1) (n0 + n1) a []).2.1, (mRow B l (n0 + n1) (n0 + n1) a []).2.2.take n0, (mRow B l (n0 + n1) (n0 + n1) a []).2.2.drop n0)
def mOwn (B : List UInt8) (a : Nat) : Own3 :=
  if B.length < a + 14 then (3, a, [], [])
  else if 286 < 257 + nm B a 5 ∨ 30 < 1 + nm B (a + 5) 5 then (2, a, [], [])
  else if B.length < a + 14 + 3 * (4 + nm B (a + 10) 4) then (3, a, [], [])
  else mOwn2 B (257 + nm B a 5) (1 + nm B (a + 5) 5) (firsts B (a + 14) (4 + nm B (a + 10) 4)) (a + 14 + 3 * (4 + nm B (a + 10) 4))

/-- The lengths of kind 1. -/
def fixA : List Nat := List.replicate 144 8 ++ List.replicate 112 9 ++ List.replicate 24 7 ++ List.replicate 8 8
def fixB : List Nat := List.replicate 32 5
/-- What stands behind a block's head. -/
def mBlock (B : List UInt8) (most : Int) (kind a : Nat) (out : List UInt8) : Ans :=
  if kind = 0 then mStored B most a out
  else if kind = 1 then mCoded B fixA fixB most (B.length + 1) a out
  else if kind = 2 then (if (mOwn B a).1 ≠ 0 then ((mOwn B a).1, a, out) else mCoded B (mOwn B a).2.2.1 (mOwn B a).2.2.2 most (B.length + 1) (mOwn B a).2.1 out)
  else (2, a, out)
/-- Blocks up to the last one; f bounds how many. -/
def mStr (B : List UInt8) (most : Int) : Nat → Nat → List UInt8 → List Nat → Nat × Nat × List UInt8 × List Nat
  | 0, a, out, ks => (3, a, out, ks)
  | f + 1, a, out, ks =>
    if B.length < a + 3 then (3, a, out, ks)
    else if (mBlock B most (nm B (a + 1) 2) (a + 3) out).1 ≠ 0 then ((mBlock B most (nm B (a + 1) 2) (a + 3) out).1, a, out, ks)
    else if nm B a 1 = 1 then (0, (mBlock B most (nm B (a + 1) 2) (a + 3) out).2.1, (mBlock B most (nm B (a + 1) 2) (a + 3) out).2.2, ks ++ [nm B (a + 1) 2])
    else mStr B most f (mBlock B most (nm B (a + 1) 2) (a + 3) out).2.1 (mBlock B most (nm B (a + 1) 2) (a + 3) out).2.2 (ks ++ [nm B (a + 1) 2])
def mStream (B : List UInt8) (most : Int) : Nat × Nat × List UInt8 × List Nat := mStr B most (B.length + 1) 0 [] []
end Go.Proofs.YtackcgiokkbhdaaDoor
