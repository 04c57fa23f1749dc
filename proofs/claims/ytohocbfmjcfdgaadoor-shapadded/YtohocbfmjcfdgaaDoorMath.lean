/- SHA-256 by numbers: what the program's and the document's words of layer 4 both come to. No program is spoken of here. -/
import Derived.WalkKit
import Derived.Laws.BitsAllLaws
namespace Go.Proofs.YtohocbfmjcfdgaaDoor

/-- Turned right by n. -/
def rot (n x : Nat) : Nat := x / 2 ^ n ||| x * 2 ^ (32 - n) % 4294967296
def big0 (x : Nat) : Nat := rot 2 x ^^^ rot 13 x ^^^ rot 22 x
def big1 (x : Nat) : Nat := rot 6 x ^^^ rot 11 x ^^^ rot 25 x
def small0 (x : Nat) : Nat := rot 7 x ^^^ rot 18 x ^^^ x / 2 ^ 3
def small1 (x : Nat) : Nat := rot 17 x ^^^ rot 19 x ^^^ x / 2 ^ 10
def choose (e f g : Nat) : Nat := (e &&& f) ^^^ ((4294967295 - e) &&& g)
def most (a b c : Nat) : Nat := (a &&& b) ^^^ (a &&& c) ^^^ (b &&& c)

theorem rot_lt {n x : Nat} (h : x < 4294967296) : rot n x < 4294967296 := by
  unfold rot
  exact Nat.or_lt_two_pow (n := 32) (Nat.lt_of_le_of_lt (Nat.div_le_self _ _) h) (Nat.mod_lt _ (by decide))
theorem xor_lt {x y : Nat} (hx : x < 4294967296) (hy : y < 4294967296) : x ^^^ y < 4294967296 := Nat.xor_lt_two_pow (n := 32) hx hy
theorem and_lt {x y : Nat} (hy : y < 4294967296) : x &&& y < 4294967296 := Nat.lt_of_le_of_lt Nat.and_le_right hy
theorem big0_lt {x : Nat} (h : x < 4294967296) : big0 x < 4294967296 := xor_lt (xor_lt (rot_lt h) (rot_lt h)) (rot_lt h)
theorem big1_lt {x : Nat} (h : x < 4294967296) : big1 x < 4294967296 := xor_lt (xor_lt (rot_lt h) (rot_lt h)) (rot_lt h)
theorem div_lt {n x : Nat} (h : x < 4294967296) : x / 2 ^ n < 4294967296 := Nat.lt_of_le_of_lt (Nat.div_le_self _ _) h
theorem small0_lt {x : Nat} (h : x < 4294967296) : small0 x < 4294967296 := xor_lt (xor_lt (rot_lt h) (rot_lt h)) (div_lt h)
theorem small1_lt {x : Nat} (h : x < 4294967296) : small1 x < 4294967296 := xor_lt (xor_lt (rot_lt h) (rot_lt h)) (div_lt h)
theorem choose_lt {e f g : Nat} (hf : f < 4294967296) (hg : g < 4294967296) : choose e f g < 4294967296 := xor_lt (and_lt hf) (and_lt hg)
theorem most_lt {a b c : Nat} (hb : b < 4294967296) (hc : c < 4294967296) : most a b c < 4294967296 := xor_lt (xor_lt (and_lt hb) (and_lt hc)) (and_lt hc)

/-- All bits of a number of 32 turned. -/
theorem not_nat (e : Nat) (h : e < 4294967296) : 4294967295 ^^^ e = 4294967295 - e := by
  apply Nat.eq_of_testBit_eq
  intro i
  have h2 := Nat.testBit_two_pow_sub_succ (n := 32) h i
  have h3 := Nat.testBit_two_pow_sub_one 32 i
  rw [show (4294967295 : Nat) - e = 2 ^ 32 - (e + 1) from by omega, h2, Nat.testBit_xor, show (4294967295 : Nat) = 2 ^ 32 - 1 from rfl, h3]
  by_cases hi : i < 32
  · simp [hi]
  · have : e.testBit i = false := Nat.testBit_lt_two_pow (Nat.lt_of_lt_of_le h (Nat.pow_le_pow_right (n := 2) (by omega) (by omega : 32 ≤ i)))
    simp [hi, this]

/-- The eight numbers. -/
structure St where
  a : Nat
  b : Nat
  c : Nat
  d : Nat
  e : Nat
  f : Nat
  g : Nat
  h : Nat
structure St.Ok (s : St) : Prop where
  a : s.a < 4294967296
  b : s.b < 4294967296
  c : s.c < 4294967296
  d : s.d < 4294967296
  e : s.e < 4294967296
  f : s.f < 4294967296
  g : s.g < 4294967296
  h : s.h < 4294967296
def St.list (s : St) : List Nat := [s.a, s.b, s.c, s.d, s.e, s.f, s.g, s.h]

def temp (s : St) (k w : Nat) : Nat := (s.h + big1 s.e + choose s.e s.f s.g + k + w) % 4294967296
def temp2 (s : St) : Nat := (big0 s.a + most s.a s.b s.c) % 4294967296
def round (s : St) (k w : Nat) : St := ⟨(temp s k w + temp2 s) % 4294967296, s.a, s.b, s.c, (s.d + temp s k w) % 4294967296, s.e, s.f, s.g⟩
def consts : List Nat := [0x428a2f98, 0x71374491, 0xb5c0fbcf, 0xe9b5dba5, 0x3956c25b, 0x59f111f1, 0x923f82a4, 0xab1c5ed5,
  0xd807aa98, 0x12835b01, 0x243185be, 0x550c7dc3, 0x72be5d74, 0x80deb1fe, 0x9bdc06a7, 0xc19bf174,
  0xe49b69c1, 0xefbe4786, 0x0fc19dc6, 0x240ca1cc, 0x2de92c6f, 0x4a7484aa, 0x5cb0a9dc, 0x76f988da,
  0x983e5152, 0xa831c66d, 0xb00327c8, 0xbf597fc7, 0xc6e00bf3, 0xd5a79147, 0x06ca6351, 0x14292967,
  0x27b70a85, 0x2e1b2138, 0x4d2c6dfc, 0x53380d13, 0x650a7354, 0x766a0abb, 0x81c2c92e, 0x92722c85,
  0xa2bfe8a1, 0xa81a664b, 0xc24b8b70, 0xc76c51a3, 0xd192e819, 0xd6990624, 0xf40e3585, 0x106aa070,
  0x19a4c116, 0x1e376c08, 0x2748774c, 0x34b0bcb5, 0x391c0cb3, 0x4ed8aa4a, 0x5b9cca4f, 0x682e6ff3,
  0x748f82ee, 0x78a5636f, 0x84c87814, 0x8cc70208, 0x90befffa, 0xa4506ceb, 0xbef9a3f7, 0xc67178f2]
def first : St := ⟨0x6a09e667, 0xbb67ae85, 0x3c6ef372, 0xa54ff53a, 0x510e527f, 0x9b05688c, 0x1f83d9ab, 0x5be0cd19⟩
theorem first_ok : first.Ok := ⟨by decide, by decide, by decide, by decide, by decide, by decide, by decide, by decide⟩
theorem consts_length : consts.length = 64 := rfl
theorem consts_lt (i : Nat) : consts.getD i 0 < 4294967296 := by
  have h : ∀ x ∈ consts, x < 4294967296 := by decide
  rw [List.getD_eq_getElem?_getD]
  rcases Nat.lt_or_ge i consts.length with hi | hi
  · rw [List.getElem?_eq_getElem hi]
    exact h _ (List.getElem_mem hi)
  · rw [List.getElem?_eq_none hi]
    decide
theorem round_ok {s : St} (h : s.Ok) (k w : Nat) : (round s k w).Ok := ⟨Nat.mod_lt _ (by decide), h.a, h.b, h.c, Nat.mod_lt _ (by decide), h.e, h.f, h.g⟩

/-- The first n words of a block. -/
def byteAt (b : List UInt8) (i : Nat) : Nat := (b.getD i 0).toNat
theorem byteAt_lt (b : List UInt8) (i : Nat) : byteAt b i < 256 := UInt8.toNat_lt _
def given (b : List UInt8) (i : Nat) : Nat := byteAt b (4 * i) * 16777216 + byteAt b (4 * i + 1) * 65536 + byteAt b (4 * i + 2) * 256 + byteAt b (4 * i + 3)
theorem given_lt (b : List UInt8) (i : Nat) : given b i < 4294967296 := by
  have h0 := byteAt_lt b (4 * i)
  have h1 := byteAt_lt b (4 * i + 1)
  have h2 := byteAt_lt b (4 * i + 2)
  have h3 := byteAt_lt b (4 * i + 3)
  unfold given
  omega
def next (l : List Nat) (i : Nat) : Nat := (l.getD (i - 16) 0 + l.getD (i - 7) 0 + small0 (l.getD (i - 15) 0) + small1 (l.getD (i - 2) 0)) % 4294967296
def wds (b : List UInt8) : Nat → List Nat
  | 0 => []
  | i + 1 => wds b i ++ [if i < 16 then given b i else next (wds b i) i]
theorem wds_length (b : List UInt8) : ∀ n, (wds b n).length = n
  | 0 => rfl
  | n + 1 => by simp [wds, wds_length b n]
theorem wds_lt (b : List UInt8) : ∀ n, ∀ x ∈ wds b n, x < 4294967296
  | 0 => by simp [wds]
  | n + 1 => by
    intro x hx
    simp only [wds, List.mem_append, List.mem_singleton] at hx
    rcases hx with hx | rfl
    · exact wds_lt b n x hx
    · split
      · exact given_lt b n
      · exact Nat.mod_lt _ (by decide)
theorem wds_at_lt (b : List UInt8) (n i : Nat) : (wds b n).getD i 0 < 4294967296 := by
  rw [List.getD_eq_getElem?_getD]
  rcases Nat.lt_or_ge i (wds b n).length with hi | hi
  · rw [List.getElem?_eq_getElem hi]
    exact wds_lt b n _ (List.getElem_mem hi)
  · rw [List.getElem?_eq_none hi]
    decide

/-- n rounds. -/
def rounds (ws : List Nat) (s : St) : Nat → St
  | 0 => s
  | n + 1 => round (rounds ws s n) (consts.getD n 0) (ws.getD n 0)
theorem rounds_ok {s : St} (ws : List Nat) (h : s.Ok) : ∀ n, (rounds ws s n).Ok
  | 0 => h
  | n + 1 => round_ok (rounds_ok ws h n) _ _
def St.plus (s t : St) : St := ⟨(s.a + t.a) % 4294967296, (s.b + t.b) % 4294967296, (s.c + t.c) % 4294967296, (s.d + t.d) % 4294967296, (s.e + t.e) % 4294967296, (s.f + t.f) % 4294967296, (s.g + t.g) % 4294967296, (s.h + t.h) % 4294967296⟩
theorem plus_ok (s t : St) : (s.plus t).Ok := ⟨Nat.mod_lt _ (by decide), Nat.mod_lt _ (by decide), Nat.mod_lt _ (by decide), Nat.mod_lt _ (by decide), Nat.mod_lt _ (by decide), Nat.mod_lt _ (by decide), Nat.mod_lt _ (by decide), Nat.mod_lt _ (by decide)⟩
/-- One more block. -/
def block (s : St) (b : List UInt8) : St := s.plus (rounds (wds b 64) s 64)
/-- Block i of bytes. -/
def part (p : List UInt8) (i : Nat) : List UInt8 := (p.drop (64 * i)).take 64
def blocks (p : List UInt8) (s : St) : Nat → St
  | 0 => s
  | n + 1 => block (blocks p s n) (part p n)
theorem blocks_ok (p : List UInt8) {s : St} (h : s.Ok) : ∀ n, (blocks p s n).Ok
  | 0 => h
  | _ + 1 => plus_ok _ _

/-- How many bits, the highest byte first. -/
def count (n : Nat) : List UInt8 := [UInt8.ofNat (n / 2 ^ 56), UInt8.ofNat (n / 2 ^ 48), UInt8.ofNat (n / 2 ^ 40), UInt8.ofNat (n / 2 ^ 32), UInt8.ofNat (n / 2 ^ 24), UInt8.ofNat (n / 2 ^ 16), UInt8.ofNat (n / 2 ^ 8), UInt8.ofNat n]
def fill (n : Nat) : Nat := (119 - n % 64) % 64
def behind (n all : Nat) : List UInt8 := 128 :: List.replicate (fill n) 0 ++ count (8 * all)
def pad (l : List UInt8) : List UInt8 := l ++ behind l.length l.length
theorem behind_length (n all : Nat) : (behind n all).length = 9 + fill n := by
  simp [behind, count]
  omega
theorem pad_length (l : List UInt8) : (pad l).length % 64 = 0 ∧ (pad l).length = 64 * ((pad l).length / 64) := by
  have h : (pad l).length = l.length + (9 + fill l.length) := by rw [pad, List.length_append, behind_length]
  unfold fill at h
  omega
def keyOf (l : List UInt8) : St := blocks (pad l) first ((pad l).length / 64)
theorem keyOf_ok (l : List UInt8) : (keyOf l).Ok := blocks_ok _ first_ok _

def four (x : Nat) : List UInt8 := [UInt8.ofNat (x / 2 ^ 24), UInt8.ofNat (x / 2 ^ 16), UInt8.ofNat (x / 2 ^ 8), UInt8.ofNat x]
def told (l : List Nat) : List UInt8 := l.flatMap four
def sha (l : List UInt8) : List UInt8 := told (keyOf l).list
def digit (n : Nat) : UInt8 := if n < 10 then UInt8.ofNat (48 + n) else UInt8.ofNat (87 + n)
def hexOf (l : List UInt8) : List UInt8 := l.flatMap fun b => [digit (b.toNat / 16), digit (b.toNat % 16)]
def shortOf (l : List UInt8) : Nat := (keyOf l).a * 4294967296 + (keyOf l).b

theorem none_hex : hexOf (sha []) = [101, 51, 98, 48, 99, 52, 52, 50, 57, 56, 102, 99, 49, 99, 49, 52, 57, 97, 102, 98, 102, 52, 99, 56, 57, 57, 54, 102, 98, 57, 50, 52, 50, 55, 97, 101, 52, 49, 101, 52, 54, 52, 57, 98, 57, 51, 52, 99, 97, 52, 57, 53, 57, 57, 49, 98, 55, 56, 53, 50, 98, 56, 53, 53] := by kernel_rfl
theorem none_short : shortOf [] = 16406829232824261652 := by kernel_rfl
end Go.Proofs.YtohocbfmjcfdgaaDoor
