/- Layer 7 in plain words: tokens, what they say, and the rows of symbols. -/
namespace Go.Proofs.YtackcgiokkbhdaaDoor

/-- A token: its byte, its length, how far back. -/
structure Tk where
  b : UInt8
  n : Int
  k : Int

def isLen (x : Int) : Bool := decide (3 ≤ x) && decide (x ≤ 258)
def isDist (x : Int) : Bool := decide (1 ≤ x) && decide (x ≤ 32768)
def mayB (t : Tk) : Bool := if t.n = 0 then decide (t.k = 0) else isLen t.n && isDist t.k && decide (t.b.toNat = 0)

/-- n times the byte that stands k bytes ahead. -/
def copyF (k : Nat) : Nat → List UInt8 → List UInt8
  | 0, l => l
  | n + 1, l => copyF k n (l ++ [l.getD (l.length - k) 0])
def layF (t : Tk) (l : List UInt8) : List UInt8 := if t.n = 0 then l ++ [t.b] else copyF t.k.toNat t.n.toNat l
/-- How many bytes it says. -/
def sayN (t : Tk) : Int := if t.n = 0 then 1 else t.n
def expandF (most : Int) : List Tk → List UInt8 → List UInt8 × Int
  | [], l => (l, 0)
  | t :: r, l => if mayB t = false then ([], 1) else if (l.length : Int) < t.k then ([], 2) else if most < l.length + sayN t then ([], 7) else expandF most r (layF t l)

theorem copyF_snoc (k : Nat) : ∀ (n : Nat) (l : List UInt8), copyF k (n + 1) l = copyF k n l ++ [(copyF k n l).getD ((copyF k n l).length - k) 0]
  | 0, _ => rfl
  | n + 1, l => by
    rw [copyF, copyF_snoc k n]
    rfl
theorem copyF_length (k : Nat) : ∀ (n : Nat) (l : List UInt8), (copyF k n l).length = l.length + n
  | 0, _ => rfl
  | n + 1, l => by
    rw [copyF, copyF_length k n]
    simp
    omega
theorem may_cases (t : Tk) (h : mayB t = true) : (t.n = 0 ∧ t.k = 0) ∨ (3 ≤ t.n ∧ t.n ≤ 258 ∧ 1 ≤ t.k ∧ t.k ≤ 32768) := by
  unfold mayB at h
  split at h
  · rename_i e
    exact .inl ⟨e, by simpa using h⟩
  · simp [isLen, isDist] at h
    exact .inr ⟨h.1.1.1, h.1.1.2, h.1.2.1, h.1.2.2⟩
theorem lay_length (t : Tk) (l : List UInt8) (h : mayB t = true) : ((layF t l).length : Int) = l.length + sayN t := by
  unfold layF sayN
  rcases may_cases t h with ⟨h1, _⟩ | ⟨h1, h2, _, _⟩
  · simp [h1]
  · have : ¬ t.n = 0 := by omega
    rw [if_neg this, if_neg this, copyF_length]
    omega
theorem say_le (t : Tk) (h : mayB t = true) : 1 ≤ sayN t ∧ sayN t ≤ 258 := by
  unfold sayN
  rcases may_cases t h with ⟨h1, _⟩ | ⟨h1, h2, _, _⟩
  · simp [h1]
  · have : ¬ t.n = 0 := by omega
    rw [if_neg this]
    omega

/-- The rows of lengths and of distances, by their places: how many bits, the first number. -/
def lb (s : Nat) : Nat := if s < 8 then 0 else (s - 4) / 4
def lf : Nat → Nat
  | 0 => 3
  | s + 1 => lf s + 2 ^ lb s
def db (s : Nat) : Nat := if s < 4 then 0 else (s - 2) / 2
def df : Nat → Nat
  | 0 => 1
  | s + 1 => df s + 2 ^ db s
structure Sy where
  s : Nat
  f : Nat
  b : Nat
def lrow (i : Nat) : Sy := ⟨257 + i, lf i, lb i⟩
def drow (i : Nat) : Sy := ⟨i, df i, db i⟩
def lrows : List Sy := (List.range 28).map lrow ++ [⟨285, 258, 0⟩]
def drows : List Sy := (List.range 30).map drow
end Go.Proofs.YtackcgiokkbhdaaDoor
