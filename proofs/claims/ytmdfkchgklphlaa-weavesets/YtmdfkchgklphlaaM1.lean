/- Layers 1 and 8: numbers of bytes and bits; words on memory, over any program. -/
import Derived.WalkKit
import Derived.WalkSpells
import Derived.Lib.Hide
import Derived.Deep.AppendSrc
import Derived.Deep.Draws
import Derived.Deep.AppendLies
import Derived.Maps.AppendAt
/- Plain arithmetic of layer 1: bytes and bits as numbers, the lowest first. No Go in sight. -/
namespace Go.Proofs.Ytmdfkchgklphlaa

/-- The number of bytes, the lowest first. -/
def le : List UInt8 → Nat
  | [] => 0
  | b :: r => b.toNat + 256 * le r

/-- The number of bits (0 or 1 each), the lowest first. -/
def le2 : List UInt8 → Nat
  | [] => 0
  | b :: r => b.toNat + 2 * le2 r

theorem le_append : ∀ a b : List UInt8, le (a ++ b) = le a + 256 ^ a.length * le b
  | [], b => by simp [le]
  | x :: a, b => by
    simp only [List.cons_append, le, le_append a b, List.length_cons, Nat.pow_succ]
    rw [Nat.mul_add, ← Nat.add_assoc, ← Nat.mul_assoc, Nat.mul_comm (256 ^ a.length) 256]
theorem le_lt : ∀ a : List UInt8, le a < 256 ^ a.length
  | [] => by simp [le]
  | x :: a => by
    have h := le_lt a
    have hx : x.toNat < 256 := x.toNat_lt
    simp only [le, List.length_cons, Nat.pow_succ]
    have : x.toNat + 256 * le a < 256 * (le a + 1) := by omega
    have : 256 * (le a + 1) ≤ 256 * 256 ^ a.length := Nat.mul_le_mul_left _ h
    rw [Nat.mul_comm (256 ^ a.length) 256]
    omega
theorem le_inj : ∀ a b : List UInt8, a.length = b.length → le a = le b → a = b
  | [], [], _, _ => rfl
  | [], _ :: _, h, _ => by simp at h
  | _ :: _, [], h, _ => by simp at h
  | x :: a, y :: b, h, e => by
    have hx : x.toNat < 256 := x.toNat_lt
    have hy : y.toNat < 256 := y.toNat_lt
    simp only [le] at e
    have h1 : x.toNat = y.toNat := by omega
    have h2 : le a = le b := by omega
    rw [le_inj a b (by simpa using h) h2, UInt8.toNat_inj.1 h1]
/-- The bytes from place i on. -/
theorem le_drop (l : List UInt8) (i : Nat) (h : i ≤ l.length) : le (l.drop i) = le l / 256 ^ i := by
  have e := le_append (l.take i) (l.drop i)
  rw [List.take_append_drop] at e
  have hl : (l.take i).length = i := by simp [h]
  have hlt := le_lt (l.take i)
  rw [hl] at e hlt
  rw [e, Nat.add_mul_div_left _ _ (Nat.pow_pos (by decide)), Nat.div_eq_of_lt hlt, Nat.zero_add]
theorem le_take (l : List UInt8) (i : Nat) : le (l.take i) = le l % 256 ^ i := by
  rcases Nat.le_total i l.length with h | h
  · have e := le_append (l.take i) (l.drop i)
    rw [List.take_append_drop] at e
    have hl : (l.take i).length = i := by simp [h]
    have hlt := le_lt (l.take i)
    rw [hl] at e hlt
    rw [e, Nat.add_mul_mod_self_left, Nat.mod_eq_of_lt hlt]
  · rw [List.take_of_length_le h, Nat.mod_eq_of_lt]
    exact Nat.lt_of_lt_of_le (le_lt l) (Nat.pow_le_pow_right (by decide) h)
/-- One byte more. -/
theorem le_take_succ (l : List UInt8) (k : Nat) (h : k < l.length) : le (l.take (k + 1)) = le (l.take k) + 256 ^ k * (l[k]?.getD 0).toNat := by
  rw [List.take_add_one, le_append, List.length_take, Nat.min_eq_left (by omega)]
  simp [h, le]
theorem pow256 (k : Nat) : 256 ^ k = 2 ^ (8 * k) := by rw [Nat.pow_mul]

theorem or_add (a b i : Nat) (h : a < 2 ^ i) : a ||| 2 ^ i * b = a + 2 ^ i * b := by
  rw [Nat.or_comm, ← Nat.two_pow_add_eq_or_of_lt h, Nat.add_comm]
theorem and_low (a n : Nat) : a &&& (2 ^ n - 1) = a % 2 ^ n := Nat.and_two_pow_sub_one_eq_mod a n

theorem mod_div_mod (x m s n : Nat) (h : s + n ≤ m) : x % 2 ^ m / 2 ^ s % 2 ^ n = x / 2 ^ s % 2 ^ n := by
  rw [show m = s + (m - s) from by omega, Nat.pow_add, Nat.mod_mul_right_div_self, Nat.mod_mod_of_dvd]
  exact Nat.pow_dvd_pow 2 (by omega)

/-- n bits at place a, out of the bytes that hold them. -/
theorem bits_of_bytes (l : List UInt8) (a n k : Nat) (hk : a % 8 + n ≤ 8 * k) : le ((l.drop (a / 8)).take k) / 2 ^ (a % 8) % 2 ^ n = le l / 2 ^ a % 2 ^ n := by
  rw [le_take]
  rcases Nat.le_total (a / 8) l.length with h | h
  · rw [le_drop l _ h, pow256, pow256, mod_div_mod _ _ _ _ hk]
    rw [Nat.div_div_eq_div_mul, ← Nat.pow_add, show 8 * (a / 8) + a % 8 = a from by omega]
  · rw [List.drop_of_length_le h]
    have h1 : le l < 2 ^ a := Nat.lt_of_lt_of_le (le_lt l) (by rw [pow256]; exact Nat.pow_le_pow_right (by decide) (by omega))
    rw [Nat.div_eq_of_lt h1]
    simp [le]

/-- Nothing is left over once the bytes hold all bits. -/
theorem none_left (a r T n K : Nat) (h : a + 256 ^ n * r = T) (hT : T < 2 ^ K) (hn : K ≤ 8 * n) : r = 0 ∧ a = T := by
  have hp : 2 ^ K ≤ 256 ^ n := by rw [pow256]; exact Nat.pow_le_pow_right (by decide) hn
  rcases Nat.eq_zero_or_pos r with h0 | h0
  · subst h0; simp at h; exact ⟨rfl, h⟩
  · have : 256 ^ n * 1 ≤ 256 ^ n * r := Nat.mul_le_mul_left _ h0
    omega
/-- What is put fits behind what is there. -/
theorem put_lt (a x k M : Nat) (ha : a < 2 ^ k) (hx : x < 2 ^ M) : a + x * 2 ^ k < 2 ^ (k + M) := by
  have : (x + 1) * 2 ^ k ≤ 2 ^ M * 2 ^ k := Nat.mul_le_mul_right _ hx
  rw [Nat.add_mul, Nat.one_mul] at this
  rw [Nat.pow_add, Nat.mul_comm (2 ^ k)]
  omega
/-- One byte is taken off what is left over. -/
theorem put_step (l : List UInt8) (n r T : Nat) (hl : l.length = n) (h : le l + 256 ^ n * r = T) : le (l ++ [UInt8.ofNat r]) + 256 ^ (n + 1) * (r / 256) = T := by
  rw [le_append, hl, ← h, Nat.pow_succ, Nat.mul_assoc, Nat.add_assoc, ← Nat.mul_add]
  simp only [le, UInt8.toNat_ofNat', Nat.mul_zero, Nat.add_zero]
  rw [show r % 2 ^ 8 + 256 * (r / 256) = r from by omega]
/-- The byte that has begun takes its part. -/
theorem put_last (l : List UInt8) (n u k x : Nat) (hl : l.length = n + 1) (hk : k = 8 * n + u) (hlt : le l < 2 ^ k) :
    ∃ c : UInt8, l[n]? = some c ∧ c.toNat < 2 ^ u ∧ ∀ d : UInt8, d.toNat = c.toNat + x * 2 ^ u % 256 → le (l.set n d) + 256 ^ (n + 1) * (x * 2 ^ u / 256) = le l + x * 2 ^ k := by
  obtain ⟨init, c, rfl⟩ : ∃ init c, l = init ++ [c] := ⟨l.dropLast, l.getLast (by intro e; simp [e] at hl), (List.dropLast_concat_getLast _).symm⟩
  have hi : init.length = n := by simpa using hl
  subst hi
  have e1 : le (init ++ [c]) = le init + 256 ^ init.length * c.toNat := by rw [le_append]; simp [le]
  refine ⟨c, by simp, ?_, ?_⟩
  · rw [e1, hk, Nat.pow_add, ← pow256] at hlt
    have : 256 ^ init.length * c.toNat < 256 ^ init.length * 2 ^ u := by omega
    exact Nat.lt_of_mul_lt_mul_left this
  · intro d hd
    have e2 : (init ++ [c]).set init.length d = init ++ [d] := by simp
    rw [e2, e1, le_append, hk, Nat.pow_add 2, ← pow256, Nat.pow_succ]
    simp only [le, Nat.mul_zero, Nat.add_zero, hd]
    rw [show x * (256 ^ init.length * 2 ^ u) = 256 ^ init.length * (x * 2 ^ u) from by rw [← Nat.mul_assoc, Nat.mul_comm x, Nat.mul_assoc]]
    generalize x * 2 ^ u = y
    rw [Nat.mul_assoc, Nat.add_assoc, Nat.add_assoc, ← Nat.mul_add, ← Nat.mul_add]
    congr 2
    omega
end Go.Proofs.Ytmdfkchgklphlaa

/- Plain arithmetic of the document's answer for layer 1: lists of bits. No Go in sight. -/
namespace Go.Proofs.Ytmdfkchgklphlaa

/-- All are 0 or 1. -/
def Bits (l : List UInt8) : Prop := ∀ x ∈ l, x.toNat < 2

/-- The lowest k bits of a number. -/
def nb (x k : Nat) : List UInt8 := (List.range k).map fun j => UInt8.ofNat (x / 2 ^ j % 2)
/-- The bits of bytes. -/
def bitsOf (s : List UInt8) : List UInt8 := s.flatMap fun c => nb c.toNat 8

theorem nb_length (x k : Nat) : (nb x k).length = k := by simp [nb]
theorem nb_succ (x k : Nat) : nb x (k + 1) = nb x k ++ [UInt8.ofNat (x / 2 ^ k % 2)] := by simp [nb, List.range_succ]
theorem nb_bits (x k : Nat) : Bits (nb x k) := by
  intro y hy
  obtain ⟨j, _, rfl⟩ := List.mem_map.1 hy
  rw [UInt8.toNat_ofNat']
  omega
theorem le2_append : ∀ a b : List UInt8, le2 (a ++ b) = le2 a + 2 ^ a.length * le2 b
  | [], b => by simp [le2]
  | x :: a, b => by
    simp only [List.cons_append, le2, le2_append a b, List.length_cons, Nat.pow_succ]
    rw [Nat.mul_add, ← Nat.add_assoc, ← Nat.mul_assoc, Nat.mul_comm (2 ^ a.length) 2]
theorem le2_lt : ∀ a : List UInt8, Bits a → le2 a < 2 ^ a.length
  | [], _ => by simp [le2]
  | x :: a, h => by
    have h1 := le2_lt a fun y hy => h y (List.mem_cons_of_mem _ hy)
    have hx : x.toNat < 2 := h x List.mem_cons_self
    simp only [le2, List.length_cons, Nat.pow_succ]
    omega
theorem le2_nb (x k : Nat) : le2 (nb x k) = x % 2 ^ k := by
  induction k with
  | zero => simp [nb, le2, Nat.mod_one]
  | succ k ih =>
    have h2 : x / 2 ^ k % 2 < 2 := Nat.mod_lt _ (by decide)
    rw [nb_succ, le2_append, ih, nb_length, Nat.pow_succ, Nat.mod_mul]
    simp only [le2, UInt8.toNat_ofNat', Nat.mul_zero, Nat.add_zero]
    rw [Nat.mod_eq_of_lt (show x / 2 ^ k % 2 < 2 ^ 8 by omega)]
theorem bits_append {a b : List UInt8} (ha : Bits a) (hb : Bits b) : Bits (a ++ b) := by
  intro x hx
  rcases List.mem_append.1 hx with h | h
  · exact ha x h
  · exact hb x h
theorem bits_zeros (n : Nat) : Bits (List.replicate n 0) := by
  intro x hx
  obtain ⟨_, rfl⟩ := List.mem_replicate.1 hx
  decide
theorem le2_zeros (n : Nat) : le2 (List.replicate n 0) = 0 := by
  induction n with
  | zero => rfl
  | succ n ih => simp [List.replicate_succ, le2, ih]
theorem bitsOf_bits (s : List UInt8) : Bits (bitsOf s) := by
  intro x hx
  obtain ⟨c, _, hc⟩ := List.mem_flatMap.1 hx
  exact nb_bits _ _ x hc
theorem bitsOf_length (s : List UInt8) : (bitsOf s).length = 8 * s.length := by
  induction s with
  | nil => rfl
  | cons c s ih =>
    have : bitsOf (c :: s) = nb c.toNat 8 ++ bitsOf s := rfl
    rw [this, List.length_append, nb_length, ih, List.length_cons]
    omega
theorem le2_bitsOf (s : List UInt8) : le2 (bitsOf s) = le s := by
  induction s with
  | nil => rfl
  | cons c s ih =>
    have hc : c.toNat < 256 := c.toNat_lt
    have : bitsOf (c :: s) = nb c.toNat 8 ++ bitsOf s := rfl
    rw [this, le2_append, nb_length, ih, le2_nb, le]
    omega
theorem bitsOf_snoc (s : List UInt8) (i : Nat) (c : UInt8) (h : s[i]? = some c) : bitsOf (s.take (i + 1)) = bitsOf (s.take i) ++ nb c.toNat 8 := by
  rw [List.take_add_one, h]
  simp [bitsOf]
theorem bits_take {l : List UInt8} (h : Bits l) (n : Nat) : Bits (l.take n) := fun x hx => h x (List.mem_of_mem_take hx)
theorem bits_drop {l : List UInt8} (h : Bits l) (n : Nat) : Bits (l.drop n) := fun x hx => h x (List.mem_of_mem_drop hx)
theorem le2_take (l : List UInt8) (i : Nat) (h : Bits l) : le2 (l.take i) = le2 l % 2 ^ i := by
  rcases Nat.le_total i l.length with hi | hi
  · have e := le2_append (l.take i) (l.drop i)
    rw [List.take_append_drop] at e
    have hl : (l.take i).length = i := by simp [hi]
    have hlt := le2_lt _ (bits_take h i)
    rw [hl] at e hlt
    rw [e, Nat.add_mul_mod_self_left, Nat.mod_eq_of_lt hlt]
  · rw [List.take_of_length_le hi, Nat.mod_eq_of_lt]
    exact Nat.lt_of_lt_of_le (le2_lt l h) (Nat.pow_le_pow_right (by decide) hi)
theorem le2_drop (l : List UInt8) (i : Nat) (h : Bits l) (hi : i ≤ l.length) : le2 (l.drop i) = le2 l / 2 ^ i := by
  have e := le2_append (l.take i) (l.drop i)
  rw [List.take_append_drop] at e
  have hl : (l.take i).length = i := by simp [hi]
  have hlt := le2_lt _ (bits_take h i)
  rw [hl] at e hlt
  rw [e, Nat.add_mul_div_left _ _ (Nat.pow_pos (by decide)), Nat.div_eq_of_lt hlt, Nat.zero_add]
/-- One bit ahead. -/
theorem le2_step (l : List UInt8) (i m : Nat) : le2 ((l.drop i).take (m + 1)) = (l[i]?.getD 0).toNat + 2 * le2 ((l.drop (i + 1)).take m) := by
  rcases Nat.lt_or_ge i l.length with hi | hi
  · rw [List.drop_eq_getElem_cons hi, List.take_succ_cons, le2, List.getElem?_eq_getElem hi]
    rfl
  · rw [List.drop_of_length_le hi, List.drop_of_length_le (by omega)]
    simp [le2, hi]
/-- Eight bits more are a byte more. -/
theorem le2_byte (l : List UInt8) (i : Nat) (hi : i ≤ l.length) : le2 (l.take (i + 8)) = le2 (l.take i) + 2 ^ i * le2 ((l.drop i).take 8) := by
  rw [List.take_add, le2_append, List.length_take, Nat.min_eq_left hi]
theorem le2_eight (l : List UInt8) (h : Bits l) (i : Nat) : le2 ((l.drop i).take 8) < 256 := by
  refine Nat.lt_of_lt_of_le (le2_lt _ (bits_take (bits_drop h i) 8)) ?_
  exact Nat.pow_le_pow_right (n := 2) (j := 8) (by decide) (List.length_take_le _ _)
end Go.Proofs.Ytmdfkchgklphlaa

/- Words of this proof on memory, over any program: a block that is known whole, what a call may have changed, rows of cells, and append onto such a row. -/
namespace Go.Proofs.Ytmdfkchgklphlaa
open Go.RowKit

/-- Of what lies in w, w' has turned only blocks of S. -/
structure Only (S : Nat → Prop) (w w' : World) : Prop where
  os : w'.os = w.os
  tape : w'.tape = w.tape
  output : w'.output = w.output
  size : w.heap.size ≤ w'.heap.size
  block : ∀ k, k < w.heap.size → ¬ S k → w'.heap[k]? = w.heap[k]?

section
variable {S T : Nat → Prop} {a w w' : World}
theorem Only.refl (S : Nat → Prop) (w : World) : Only S w w := ⟨rfl, rfl, rfl, Nat.le_refl _, fun _ _ _ => rfl⟩
theorem Only.trans (h : Only S a w) (k : Only S w w') : Only S a w' :=
  ⟨k.os.trans h.os, k.tape.trans h.tape, k.output.trans h.output, Nat.le_trans h.size k.size,
    fun i hi hs => (k.block i (Nat.lt_of_lt_of_le hi h.size) hs).trans (h.block i hi hs)⟩
/-- The second step may turn blocks of T: each of S, or new since a. -/
theorem Only.andThen (h : Only S a w) (k : Only T w w') (hT : ∀ j, T j → S j ∨ a.heap.size ≤ j) : Only S a w' :=
  ⟨k.os.trans h.os, k.tape.trans h.tape, k.output.trans h.output, Nat.le_trans h.size k.size,
    fun i hi hs => (k.block i (Nat.lt_of_lt_of_le hi h.size) (fun t => (hT i t).elim hs (fun g => absurd hi (by omega)))).trans (h.block i hi hs)⟩
theorem Only.mono (h : Only S w w') (hT : ∀ j, S j → T j) : Only T w w' := ⟨h.os, h.tape, h.output, h.size, fun i hi hs => h.block i hi (fun s => hs (hT i s))⟩
theorem Only.drew (h : Only S a w) : Only S a w.drew := ⟨h.os, h.tape, h.output, h.size, h.block⟩
theorem Only.drewN (h : Only S a w) (n : Nat) : Only S a (w.drewN n) := ⟨h.os, h.tape, h.output, h.size, h.block⟩
theorem Only.alloc (h : Only S a w) (o : Obj) : Only S a (w.alloc o) :=
  h.trans ⟨rfl, rfl, rfl, by simp, fun _ hk _ => Below.heap_alloc _ _ _ hk⟩
theorem Only.set (h : Only S a w) {p : Addr} (hp : S p.block ∨ a.heap.size ≤ p.block) (u : Value) : Only S a (w.setCell p u) :=
  ⟨h.os, h.tape, h.output, by simpa [World.setCell] using h.size, fun k hk hs => (Below.heap_setCell _ _ _ _ (fun e => hp.elim (fun x => hs (by rw [e]; exact x)) (fun x => by omega))).trans (h.block k hk hs)⟩
theorem Only.grown {row : Option Nat} (h : Only S a w) (hg : w.grownBy w' row) (hr : ∀ k, row = some k → S k ∨ a.heap.size ≤ k) : Only S a w' :=
  ⟨hg.os.trans h.os, hg.tape.trans h.tape, hg.output.trans h.output, Nat.le_trans h.size hg.size,
    fun k hk hs => (hg.block k (Nat.lt_of_lt_of_le hk h.size) (fun e => (hr k e.symm).elim hs (fun x => by omega))).trans (h.block k hk hs)⟩
theorem Only.below (h : Only S w w') (B : Nat) (hB : B ≤ w.heap.size) (hS : ∀ k, k < B → ¬ S k) : Below B w w' :=
  ⟨h.os, h.tape, h.output, h.size, fun k hk => h.block k (by omega) (hS k hk)⟩
end

/-- Block g is the cells cs, none of them frozen. -/
def Is (w : World) (g : Nat) (t : TypeId) (cs : List Value) : Prop := w.heap[g]? = some (.cells cs.toArray t (0, 0))

section
variable {S : Nat → Prop} {w w' : World} {g : Nat} {t : TypeId} {cs : List Value}
theorem Is.lt (h : Is w g t cs) : g < w.heap.size := by
  rcases Nat.lt_or_ge g w.heap.size with hlt | hge
  · exact hlt
  · unfold Is at h; rw [Array.getElem?_eq_none hge] at h; cases h
theorem Is.cell (h : Is w g t cs) (i : Nat) {v : Value} (hi : cs[i]? = some v) : w.cell? ⟨g, i, none⟩ = some v := by
  unfold Is at h
  simp [World.cell?, h, hi]
theorem Is.frozen (h : Is w g t cs) (i : Nat) : w.frozen? ⟨g, i, none⟩ = false := by
  unfold Is at h
  simp [World.frozen?, h]
theorem Is.new (w : World) (t : TypeId) (cs : List Value) : Is (w.alloc (.cells cs.toArray t)) w.heap.size t cs := heap_alloc_new w _
theorem Is.drew (h : Is w g t cs) : Is w.drew g t cs := h
theorem Is.drewN (h : Is w g t cs) (n : Nat) : Is (w.drewN n) g t cs := h
theorem Is.alloc (h : Is w g t cs) (o : Obj) : Is (w.alloc o) g t cs := (Below.heap_alloc w o g h.lt).trans h
theorem Is.set (h : Is w g t cs) (i : Nat) (u : Value) : Is (w.setCell ⟨g, i, none⟩ u) g t (cs.set i u) := by
  unfold Is at h ⊢
  simp [World.setCell, Array.getElem?_modify, h]
theorem Is.far (h : Is w g t cs) {p : Addr} (hp : g ≠ p.block) (u : Value) : Is (w.setCell p u) g t cs := (Below.heap_setCell w p u g hp).trans h
theorem Is.only (h : Is w g t cs) (k : Only S w w') (hg : ¬ S g) : Is w' g t cs := (k.block g h.lt hg).trans h
end

/-- The slice 'A, n, c' is a row of the call's own: the cells vs; none of its places is frozen. -/
def Row (e : TypeId) (w : World) (A : Option Addr) (n c : Nat) (vs : List Value) : Prop := vs.length = n ∧ ((A = none ∧ n = 0 ∧ c = 0 ∧ vs = []) ∨
  ∃ g cur m, A = some ⟨g, 0, none⟩ ∧ w.heap[g]? = some (.cells cur e m) ∧ n ≤ c ∧ c ≤ maxLen ∧ cur.size = c ∧ cur.toList.take n = vs ∧ ∀ i, i < c → (decide (m.1 ≤ i) && decide (i < m.2)) = false)

/-- The block in which a slice lies. -/
def Lies (A : Option Addr) (j : Nat) : Prop := ∃ ad, A = some ad ∧ ad.block = j

section
variable {S : Nat → Prop} {e : TypeId} {w w' : World} {A : Option Addr} {n c : Nat} {vs : List Value}
theorem Row.nil (e : TypeId) (w : World) : Row e w none 0 0 [] := ⟨rfl, .inl ⟨rfl, rfl, rfl, rfl⟩⟩
theorem Row.len (h : Row e w A n c vs) : vs.length = n := h.1
theorem Row.of_is {g : Nat} (h : Is w g e vs) (hn : vs.length = n) (hm : n ≤ maxLen) : Row e w (some ⟨g, 0, none⟩) n n vs :=
  ⟨hn, .inr ⟨g, vs.toArray, (0, 0), rfl, h, Nat.le_refl _, hm, by simpa using hn, by simp [← hn], fun i _ => by simp⟩⟩
theorem block_lt {g : Nat} {o : Obj} (h : w.heap[g]? = some o) : g < w.heap.size := by
  rcases Nat.lt_or_ge g w.heap.size with hlt | hge
  · exact hlt
  · rw [Array.getElem?_eq_none hge] at h; cases h
theorem Row.only (h : Row e w A n c vs) (k : Only S w w') (hg : ∀ j, Lies A j → ¬ S j) : Row e w' A n c vs := by
  obtain ⟨h1, h4 | ⟨g, cur, m, rfl, h5, h6⟩⟩ := h
  · exact ⟨h1, .inl h4⟩
  · exact ⟨h1, .inr ⟨g, cur, m, rfl, (k.block g (block_lt h5) (hg g ⟨_, rfl, rfl⟩)).trans h5, h6⟩⟩
theorem Row.alloc (h : Row e w A n c vs) (o : Obj) : Row e (w.alloc o) A n c vs := h.only ((Only.refl (fun _ => False) w).alloc o) fun _ _ f => f
theorem Row.drew (h : Row e w A n c vs) : Row e w.drew A n c vs := h
theorem Row.drewN (h : Row e w A n c vs) (k : Nat) : Row e (w.drewN k) A n c vs := h
/-- One of its cells. -/
theorem Row.cell (h : Row e w A n c vs) {i : Nat} {v : Value} (hi : vs[i]? = some v) : ∃ g, A = some ⟨g, 0, none⟩ ∧ w.cell? ⟨g, i, none⟩ = some v ∧ w.frozen? ⟨g, i, none⟩ = false := by
  have hl : i < n := by
    rw [← h.1]
    rcases Nat.lt_or_ge i vs.length with hh | hh
    · exact hh
    · rw [List.getElem?_eq_none hh] at hi; cases hi
  obtain ⟨h1, ⟨_, h0, _⟩ | ⟨g, cur, m, rfl, h2, h3, h4, h5, h6, h7⟩⟩ := h
  · omega
  · have h8 := congrArg (·[i]?) h6
    simp only [List.getElem?_take, if_pos hl, hi] at h8
    exact ⟨g, rfl, by simpa [World.cell?, h2] using h8, by simpa [World.frozen?, h2] using h7 i (by omega)⟩
theorem Row.lies (h : Row e w A n c vs) : ∀ j, Lies A j → j < w.heap.size := by
  rintro j ⟨ad, rfl, rfl⟩
  obtain ⟨h1, ⟨h0, _⟩ | ⟨g, cur, m, h0, h2, _⟩⟩ := h
  · cases h0
  · obtain rfl := Option.some.inj h0
    exact block_lt h2
/-- A cell set. -/
theorem Row.set {g : Nat} (h : Row e w (some ⟨g, 0, none⟩) n c vs) (i : Nat) (u : Value) : Row e (w.setCell ⟨g, i, none⟩ u) (some ⟨g, 0, none⟩) n c (vs.set i u) := by
  obtain ⟨h1, ⟨h0, _⟩ | ⟨g', cur, m, h0, h2, h3, h4, h5, h6, h7⟩⟩ := h
  · cases h0
  · simp only [Option.some.injEq, Addr.mk.injEq, and_true] at h0
    subst h0
    refine ⟨by simpa using h1, .inr ⟨g, cur.setIfInBounds i u, m, rfl, by simp [World.setCell, Array.getElem?_modify, h2], h3, h4, by simpa using h5, ?_, h7⟩⟩
    rw [Array.toList_setIfInBounds, ← h6, List.take_set]
end

theorem setCells_only (g : Nat) : ∀ (vs : List Value) (o : Nat) (w : World), Only (fun j => j = g) w (w.setCells g o vs)
  | [], _, w => Only.refl _ w
  | v :: r, o, w => ((Only.refl (fun j => j = g) w).set (p := ⟨g, o, none⟩) (.inl rfl) v).trans (setCells_only g r (o + 1) _)

theorem setCells_heap (g : Nat) (e : TypeId) (m : Nat × Nat) : ∀ (vs : List Value) (o : Nat) (w : World) (cur : Array Value), w.heap[g]? = some (.cells cur e m) → o + vs.length ≤ cur.size →
    ∃ cur' : Array Value, (w.setCells g o vs).heap[g]? = some (.cells cur' e m) ∧ cur'.size = cur.size ∧ cur'.toList.take (o + vs.length) = cur.toList.take o ++ vs
  | [], o, w, cur, h, _ => ⟨cur, h, rfl, by simp⟩
  | v :: r, o, w, cur, h, hl => by
    simp only [List.length_cons] at hl
    obtain ⟨cur', h1, h2, h3⟩ := setCells_heap g e m r (o + 1) (w.setCell ⟨g, o, none⟩ v) (cur.setIfInBounds o v) (by simp [World.setCell, Array.getElem?_modify, h]) (by simp; omega)
    refine ⟨cur', h1, by simpa using h2, ?_⟩
    rw [List.length_cons, show o + (r.length + 1) = o + 1 + r.length from by omega, h3, Array.toList_setIfInBounds, List.take_add_one, List.take_set_of_le (Nat.le_refl o)]
    simp [show o < cur.size by omega]

/-- append onto a row of the call's own, of whatever source. -/
theorem run_append_row {P : Program} {t tx ty e : TypeId} {k : IntKind} {B : Nat} {w : World} {A : Option Addr} {n c m : Nat} {l r : List Value} {x : Value} (ht : P.underlying t = some (.slice e))
    (hi : (P.info? e).map (fun i => (i.zero, i.size, i.bytes)) = some (some (.int k 0), 1, B)) (h : Row e w A n c l) (hr : r.length = m) (hs : Src P 1 tx x m r w) (hB : B ≤ 8) (hb : n + m ≤ 1099511627776) :
    ∃ A' c' w', (Builtin.append_ #[t, tx] ty #[.slice A n c, x]).run P w = .ok (.slice A' (n + m) c') w' ∧ Row e w' A' (n + m) c' (l ++ r) ∧ Only (Lies A) w w' ∧
      (A' = A ∨ A' = some ⟨w.heap.size, 0, none⟩) := by
  obtain ⟨i, hi, hz, hsz, hby⟩ := info_parts hi
  have hlen : (l ++ r).length = n + m := by rw [List.length_append, h.1, hr]
  by_cases hroom : n + m ≤ c
  · obtain ⟨h1, ⟨rfl, rfl, rfl, rfl⟩ | ⟨g, cur, mk, rfl, h2, h3, h4, h5, h6, h7⟩⟩ := h
    · obtain rfl : m = 0 := by omega
      obtain rfl : r = [] := List.eq_nil_of_length_eq_zero hr
      refine ⟨none, 0, w, ?_, Row.nil e w, Only.refl _ _, .inl rfl⟩
      rcases hs.kind with ⟨e', hk⟩ | hk <;> simp [Builtin.append_, run_underlying ht, run_underlying hk, sizeOf, typeInfo, hi, hsz, hs.len, hs.cells]
    · have hrun := run_append_room_src (P := P) w t tx ty e i ht hi g 0 n c x m r (by rw [hsz]; exact hs) hroom
        (by intro j hj; simp only [hsz, World.cell?, h2]; simp; omega)
        (by intro j hj; simpa [World.frozen?, h2, hsz] using h7 (n + j) (by omega))
      simp only [hsz, Nat.mul_one, Nat.zero_add] at hrun
      obtain ⟨cur', k1, k2, k3⟩ := setCells_heap g e mk r n w cur h2 (by omega)
      refine ⟨_, c, _, hrun, ⟨hlen, .inr ⟨g, cur', mk, rfl, k1, hroom, h4, by rw [k2, h5], ?_, h7⟩⟩, (setCells_only g _ n w).mono ?_, .inl rfl⟩
      · rw [← hr, k3, h6]
      · rintro j rfl
        exact ⟨_, rfl, rfl⟩
  · have hm : n + m ≤ maxLen := by simp only [maxLen]; omega
    have hold : (Builtin.firstCells i.size n (.slice A n c)).run P w.drew = .ok l.toArray w.drew := by
      rw [hsz]
      have hc := fun (j : Nat) (v : Value) (hj : l[j]? = some v) => h.cell hj
      obtain ⟨h1, ⟨rfl, rfl, rfl, rfl⟩ | ⟨g, cur, mk, rfl, h2, h3, h4, h5, h6, h7⟩⟩ := h
      · exact run_firstCells_none w.drew 1 0 0 0
      · refine run_firstCells_some w.drew 1 n ⟨g, 0, none⟩ n c l (by simpa using h1) fun j v hj => ?_
        obtain ⟨g', e1, e2, _⟩ := hc j v hj
        simp only [Option.some.injEq, Addr.mk.injEq, and_true] at e1
        subst e1
        rw [Addr.add_lit, Nat.zero_add]
        exact e2
    have hcap : c ≤ maxLen := by
      obtain ⟨_, ⟨_, _, rfl, _⟩ | ⟨_, _, _, _, _, _, h4, _⟩⟩ := h
      · exact Nat.zero_le _
      · exact h4
    have hfit : (n + m) * B ≤ (n + m) * 8 := Nat.mul_le_mul_left _ hB
    have hrun := run_append_grow_src (P := P) w t tx ty e i (.int k 0) ht hi hz A n c l hold x m r (by rw [hsz]; exact hs) (by omega) (by omega) (growslice_fits (by omega) (by rw [hby]; omega))
    refine ⟨_, _, _, hrun, ⟨hlen, .inr ⟨w.heap.size, _, (0, 0), rfl, heap_alloc_new w.drew _, grownCap_ge w _ _ _, grownCap_le_maxLen w _ _ _ hm, ?_, ?_, fun i _ => by simp⟩⟩, ((Only.refl _ w).drew).alloc _, .inr rfl⟩
    · have hge := grownCap_ge w (n + m) c e
      simp [size_zeroCells, Value.cells, h.1, hr]
      omega
    · rw [Array.toList_append, List.toList_toArray, show n + m = (l ++ r).length from hlen.symm]
      exact List.take_left

/-- The same, at the operation. -/
theorem wpList_append_row {P : Program} {k : IntKind} {B : Nat} {w : World} {ops : Array Oper} {rest : List Oper} {o : Oper} {a : Act} {Q : Exit → Act → World → Prop} (hgd : o.guard = none) (s x : Operand) (t tx e : TypeId)
    (ho : o.op = .call { callee := .builtin .append, args := #[s, x], argTypes := #[t, tx] }) (ht : P.underlying t = some (.slice e))
    (hi : (P.info? e).map (fun i => (i.zero, i.size, i.bytes)) = some (some (.int k 0), 1, B)) (A : Option Addr) (n c m : Nat) (l r : List Value) (y : Value) (hsv : a.eval s = .slice A n c) (hxv : a.eval x = y)
    (h : Row e w A n c l) (hr : r.length = m) (hs : Src P 1 tx y m r w) (hB : B ≤ 8) (hb : n + m ≤ 1099511627776)
    (hk : ∀ A' c' w', Row e w' A' (n + m) c' (l ++ r) → Only (Lies A) w w' → (A' = A ∨ A' = some ⟨w.heap.size, 0, none⟩) → wpList P ops Q rest (a.put o.dst (.slice A' (n + m) c')) w') :
    wpList P ops Q (o :: rest) a w := by
  refine wpList_plain hgd fun K hK => ?_
  obtain ⟨A', c', w', hrun, h2, h3, h4⟩ := run_append_row (ty := o.type) ht hi h hr hs hB hb
  unfold Oper.wp execOp
  simp only [ho, resolve, invoke, builtin, Sem.run_bind, Sem.run_pure, Result.andThen_ok, List.map_toArray, List.map_cons, List.map_nil, hsv, hxv, hrun]
  exact hK _ _ (hk A' c' w' h2 h3 h4)

/-- One number, which append lays in a block of its own first. -/
theorem Src.oneInt {P : Program} {tx e : TypeId} (hk : P.underlying tx = some (.slice e)) (w : World) (k : IntKind) (z : Int) (c : Nat) (t : TypeId) : Src P 1 tx (.slice (some ⟨w.heap.size, 0, none⟩) 1 c) 1 [.int k z] (w.alloc (.cells #[.int k z] t)) :=
  Src.ofSlice _ hk _ 1 c _ rfl (cell_one_new w _ t) (by simp; rfl)

/-- A row of the call's own, laid since w: nothing that was there has turned. -/
def Made (e : TypeId) (w : World) (A : Option Addr) (n c : Nat) (l : List Value) (wx : World) : Prop := Row e wx A n c l ∧ Only (fun _ => False) w wx ∧ ∀ j, Lies A j → w.heap.size ≤ j

theorem Made.append {e : TypeId} {w wx wy : World} {A A' : Option Addr} {n c n' c' : Nat} {l l' : List Value} {o : Obj} (h : Made e w A n c l wx) (hr : Row e wy A' n' c' l') (ho : Only (Lies A) (wx.alloc o) wy) (ha : A' = A ∨ A' = some ⟨(wx.alloc o).heap.size, 0, none⟩) : Made e w A' n' c' l' wy := by
  refine ⟨hr, (h.2.1.alloc o).andThen ho fun j hj => .inr (h.2.2 j hj), fun j hj => ?_⟩
  rcases ha with e1 | e1
  · exact h.2.2 j (e1 ▸ hj)
  · obtain ⟨ad, e2, e3⟩ := hj
    rw [e1] at e2
    obtain rfl := Option.some.inj e2
    have h1 := h.2.1.size
    have h2 : (wx.alloc o).heap.size = j := e3
    simp at h2
    omega
end Go.Proofs.Ytmdfkchgklphlaa

/- Rows of bytes, and append onto such a row, over any program. -/
namespace Go.Proofs.Ytmdfkchgklphlaa
open Go.RowKit

/-- Bytes as cells. -/
def bcells (l : List UInt8) : List Value := l.map fun b => .int .u8 b.toNat

/-- The slice 'A, n, c' is a row of bytes of the call's own: l. -/
def BRow (e : TypeId) (w : World) (A : Option Addr) (n c : Nat) (l : List UInt8) : Prop := l.length = n ∧ w.ownsRow 0 e 1 (.slice A n c) n (bcells l)


section
variable {S : Nat → Prop} {e : TypeId} {w w' : World} {A : Option Addr} {n c : Nat} {l : List UInt8}
theorem BRow.nil (e : TypeId) (w : World) : BRow e w none 0 0 [] := ⟨rfl, World.ownsRow_nil w 0 e 1⟩
theorem BRow.len (h : BRow e w A n c l) : l.length = n := h.1
theorem BRow.form (h : BRow e w A n c l) : (A = none ∧ n = 0 ∧ c = 0 ∧ l = []) ∨ ∃ g cur, A = some ⟨g, 0, none⟩ ∧ w.heap[g]? = some (.cells cur e (0, 0)) ∧ n ≤ c ∧ c ≤ maxLen ∧ cur.size = c ∧ cur.toList.take n = bcells l := by
  obtain ⟨h1, h2, h3⟩ := h
  rcases h3 with ⟨h4, h5⟩ | ⟨g, cap, cur, h4, _, h5, h6, h7, h8, h9⟩
  · simp only [Value.slice.injEq] at h4
    obtain ⟨rfl, rfl, rfl⟩ := h4
    exact .inl ⟨rfl, rfl, rfl, List.eq_nil_of_length_eq_zero h1⟩
  · simp only [Value.slice.injEq, true_and] at h4
    obtain ⟨rfl, rfl⟩ := h4
    exact .inr ⟨g, cur, rfl, h5, h6, h7, by simpa using h8, by simpa using h9⟩
theorem BRow.lt (h : BRow e w A n c l) : ∀ j, Lies A j → j < w.heap.size := by
  rintro j ⟨ad, rfl, rfl⟩
  rcases h.form with ⟨h1, _⟩ | ⟨g, cur, h1, h2, _⟩
  · cases h1
  · obtain rfl := Option.some.inj h1
    rcases Nat.lt_or_ge g w.heap.size with hlt | hge
    · exact hlt
    · rw [Array.getElem?_eq_none hge] at h2; cases h2
theorem BRow.ne {g : Nat} {t : TypeId} {cs : List Value} (h : BRow e w A n c l) (k : Is w g t cs) (hne : e ≠ t) : ¬ Lies A g := by
  rintro ⟨ad, rfl, rfl⟩
  rcases h.form with ⟨h1, _⟩ | ⟨g, cur, h1, h2, _⟩
  · cases h1
  · obtain rfl := Option.some.inj h1
    unfold Is at k
    rw [h2] at k
    injection k with k
    injection k with _ k2
    exact hne k2
theorem BRow.only (h : BRow e w A n c l) (k : Only S w w') (hg : ∀ j, Lies A j → ¬ S j) : BRow e w' A n c l := by
  obtain ⟨h1, h2, h3⟩ := h
  refine ⟨h1, h2, ?_⟩
  rcases h3 with h4 | ⟨g, cap, cur, h4, hb, h5, h6⟩
  · exact .inl h4
  · refine .inr ⟨g, cap, cur, h4, hb, ?_, h6⟩
    simp only [Value.slice.injEq, true_and] at h4
    obtain ⟨rfl, rfl⟩ := h4
    rw [k.block g ?_ (hg g ⟨_, rfl, rfl⟩)]
    · exact h5
    · rcases Nat.lt_or_ge g w.heap.size with hlt | hge
      · exact hlt
      · rw [Array.getElem?_eq_none hge] at h5; cases h5
theorem BRow.alloc (h : BRow e w A n c l) (o : Obj) : BRow e (w.alloc o) A n c l := ⟨h.1, h.2.alloc o⟩
theorem BRow.drew (h : BRow e w A n c l) : BRow e w.drew A n c l := h
theorem BRow.drewN (h : BRow e w A n c l) (k : Nat) : BRow e (w.drewN k) A n c l := h
/-- The cell of a byte. -/
theorem BRow.cell (h : BRow e w A n c l) {i : Nat} (hi : i < n) : ∃ g, A = some ⟨g, 0, none⟩ ∧ w.cell? ⟨g, i, none⟩ = some (.int .u8 (l[i]?.getD 0).toNat) ∧ w.frozen? ⟨g, i, none⟩ = false := by
  rcases h.form with ⟨_, h0, _⟩ | ⟨g, cur, h1, h2, h3, h4, h5, h6⟩
  · omega
  · subst h1
    have hl : i < l.length := by have := h.1; omega
    refine ⟨g, rfl, ?_, by simp [World.frozen?, h2]⟩
    have := h.2.cellAt i (by omega)
    rw [this]
    simp [bcells, hl]
/-- A byte is stored. -/
theorem BRow.stored {g : Nat} (h : BRow e w (some ⟨g, 0, none⟩) n c l) (i : Nat) (b : UInt8) : BRow e (w.setCell ⟨g, i, none⟩ (.int .u8 b.toNat)) (some ⟨g, 0, none⟩) n c (l.set i b) := by
  refine ⟨by simpa using h.1, ?_⟩
  have := (h.2.stored i (.int .u8 b.toNat)).1
  rw [show bcells (l.set i b) = (bcells l).set i (.int .u8 b.toNat) from by simp [bcells, List.map_set]]
  exact this
end

theorem bsetCells_only (g : Nat) : ∀ (vs : List Value) (o : Nat) (w : World), Only (fun j => j = g) w (w.setCells g o vs)
  | [], _, w => Only.refl _ w
  | v :: r, o, w => ((Only.refl (fun j => j = g) w).set (p := ⟨g, o, none⟩) (.inl rfl) v).trans (bsetCells_only g r (o + 1) _)

theorem bsetCells_heap (g : Nat) (e : TypeId) : ∀ (vs : List Value) (o : Nat) (w : World) (cur : Array Value), w.heap[g]? = some (.cells cur e (0, 0)) → o + vs.length ≤ cur.size →
    ∃ cur' : Array Value, (w.setCells g o vs).heap[g]? = some (.cells cur' e (0, 0)) ∧ cur'.size = cur.size ∧ cur'.toList.take (o + vs.length) = cur.toList.take o ++ vs
  | [], o, w, cur, h, _ => ⟨cur, h, rfl, by simp⟩
  | v :: r, o, w, cur, h, hl => by
    simp only [List.length_cons] at hl
    obtain ⟨cur', h1, h2, h3⟩ := bsetCells_heap g e r (o + 1) (w.setCell ⟨g, o, none⟩ v) (cur.setIfInBounds o v) (heap_setCell_same w g o cur e v h) (by simp; omega)
    refine ⟨cur', h1, by simpa using h2, ?_⟩
    rw [List.length_cons, show o + (r.length + 1) = o + 1 + r.length from by omega, h3, Array.toList_setIfInBounds, List.take_add_one, List.take_set_of_le (Nat.le_refl o)]
    simp [show o < cur.size by omega]

/-- append onto a row of the call's own, of whatever source of bytes. -/
theorem run_append_brow {P : Program} {t tx ty e : TypeId} {w : World} {A : Option Addr} {n c m : Nat} {l r : List UInt8} {x : Value} (ht : P.underlying t = some (.slice e))
    (hi : (P.info? e).map (fun i => (i.zero, i.size, i.bytes)) = some (some (.int .u8 0), 1, 1)) (h : BRow e w A n c l) (hr : r.length = m) (hs : Src P 1 tx x m (bcells r) w) (hb : n + m ≤ 140737488355328) :
    ∃ A' c' w', (Builtin.append_ #[t, tx] ty #[.slice A n c, x]).run P w = .ok (.slice A' (n + m) c') w' ∧ BRow e w' A' (n + m) c' (l ++ r) ∧ Only (Lies A) w w' ∧
      (A' = A ∨ A' = some ⟨w.heap.size, 0, none⟩) := by
  obtain ⟨i, hi, hz, hsz, hby⟩ := info_parts hi
  have hl : (bcells r).length = m := by simpa [bcells] using hr
  have hlen : (l ++ r).length = n + m := by rw [List.length_append, h.1, hr]
  have happ : bcells (l ++ r) = bcells l ++ bcells r := by simp [bcells]
  by_cases hroom : n + m ≤ c
  · rcases h.form with ⟨rfl, rfl, rfl, rfl⟩ | ⟨g, cur, rfl, h2, h3, h4, h5, h6⟩
    · obtain rfl : m = 0 := by omega
      obtain rfl : r = [] := List.eq_nil_of_length_eq_zero hr
      refine ⟨none, 0, w, ?_, BRow.nil e w, Only.refl _ _, .inl rfl⟩
      rcases hs.kind with ⟨e', hk⟩ | hk <;> simp [Builtin.append_, run_underlying ht, run_underlying hk, sizeOf, typeInfo, hi, hsz, hs.len, hs.cells]
    · have hrun := run_append_room_src (P := P) w t tx ty e i ht hi g 0 n c x m (bcells r) (by rw [hsz]; exact hs) hroom
        (by intro j hj; simp only [hsz, World.cell?, h2]; simp; omega)
        (by intro j hj; simp [World.frozen?, h2])
      simp only [hsz, Nat.mul_one, Nat.zero_add] at hrun
      obtain ⟨cur', k1, k2, k3⟩ := bsetCells_heap g e (bcells r) n w cur h2 (by omega)
      refine ⟨_, c, _, hrun, ⟨hlen, by rw [← hlen]; simp [bcells], .inr ⟨g, c, cur', rfl, Nat.zero_le _, k1, hroom, h4, by rw [k2, h5, Nat.mul_one], ?_⟩⟩, (bsetCells_only g _ n w).mono ?_, .inl rfl⟩
      · rw [Nat.mul_one, ← hl, k3, h6, happ]
      · rintro j rfl
        exact ⟨_, rfl, rfl⟩
  · have hm : n + m ≤ maxLen := by simp only [maxLen]; omega
    have hold : (Builtin.firstCells i.size n (.slice A n c)).run P w.drew = .ok (bcells l).toArray w.drew := by
      rw [hsz]
      rcases h.form with ⟨rfl, rfl, rfl, rfl⟩ | ⟨g, cur, rfl, h2, h3, h4, h5, h6⟩
      · exact run_firstCells_none w.drew 1 0 0 0
      · exact run_firstCells_some w.drew 1 n ⟨g, 0, none⟩ n c (bcells l) (by simpa [bcells] using h.1) (by simpa using h.2.cells (g := g) rfl)
    have hcap : c ≤ maxLen := by
      rcases h.form with ⟨_, _, rfl, _⟩ | ⟨g, cur, _, _, _, h4, _⟩
      · exact Nat.zero_le _
      · exact h4
    have hrun := run_append_grow_src (P := P) w t tx ty e i (.int .u8 0) ht hi hz A n c (bcells l) hold x m (bcells r) (by rw [hsz]; exact hs) (by omega) (by omega) (growslice_fits (by omega) (by rw [hby]; omega))
    refine ⟨_, _, _, hrun, ⟨hlen, by rw [← hlen]; simp [bcells], .inr ⟨w.heap.size, _, _, rfl, Nat.zero_le _, heap_alloc_new w.drew _, grownCap_ge w _ _ _, grownCap_le_maxLen w _ _ _ hm, ?_, ?_⟩⟩, ((Only.refl _ w).drew).alloc _, .inr rfl⟩
    · have hge := grownCap_ge w (n + m) c e
      simp [size_zeroCells, Value.cells, bcells, h.1, hr]
      omega
    · rw [happ, Array.toList_append, List.toList_toArray, Nat.mul_one, show n + m = (bcells l ++ bcells r).length from by simp [bcells, h.1, hr]]
      exact List.take_left

/-- The same, at the operation. -/
theorem wpList_append_brow {P : Program} {w : World} {ops : Array Oper} {rest : List Oper} {o : Oper} {a : Act} {Q : Exit → Act → World → Prop} (hgd : o.guard = none) (s x : Operand) (t tx e : TypeId)
    (ho : o.op = .call { callee := .builtin .append, args := #[s, x], argTypes := #[t, tx] }) (ht : P.underlying t = some (.slice e))
    (hi : (P.info? e).map (fun i => (i.zero, i.size, i.bytes)) = some (some (.int .u8 0), 1, 1)) (A : Option Addr) (n c m : Nat) (l r : List UInt8) (y : Value) (hsv : a.eval s = .slice A n c) (hxv : a.eval x = y)
    (h : BRow e w A n c l) (hr : r.length = m) (hs : Src P 1 tx y m (bcells r) w) (hb : n + m ≤ 140737488355328)
    (hk : ∀ A' c' w', BRow e w' A' (n + m) c' (l ++ r) → Only (Lies A) w w' → (A' = A ∨ A' = some ⟨w.heap.size, 0, none⟩) → wpList P ops Q rest (a.put o.dst (.slice A' (n + m) c')) w') :
    wpList P ops Q (o :: rest) a w := by
  refine wpList_plain hgd fun K hK => ?_
  obtain ⟨A', c', w', hrun, h2, h3, h4⟩ := run_append_brow (ty := o.type) ht hi h hr hs hb
  unfold Oper.wp execOp
  simp only [ho, resolve, invoke, builtin, Sem.run_bind, Sem.run_pure, Result.andThen_ok, List.map_toArray, List.map_cons, List.map_nil, hsv, hxv, hrun]
  exact hK _ _ (hk A' c' w' h2 h3 h4)

/-- One byte, which append lays in a block of its own first. -/
theorem Src.oneByte {P : Program} {tx e : TypeId} (hk : P.underlying tx = some (.slice e)) (w : World) (b : UInt8) (c : Nat) (t : TypeId) : Src P 1 tx (.slice (some ⟨w.heap.size, 0, none⟩) 1 c) 1 (bcells [b]) (w.alloc (.cells #[.int .u8 b.toNat] t)) :=
  Src.ofSlice _ hk _ 1 c _ rfl (cell_one_new w _ t) (by simp [bcells]; rfl)
theorem Src.text {P : Program} {tx : TypeId} (hk : P.underlying tx = some .string) (w : World) (s : ByteArray) : Src P 1 tx (.string s) s.size (bcells s.data.toList) w := Src.ofString w hk s
end Go.Proofs.Ytmdfkchgklphlaa
