/- The program's reader and the document's, side by side. -/
import Derived.Test.YthocfdkheikeoaaRefRdb
import Derived.Test.YthocfdkheikeoaaDeeds
namespace Go.Proofs.Ythocfdkheikeoaa
open Go.RowKit

/-- The document's reader, asked for bits: the same step as the program's. -/
theorem rbits2 (b : Nat) (s : ByteArray) (A : Option Addr) (c a : Nat) (f : Bool) (m : Int) (w : World) (h : RR w b A (8 * s.size) c a f (bitsOf s.data.toList)) (hs : s.size ≤ 100) (ha : a ≤ 8 * s.size) :
    Calls Try.prog 11 #[.pointer (some ⟨b, 0, none⟩), .int .i64 m] w (RRPost b A (8 * s.size) c (rBits s a f m).2.1 (rBits s a f m).2.2 (bitsOf s.data.toList) w (.int .u32 (rBits s a f m).1)) := by
  unfold rBits
  by_cases hh : short s.size a f m = true
  · rw [if_pos hh]
    exact rbits_bad b A (8 * s.size) c a f _ m w h (by omega) ha (by simpa [short, or_assoc] using hh)
  · rw [if_neg hh]
    simp only [short, Bool.or_eq_true, decide_eq_true_eq, not_or] at hh
    obtain ⟨⟨⟨h1, h2⟩, h3⟩, h4⟩ := hh
    obtain rfl : f = false := by simpa using h1
    obtain ⟨k, rfl⟩ := Int.eq_ofNat_of_zero_le (show 0 ≤ m by omega)
    have e : le2 (((bitsOf s.data.toList).drop a).take k) = le s.data.toList / 2 ^ a % 2 ^ k := by
      rw [le2_take _ _ (bits_drop (bitsOf_bits _) _), le2_drop _ _ (bitsOf_bits _) (by rw [bitsOf_length]; simpa using ha), le2_bitsOf]
    have := rbits_ok b A (8 * s.size) c a _ k w h (bitsOf_bits _) (by omega) (by omega) (by omega)
    rw [e] at this
    exact this

theorem rbytes2 (b : Nat) (s : ByteArray) (A : Option Addr) (c a : Nat) (f : Bool) (m : Int) (w : World) (h : RR w b A (8 * s.size) c a f (bitsOf s.data.toList)) (hs : s.size ≤ 100) (ha : a ≤ 8 * s.size) :
    Calls Try.prog 15 #[.pointer (some ⟨b, 0, none⟩), .int .i64 m] w (RRPost b A (8 * s.size) c (rBytes s a f m).2.1 (rBytes s a f m).2.2 (bitsOf s.data.toList) w (.string (rBytes s a f m).1)) := by
  unfold rBytes
  by_cases hh : lacks s a f m = true
  · rw [if_pos hh]
    refine rbytes_bad b A s.size c a f _ m w h (by omega) ha ?_
    simp only [lacks, Bool.or_eq_true, decide_eq_true_eq] at hh
    rcases hh with (h1 | h1) | h1
    · exact .inl h1
    · exact .inr (.inl h1)
    · exact .inr (.inr (by omega))
  · rw [if_neg hh]
    simp only [lacks, Bool.or_eq_true, decide_eq_true_eq, not_or] at hh
    obtain ⟨⟨h1, h2⟩, h4⟩ := hh
    obtain rfl : f = false := by simpa using h1
    obtain ⟨k, rfl⟩ := Int.eq_ofNat_of_zero_le (show 0 ≤ m by omega)
    refine (rbytes_ok b A s.size c a _ k w h (bitsOf_bits _) (by omega) (by omega)).mono ?_
    rintro e w' ⟨t, ht1, ht2, hp⟩
    have hsl : s.data.toList.length = s.size := by simp
    have e1 : (s.extract ((a + 7) / 8) ((a + 7) / 8 + k)).data.toList = (s.data.toList.drop ((a + 7) / 8)).take k := by
      rw [ByteArray.data_extract, Array.toList_extract, List.extract_eq_take_drop, Nat.add_sub_cancel_left]
    have e2 : t = (s.extract ((a + 7) / 8) ((a + 7) / 8 + k)).data.toList := by
      refine le_inj _ _ ?_ ?_
      · rw [e1, List.length_take, List.length_drop, hsl, ht1]
        omega
      · rw [ht2, e1, le2_take _ _ (bits_drop (bitsOf_bits _) _), le2_drop _ _ (bitsOf_bits _) (by rw [bitsOf_length]; omega), le2_bitsOf, le_take, le_drop _ _ (by rw [hsl]; omega), pow256, pow256]
    have e3 : (⟨t.toArray⟩ : ByteArray) = s.extract ((a + 7) / 8) ((a + 7) / 8 + k) := by rw [e2]
    rw [e3] at hp
    exact hp

theorem rBits_le (s : ByteArray) (a : Nat) (f : Bool) (m : Int) (ha : a ≤ 8 * s.size) : (rBits s a f m).2.1 ≤ 8 * s.size := by
  unfold rBits
  split
  · exact ha
  · rename_i hh
    simp only [short, Bool.or_eq_true, decide_eq_true_eq, not_or] at hh
    show a + m.toNat ≤ _
    omega
theorem rBytes_le (s : ByteArray) (a : Nat) (f : Bool) (m : Int) (ha : a ≤ 8 * s.size) : (rBytes s a f m).2.1 ≤ 8 * s.size := by
  unfold rBytes
  split
  · exact ha
  · rename_i hh
    simp only [lacks, Bool.or_eq_true, decide_eq_true_eq, not_or] at hh
    show 8 * ((a + 7) / 8 + m.toNat) ≤ _
    omega

/-- Both readers stand alike. -/
def Two (B rb vb : Nat) (s : ByteArray) (A : Option Addr) (c a : Nat) (f : Bool) (w0 wx : World) : Prop :=
  a ≤ 8 * s.size ∧ Rd wx rb s a f ∧ RR wx vb A (8 * s.size) c a f (bitsOf s.data.toList) ∧ Below B w0 wx

/-- The program's reader has moved on to (a2, f2), the document's has not. -/
def Half (B rb vb : Nat) (s : ByteArray) (A : Option Addr) (c a a2 : Nat) (f f2 : Bool) (w0 wx : World) : Prop :=
  a ≤ 8 * s.size ∧ a2 ≤ 8 * s.size ∧ Rd wx rb s a2 f2 ∧ RR wx vb A (8 * s.size) c a f (bitsOf s.data.toList) ∧ Below B w0 wx

theorem Two.half {B rb vb : Nat} {s : ByteArray} {A : Option Addr} {c a a2 : Nat} {f f2 : Bool} {w0 w w' : World} (h : Two B rb vb s A c a f w0 w) (ha : a2 ≤ 8 * s.size) (hr : Rd w' rb s a2 f2) (ho : Only (· = rb) w w') (hne : rb ≠ vb) (hB : B ≤ rb) : Half B rb vb s A c a a2 f f2 w0 w' := by
  obtain ⟨h1, h2, h3, h4⟩ := h
  refine ⟨h1, ha, hr, ⟨h3.1.only ho (fun e => hne e.symm), h3.2.only ho (fun j hj e => h3.2.ne h2 (by decide) (e ▸ hj))⟩, below_only h4 ho (by have := h2.lt; omega) (fun j e => by omega)⟩
theorem Half.two {B rb vb : Nat} {s : ByteArray} {A : Option Addr} {c a a2 : Nat} {f f2 : Bool} {w0 w w' : World} (h : Half B rb vb s A c a a2 f f2 w0 w) (hr : RR w' vb A (8 * s.size) c a2 f2 (bitsOf s.data.toList)) (ho : Only (· = vb) w w') (hne : rb ≠ vb) (hB : B ≤ vb) : Two B rb vb s A c a2 f2 w0 w' := by
  obtain ⟨h1, h1', h2, h3, h4⟩ := h
  refine ⟨h1', Is.only h2 ho hne, hr, below_only h4 ho (by have := h3.1.lt; omega) (fun j e => by omega)⟩
theorem Two.alloc {B rb vb : Nat} {s : ByteArray} {A : Option Addr} {c a : Nat} {f : Bool} {w0 w : World} (h : Two B rb vb s A c a f w0 w) (hB : B ≤ w.heap.size) (o : Obj) : Two B rb vb s A c a f w0 (w.alloc o) :=
  ⟨h.1, Is.alloc h.2.1 o, ⟨h.2.2.1.1.alloc o, h.2.2.1.2.alloc o⟩, h.2.2.2.alloc hB o⟩
theorem Two.drewN {B rb vb : Nat} {s : ByteArray} {A : Option Addr} {c a : Nat} {f : Bool} {w0 w : World} (h : Two B rb vb s A c a f w0 w) (k : Nat) : Two B rb vb s A c a f w0 (w.drewN k) :=
  ⟨h.1, Is.drewN h.2.1 k, ⟨h.2.2.1.1.drewN k, h.2.2.1.2.drewN k⟩, ⟨h.2.2.2.os, h.2.2.2.tape, h.2.2.2.output, h.2.2.2.size, h.2.2.2.block⟩⟩
end Go.Proofs.Ythocfdkheikeoaa
