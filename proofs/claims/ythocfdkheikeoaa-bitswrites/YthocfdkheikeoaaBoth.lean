/- The program's writer and the document's, side by side. -/
import Derived.Test.YthocfdkheikeoaaRefWrite
import Derived.Test.YthocfdkheikeoaaDeeds
namespace Go.Proofs.Ythocfdkheikeoaa
open Go.RowKit

/-- The program's writer (block bw) has the bits that the document's (block bv) will have, once F is done to it. -/
def St (B bw bv K : Nat) (F : List UInt8 → List UInt8) (w0 wx : World) : Prop :=
  ∃ (A : Option Addr) (n c : Nat) (l : List UInt8) (A2 : Option Addr) (n2 c2 : Nat) (bl : List UInt8), Wrt wx bw A n c (F bl).length l ∧ le l = le2 (F bl) ∧ Bits (F bl) ∧ (F bl).length ≤ K ∧ RW wx bv A2 n2 c2 bl ∧ n2 ≤ K ∧
    Below B w0 wx ∧ (∀ j, Lies A j → B ≤ j) ∧ (∀ j, Lies A2 j → B ≤ j) ∧ (∀ j, Lies A j → ¬ Lies A2 j)

theorem fresh_ge {B : Nat} {w : World} {A A' : Option Addr} (h : ∀ j, Lies A j → B ≤ j) (hB : B ≤ w.heap.size) (ha : A' = A ∨ ∃ g, A' = some ⟨g, 0, none⟩ ∧ w.heap.size ≤ g) : ∀ j, Lies A' j → B ≤ j := by
  intro j hj
  rcases ha with e | ⟨g, e, hg⟩
  · exact h j (e ▸ hj)
  · obtain ⟨ad, e1, e2⟩ := hj
    rw [e] at e1
    obtain rfl := Option.some.inj e1
    have : g = j := e2
    omega
theorem fresh_apart {w : World} {A A' A2 : Option Addr} (h : ∀ j, Lies A j → ¬ Lies A2 j) (h2 : ∀ j, Lies A2 j → j < w.heap.size) (ha : A' = A ∨ ∃ g, A' = some ⟨g, 0, none⟩ ∧ w.heap.size ≤ g) : ∀ j, Lies A' j → ¬ Lies A2 j := by
  intro j hj h3
  rcases ha with e | ⟨g, e, hg⟩
  · exact h j (e ▸ hj) h3
  · obtain ⟨ad, e1, e2⟩ := hj
    rw [e] at e1
    obtain rfl := Option.some.inj e1
    have h4 : g = j := e2
    have := h2 j h3
    omega

/-- Blocks that hold no bytes, but for b, are as they were. -/
def Keeps (b : Nat) (w w' : World) : Prop := ∀ g t cs, Is w g t cs → t ≠ 5 → g ≠ b → Is w' g t cs
theorem Keeps.of {b : Nat} {w w' : World} {A : Option Addr} {n c : Nat} {l : List UInt8} (h : Row 5 w A n c l) (ho : Only (fun j => j = b ∨ Lies A j) w w') : Keeps b w w' := by
  intro g t cs hg ht hne
  refine hg.only ho ?_
  rintro (e | e)
  · exact hne e
  · exact h.ne hg (Ne.symm ht) e

/-- The program's writer has moved on. -/
theorem St.first {B bw bv K K' : Nat} {F : List UInt8 → List UInt8} {w0 w w' : World} {A : Option Addr} {A' : Option Addr} {n' c' : Nat} {l' : List UInt8} {A2 : Option Addr} {n2 c2 : Nat} {bl : List UInt8}
    (hbw : B ≤ bw) (hne : bw ≠ bv) (hrow : ∀ g t cs, Is w g t cs → t ≠ 5 → ¬ Lies A g) (hr : RW w bv A2 n2 c2 bl) (hb : Below B w0 w) (h1 : ∀ j, Lies A j → B ≤ j) (h2 : ∀ j, Lies A2 j → B ≤ j) (h3 : ∀ j, Lies A j → ¬ Lies A2 j) (hI : bw < w.heap.size) (hbt : ∃ t cs, Is w bw t cs ∧ t ≠ 5)
    (hw : Wrt w' bw A' n' c' (F bl).length l') (hl : le l' = le2 (F bl)) (hbits : Bits (F bl)) (hK : (F bl).length ≤ K') (hn2 : n2 ≤ K) (hKK : K ≤ K') (ho : Only (fun j => j = bw ∨ Lies A j) w w') (ha : A' = A ∨ ∃ g, A' = some ⟨g, 0, none⟩ ∧ w.heap.size ≤ g) :
    St B bw bv K' F w0 w' := by
  have hB : B ≤ w.heap.size := by omega
  refine ⟨A', n', c', l', A2, n2, c2, bl, hw, hl, hbits, hK, ⟨hr.1.only ho ?_, hr.2.only ho ?_⟩, by omega, below_only hb ho hB ?_, fresh_ge h1 hB ha, h2, fresh_apart h3 hr.2.lt ha⟩
  · rintro (e | e)
    · exact hne e.symm
    · exact hrow bv 44 _ hr.1 (by decide) e
  · rintro j hj (e | e)
    · obtain ⟨t, cs, ht, hne5⟩ := hbt
      exact hr.2.ne ht (Ne.symm hne5) (e ▸ hj)
    · exact h3 j e hj
  · rintro j (e | e)
    · omega
    · exact h1 j e

/-- The document's writer has followed. -/
theorem St.second {B bw bv K : Nat} {F : List UInt8 → List UInt8} {w0 w : World} {f : FuncId} {args : Array Value} (hbv : B ≤ bv) (hne : bw ≠ bv) (hB : B ≤ w.heap.size) (h : St B bw bv K F w0 w)
    (hc : ∀ A2 n2 c2 bl, RW w bv A2 n2 c2 bl → n2 ≤ K → Calls Try.prog f args w fun e w' => e = .returned (.tuple #[]) ∧ RWPost bv A2 (F bl) w w') :
    Calls Try.prog f args w fun e w' => e = .returned (.tuple #[]) ∧ St B bw bv K (fun x => x) w0 w' ∧ Keeps bv w w' := by
  obtain ⟨A, n, c, l, A2, n2, c2, bl, h1, h2, h3, h4, h5, h5', h6, h7, h8, h9⟩ := h
  refine (hc A2 n2 c2 bl h5 h5').mono ?_
  rintro e w' ⟨rfl, A3, n3, c3, k1, k2, k3⟩
  refine ⟨rfl, ⟨A, n, c, l, A3, n3, c3, F bl, ⟨⟨h1.wr.1.only k2 ?_, h1.wr.2.only k2 ?_⟩, h1.len, h1.lt⟩, h2, h3, h4, k1, by rw [← k1.2.len]; exact h4, below_only h6 k2 hB ?_, h7, fresh_ge h8 hB k3, ?_⟩, Keeps.of h5.2 k2⟩
  · rintro (e | e)
    · exact hne e
    · exact h5.2.ne h1.wr.1 (by decide) e
  · rintro j hj (e | e)
    · exact h1.wr.2.ne h5.1 (by decide) (e ▸ hj)
    · exact h9 j hj e
  · rintro j (e | e)
    · omega
    · exact h8 j e
  · intro j hj hj3
    exact fresh_apart (fun j a b => h9 j b a) h1.wr.2.lt k3 j hj3 hj

def fPut (v : Nat) (m : Int) (x : List UInt8) : List UInt8 := x ++ nb v (clamp m)
def fAlign (x : List UInt8) : List UInt8 := x ++ List.replicate ((x.length + 7) / 8 * 8 - x.length) 0
def fWrite (s : ByteArray) (x : List UInt8) : List UInt8 := x ++ List.replicate ((x.length + 7) / 8 * 8 - x.length) 0 ++ bitsOf s.data.toList

theorem put_both (B bw bv K v : Nat) (m : Int) (w0 w : World) (h : St B bw bv K (fun x => x) w0 w) (hbw : B ≤ bw) (hne : bw ≠ bv) (hK : K ≤ 1073741) (hv : v < 4294967296) :
    Calls Try.prog 20 #[.pointer (some ⟨bw, 0, none⟩), .int .u32 v, .int .i64 m] w fun e w' => e = .returned (.tuple #[]) ∧ St B bw bv (K + 32) (fPut v m) w0 w' ∧ Keeps bw w w' := by
  obtain ⟨A, n, c, l, A2, n2, c2, bl, h1, h2, h3, h4, h5, h5', h6, h7, h8, h9⟩ := h
  dsimp only at h1 h2 h3 h4
  refine (put bw A n c bl.length v m l w h1 (by omega) hv).mono ?_
  rintro e w' ⟨rfl, A', n', c', l', k1, k2, k3, k4, k5⟩
  have hlen : (fPut v m bl).length = bl.length + clamp m := by rw [fPut, List.length_append, nb_length]
  have hle : le l' = le2 (fPut v m bl) := by rw [k3, fPut, le2_append, le2_nb, h2, Nat.mul_comm]
  have hlt : le l' < 2 ^ (fPut v m bl).length := by rw [hle]; exact le2_lt _ (bits_append h3 (nb_bits _ _))
  have hcl := clamp_le m
  refine ⟨rfl, St.first (A := A) (K := K) (F := fPut v m) hbw hne (fun g t cs hg ht => h1.wr.2.ne hg (Ne.symm ht)) h5 h6 h7 h8 h9 h1.wr.1.lt ⟨56, _, h1.wr.1, by decide⟩ ⟨by rw [hlen]; exact k1, by rw [hlen]; exact k2, hlt⟩ hle (bits_append h3 (nb_bits _ _)) (by omega) h5' (by omega) k4 k5, Keeps.of h1.wr.2 k4⟩

theorem align_both (B bw bv K : Nat) (w0 w : World) (h : St B bw bv K (fun x => x) w0 w) (hbw : B ≤ bw) (hne : bw ≠ bv) (hK : K ≤ 1073741) :
    Calls Try.prog 22 #[.pointer (some ⟨bw, 0, none⟩)] w fun e w' => e = .returned (.tuple #[]) ∧ St B bw bv (K + 7) fAlign w0 w' ∧ Keeps bw w w' := by
  obtain ⟨A, n, c, l, A2, n2, c2, bl, h1, h2, h3, h4, h5, h5', h6, h7, h8, h9⟩ := h
  dsimp only at h1 h2 h3 h4
  have hn := h1.len
  refine (walign bw A n c bl.length l w h1.wr (by omega)).mono ?_
  rintro e w' ⟨rfl, k1, k4⟩
  have hlen : (fAlign bl).length = 8 * n := by rw [fAlign, List.length_append, List.length_replicate, hn]; omega
  have hle : le l = le2 (fAlign bl) := by rw [fAlign, le2_append, le2_zeros, h2]; simp
  have hbits := bits_append h3 (bits_zeros ((bl.length + 7) / 8 * 8 - bl.length))
  refine ⟨rfl, St.first (A := A) (K := K) (F := fAlign) hbw hne (fun g t cs hg ht => h1.wr.2.ne hg (Ne.symm ht)) h5 h6 h7 h8 h9 h1.wr.1.lt ⟨56, _, h1.wr.1, by decide⟩ ⟨by rw [hlen]; exact k1, by rw [hlen]; omega, ?_⟩ hle hbits (by omega) h5' (by omega) (k4.mono fun j e => .inl e) (.inl rfl), Keeps.of h1.wr.2 (k4.mono fun j e => .inl e)⟩
  rw [hle]
  exact le2_lt _ hbits

theorem write_both (B bw bv K : Nat) (s : ByteArray) (w0 w : World) (h : St B bw bv K (fun x => x) w0 w) (hbw : B ≤ bw) (hne : bw ≠ bv) (hK : K ≤ 1073741) (hs : s.size ≤ 50) :
    Calls Try.prog 24 #[.pointer (some ⟨bw, 0, none⟩), .string s] w fun e w' => e = .returned (.tuple #[]) ∧ St B bw bv (K + 407) (fWrite s) w0 w' ∧ Keeps bw w w' := by
  obtain ⟨A, n, c, l, A2, n2, c2, bl, h1, h2, h3, h4, h5, h5', h6, h7, h8, h9⟩ := h
  dsimp only at h1 h2 h3 h4
  have hn := h1.len
  have hsl : s.data.toList.length = s.size := by simp
  refine (write bw A n c bl.length l s w h1.wr (by omega)).mono ?_
  rintro e w' ⟨rfl, A', c', k1, k4, k5⟩
  have hlen0 : (bl ++ List.replicate ((bl.length + 7) / 8 * 8 - bl.length) 0).length = 8 * n := by rw [List.length_append, List.length_replicate, hn]; omega
  have hlen : (fWrite s bl).length = 8 * (n + s.data.toList.length) := by rw [fWrite, List.length_append, hlen0, bitsOf_length]; omega
  have hle : le (l ++ s.data.toList) = le2 (fWrite s bl) := by
    rw [fWrite, le2_append, hlen0, le2_bitsOf, le_append, h1.wr.2.len, pow256, le2_append, le2_zeros, h2]
    simp
  have hbits : Bits (fWrite s bl) := bits_append (bits_append h3 (bits_zeros _)) (bitsOf_bits _)
  refine ⟨rfl, St.first (A := A) (K := K) (F := fWrite s) hbw hne (fun g t cs hg ht => h1.wr.2.ne hg (Ne.symm ht)) h5 h6 h7 h8 h9 h1.wr.1.lt ⟨56, _, h1.wr.1, by decide⟩ ⟨by rw [hlen]; exact k1, by rw [hlen]; omega, ?_⟩ hle hbits (by omega) h5' (by omega) k4 k5, Keeps.of h1.wr.2 k4⟩
  rw [hle]
  exact le2_lt _ hbits
end Go.Proofs.Ythocfdkheikeoaa
