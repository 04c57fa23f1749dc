/- The writer of layer 1: Put at any number of bits, Align, Write, Len, Text. -/
import Derived.Test.YtfobkknbhflnbaaBWrite
namespace Go.Proofs.Ytfobkknbhflnbaa
open Go.RowKit

/-- n brought to 0 up to 32. -/
def clamp (m : Int) : Nat := (min (max m 0) 32).toNat
theorem clamp_le (m : Int) : clamp m ≤ 32 := by unfold clamp; omega
theorem clamp_eq (m : Int) : min (max m 0) 32 = (clamp m : Int) := by unfold clamp; omega

/-- A writer that is as a writer should be: k bits, its number t. -/
structure Wrt (w : World) (b : Nat) (A : Option Addr) (n c k : Nat) (l : List UInt8) : Prop where
  wr : Wr w b A n c k l
  len : n = (k + 7) / 8
  lt : le l < 2 ^ k

theorem put (b : Nat) (A : Option Addr) (n c k v : Nat) (m : Int) (l : List UInt8) (w : World) (h : Wrt w b A n c k l) (hk : k ≤ 1073741824) (hv : v < 4294967296) :
    Calls Try.prog 36 #[.pointer (some ⟨b, 0, none⟩), .int .u32 v, .int .i64 m] w (PutPost b A k (clamp m) (le l + v % 2 ^ clamp m * 2 ^ k) w) :=
  put1 b A n c k v (k % 8) (clamp m) m l w h.wr hk h.len h.lt hv (clamp_eq m) (clamp_le m) (by omega) (by omega)

/-- string(..) of a row of bytes. -/
theorem BRow.toText {P : Program} {src dst e : TypeId} {w : World} {A : Option Addr} {n c : Nat} {l : List UInt8} (hs : P.underlying src = some (.slice e)) (he : P.underlying e = some (.int .u8)) (hd : P.underlying dst = some .string) (h : BRow e w A n c l) :
    (convert src dst (.slice A n c)).run P w = .ok (.string ⟨l.toArray⟩) w := by
  rcases h.form with ⟨rfl, rfl, rfl, rfl⟩ | ⟨g, cur, rfl, _⟩
  · rw [run_convert_bytes_nil w src e hs he 0 0 dst hd]
    rfl
  · have hc : ∀ i, i < n → w.cell? ⟨g, 0 + i, none⟩ = some (.int .u8 ((l.map fun b => (b.toNat : Int)).getD i 0)) := by
      intro i hi
      obtain ⟨g', e1, e2, _⟩ := h.cell hi
      obtain rfl : g = g' := by simpa using e1
      have hl : i < l.length := by rw [h.len]; exact hi
      rw [Nat.zero_add, e2]
      simp [hl]
    rw [run_convert_bytes_arg w src e hs he g 0 n c (l.map fun b => (b.toNat : Int)) (by simpa using h.len) hc dst hd]
    have e : strOfNums (l.map fun b => (b.toNat : Int)) = ⟨l.toArray⟩ := by simp [strOfNums, Function.comp_def]
    rw [e]

theorem text (b : Nat) (A : Option Addr) (n c k : Nat) (l : List UInt8) (w : World) (h : Wr w b A n c k l) :
    Calls Try.prog 22 #[.pointer (some ⟨b, 0, none⟩)] w fun e w' => e = .returned (.string ⟨l.toArray⟩) ∧ w = w' := by
  have c0 := h.1.cell 0 rfl
  have hc := h.2.toText Try.underlying39 Try.underlying5 Try.underlying9
  clear h
  go_enter Try.func22, Try.ntmps22
  go_wp2
  go_ret
  exact ⟨rfl, rfl⟩

end Go.Proofs.Ytfobkknbhflnbaa
