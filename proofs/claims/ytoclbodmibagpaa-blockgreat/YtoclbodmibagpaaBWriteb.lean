/- The writer of layer 1: Put at any number of bits, Align, Write, Len, Text. -/
import Derived.Test.YtoclbodmibagpaaM2
import Derived.Test.YtoclbodmibagpaaBWrite
namespace Go.Proofs.Ytoclbodmibagpaa
open Go.RowKit

/-- n brought to 0 up to 32. -/
def clamp (m : Int) : Nat := (min (max m 0) 32).toNat
theorem clamp_le (m : Int) : clamp m ≤ 32 := by unfold clamp; omega
theorem clamp_eq (m : Int) : min (max m 0) 32 = (clamp m : Int) := by unfold clamp; omega

/-- A writer that is as a writer should be: k bits, its number t. -/
structure Wrt (w : World) (b : Nat) (A : Option Addr) (n c k : Nat) (l : List UInt8) : Prop where
  wr : Wr5 w b A n c k l
  len : n = (k + 7) / 8
  lt : le l < 2 ^ k

theorem put (b : Nat) (A : Option Addr) (n c k v : Nat) (m : Int) (l : List UInt8) (w : World) (h : Wrt w b A n c k l) (hk : k ≤ 1073741824) (hv : v < 4294967296) :
    Calls Try.prog 57 #[.pointer (some ⟨b, 0, none⟩), .int .u32 v, .int .i64 m] w (PutPost b A k (clamp m) (le l + v % 2 ^ clamp m * 2 ^ k) w) :=
  put1 b A n c k v (k % 8) (clamp m) m l w h.wr hk h.len h.lt hv (clamp_eq m) (clamp_le m) (by omega) (by omega)

theorem text (b : Nat) (A : Option Addr) (n c k : Nat) (l : List UInt8) (w : World) (h : Wr5 w b A n c k l) :
    Calls Try.prog 21 #[.pointer (some ⟨b, 0, none⟩)] w fun e w' => e = .returned (.string ⟨l.toArray⟩) ∧ w = w' := by
  have c0 := h.1.cell 0 rfl
  have hc := h.2.toText Try.underlying40 Try.underlying5 Try.underlying9
  clear h
  go_enter Try.func21, Try.ntmps21
  go_wp2
  go_ret
  exact ⟨rfl, rfl⟩


theorem wrLen (b : Nat) (A : Option Addr) (n c k : Nat) (l : List UInt8) (w : World) (h : Wr5 w b A n c k l) :
    Calls Try.prog 20 #[.pointer (some ⟨b, 0, none⟩)] w fun e w' => e = .returned (.int .i64 k) ∧ w = w' := by
  have c1 := h.1.cell 1 rfl
  clear h
  go_enter Try.func20, Try.ntmps20
  go_wp2
  go_ret
  exact ⟨rfl, rfl⟩

theorem walign (b : Nat) (A : Option Addr) (n c k : Nat) (l : List UInt8) (w : World) (h : Wr5 w b A n c k l) (hn : n ≤ 1073741824) :
    Calls Try.prog 58 #[.pointer (some ⟨b, 0, none⟩)] w fun e w' => e = .returned (.tuple #[]) ∧ Wr5 w' b A n c (8 * n) l ∧ Only (· = b) w w' := by
  have c0 := h.1.cell 0 rfl
  have c1 := h.1.cell 1 rfl
  have f1 := h.1.frozen 1
  have b1 : (n : Int) ≤ 1073741824 := by omega
  have HI := Lib.hid h
  clear h
  go_enter Try.func58, Try.ntmps58
  go_wp2
  go_end0
  refine ⟨rfl, ⟨?_, HI.out.2.only (Only.one w b 1 _) (fun j hj e => HI.out.2.ne HI.out.1 (by decide) (e ▸ hj))⟩, Only.one w b 1 _⟩
  have := HI.out.1.set 1 (.int .i64 (n * 8 : Int))
  rw [show ((8 * n : Nat) : Int) = n * 8 from by omega]
  exact this

def WrPost (b : Nat) (A : Option Addr) (n : Nat) (l r : List UInt8) (w : World) (e : Ending) (w' : World) : Prop :=
  e = .returned (.tuple #[]) ∧ ∃ A' c', Wr5 w' b A' (n + r.length) c' (8 * (n + r.length)) (l ++ r) ∧ Only (fun j => j = b ∨ Lies A j) w w' ∧ (A' = A ∨ ∃ g, A' = some ⟨g, 0, none⟩ ∧ w.heap.size ≤ g)

set_option maxHeartbeats 1000000 in
theorem wrWrite (b : Nat) (A : Option Addr) (n c k : Nat) (l : List UInt8) (s : ByteArray) (w : World) (h : Wr5 w b A n c k l) (hn2 : n + s.size ≤ 1073741824) :
    Calls Try.prog 36 #[.pointer (some ⟨b, 0, none⟩), .string s] w (WrPost b A n l s.data.toList w) := by
  have c0 := h.1.cell 0 rfl
  have hl : s.data.toList.length = s.size := by simp
  have HI := Lib.hid h
  have Hl := Lib.hid hl
  clear h hl
  go_enter Try.func36, Try.ntmps36
  go_wp2_with (first
    | (at_builtin
       refine wpList_append_brow rfl (.tmp 10) (.tmp 11) 40 9 5 rfl Try.underlying40 (by kernel_rfl) A n c s.size l s.data.toList (.string s) rfl rfl HI.out.2 Hl.out (Src.text Try.underlying9 w s) (by omega) ?_
       intro A2 c2 w2 hrow2 honly2 hlies2
       have hI2 : Is w2 b 84 [.slice A n c, .int .i64 k] := HI.out.1.only honly2 (HI.out.2.ne HI.out.1 (by decide))
       have c0'' := hI2.cell 0 rfl
       have f0'' := hI2.frozen 0
       have HR2 := Lib.hid hrow2
       have HO2 := Lib.hid honly2
       have HL2 := Lib.hid hlies2
       have HI2 := Lib.hid hI2
       clear hrow2 honly2 hlies2 hI2)
    | (go_at_call 58
       have hne : ∀ j, Lies A2 j → ¬ j = b := fun j hj e => HR2.out.ne HI2.out (by decide) (e ▸ hj)
       refine (walign b A2 (n + s.size) c2 k (l ++ s.data.toList) _ ⟨HI2.out.set 0 _, HR2.out.only (Only.one w2 b 0 _) hne⟩ (by omega)).mono ?_
       rintro e w3 ⟨rfl, hw3, ho3⟩
       have HW3 := Lib.hid hw3
       have HO3 := Lib.hid ho3
       clear hw3 ho3 hne))
  go_end0
  refine ⟨rfl, A2, c2, ?_, ?_, ?_⟩
  · rw [Hl.out]; exact HW3.out
  · exact (((Only.refl _ w).andThen HO2.out (fun j hj => .inl (.inr hj))).andThen (Only.one w2 b 0 _) (fun j e => .inl (.inl e))).andThen HO3.out (fun j e => .inl (.inl e))
  · rcases HL2.out with e | e
    · exact .inl e
    · exact .inr ⟨_, e, Nat.le_refl _⟩
end Go.Proofs.Ytoclbodmibagpaa
