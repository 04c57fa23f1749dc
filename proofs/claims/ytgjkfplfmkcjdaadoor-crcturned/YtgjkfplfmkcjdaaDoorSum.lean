/- Layer 3: the CRC of a text, at once and in parts. -/
import Derived.Test.YtgjkfplfmkcjdaaDoorShift
import Derived.Test.YtgjkfplfmkcjdaaDoorBase
namespace Go.Proofs.YtgjkfplfmkcjdaaDoor
open Go.RowKit

/-- The table that the program's text lays: what four bits leave behind. -/
def Tab (w : World) : Prop := 0 < w.heap.size ∧ ∀ i, i < 16 → w.cell? ⟨0, i, none⟩ = some (.int .u32 (steps 4 i : Nat))
theorem Tab.below {B : Nat} {w w' : World} (h : Tab w) (k : Below B w w') (hB : 0 < B) : Tab w' :=
  ⟨Nat.lt_of_lt_of_le h.1 k.size, fun i hi => (World.cell?_of_block (k.block 0 hB)).trans (h.2 i hi)⟩

/-- Four bits by the table. -/
theorem half_step (c : Nat) (h : c < 4294967296) : bits .xor .u32 ((c : Int) / 16) (steps 4 (c % 16) : Nat) = ((steps 4 c : Nat) : Int) := by
  have e := u32_xor_nat (c / 16) (steps 4 (c % 16)) (by omega) (steps_lt (by omega) 4)
  rw [steps_parts 4 c]
  exact e
theorem byte_steps (c b : Nat) : steps 4 (steps 4 (c ^^^ b)) = steps 8 (c ^^^ b) := (steps_add 4 4 _).symm

/-- All bits turned. -/
theorem turned (c : Nat) (h : c < 4294967296) : bits .xor .u32 IntKind.u32.max (c : Int) = ((c ^^^ full : Nat) : Int) := by
  have e := u32_xor_nat 4294967295 c (by decide) h
  rw [Nat.xor_comm] at e
  exact e

set_option maxHeartbeats 1000000 in
theorem extend (v : Nat) (s : ByteArray) (w : World) (hv : v < 4294967296) (hT : Tab w) (hs : s.size ≤ 1073741824) :
    Calls Tryd.prog 14 #[.int .u32 v, .string s] w fun e w' => e = .returned (.int .u32 (run (v ^^^ full) s.data.toList ^^^ full : Nat)) ∧ w = w' := by
  have b1 : (s.size : Int) ≤ 1073741824 := by omega
  have hsg : IntKind.u32.signed = false := rfl
  have h1 := turned v hv
  have HT := Lib.hid hT
  clear hT
  obtain ⟨z, hz⟩ : ∃ z, v ^^^ full = z := ⟨_, rfl⟩
  have hzl : z < 4294967296 := by rw [← hz]; exact Nat.xor_lt_two_pow (n := 32) hv (by decide)
  rw [hz] at h1 ⊢
  clear hz
  go_enter Tryd.func14, Tryd.ntmps14
  go_wp2_with fail
  go_loopg [5, 11] s.size (fun gk c i wx => ∃ k : Nat, i = .int .i64 k ∧ k + gk ≤ s.size ∧ s.size ≤ k + gk ∧ c = .int .u32 (run z (s.data.toList.take k) : Nat) ∧ wx = w)
  case atStart => exact ⟨0, rfl, by omega, by omega, rfl, rfl⟩
  case round =>
    obtain ⟨k, rfl, hk, hk2, rfl, rfl⟩ := hrel
    have hcl := run_lt (s.data.toList.take k) z hzl
    by_cases hlt : k < s.size
    · obtain ⟨x, hx⟩ : ∃ x, s[k] = x := ⟨_, rfl⟩
      have hx2 : s.data.toList[k]? = some x := by rw [← hx, List.getElem?_eq_getElem (by simpa using hlt)]; rfl
      have hxl : x.toNat < 256 := x.toNat_lt
      have hnx := run_snoc s.data.toList z k (by simpa using hlt)
      rw [hx2, Option.getD_some, ← byte_steps] at hnx
      obtain ⟨c, hc⟩ : ∃ c, run z (s.data.toList.take k) = c := ⟨_, rfl⟩
      rw [hc] at hnx hcl ⊢
      have g1 := u32_xor_nat c x.toNat hcl (by omega)
      have hl1 : c ^^^ x.toNat < 4294967296 := Nat.xor_lt_two_pow (n := 32) hcl (by omega)
      obtain ⟨c1, hc1⟩ : ∃ c1, c ^^^ x.toNat = c1 := ⟨_, rfl⟩
      rw [hc1] at g1 hl1 hnx
      have g2 := and_15 c1 hl1
      have g3 := HT.out.2 (c1 % 16) (by omega)
      have g4 := half_step c1 hl1
      have hl2 : steps 4 c1 < 4294967296 := steps_lt hl1 4
      have hq1 : c1 % 16 < 16 := by omega
      obtain ⟨c2, hc2⟩ : ∃ c2, steps 4 c1 = c2 := ⟨_, rfl⟩
      rw [hc2] at g4 hl2 hnx
      have g5 := and_15 c2 hl2
      have g6 := HT.out.2 (c2 % 16) (by omega)
      have g7 := half_step c2 hl2
      have hq2 : c2 % 16 < 16 := by omega
      obtain ⟨q1, hq1e⟩ : ∃ q, c1 % 16 = q := ⟨_, rfl⟩
      obtain ⟨q2, hq2e⟩ : ∃ q, c2 % 16 = q := ⟨_, rfl⟩
      rw [hq1e] at g2 g3 g4 hq1
      rw [hq2e] at g5 g6 g7 hq2
      rw [← hnx] at g7
      clear hx2 hnx hc hc1 hc2 hq1e hq2e
      go_wp2
      go_roundg (gk - 1)
      case measure => omega
      case rel => exact ⟨k + 1, by go_num, by omega, by omega, rfl, rfl⟩
    · obtain rfl : k = s.size := by omega
      have e : s.data.toList.take s.size = s.data.toList := List.take_of_length_le (by simp)
      rw [e] at hcl ⊢
      have h2 := turned _ hcl
      go_wp2
      go_ret
      exact ⟨rfl, rfl⟩

theorem of (s : ByteArray) (w : World) (hT : Tab w) (hs : s.size ≤ 1073741824) : Calls Tryd.prog 10 #[.string s] w fun e w' => e = .returned (.int .u32 (crc s.data.toList : Nat)) ∧ w = w' := by
  have h := extend 0 s w (by decide) hT hs
  rw [Nat.zero_xor] at h
  have H := Lib.hid h
  clear h hT
  go_enter Tryd.func10, Tryd.ntmps10
  go_wp2_with fail
  refine H.out.mono ?_
  rintro e w' ⟨rfl, rfl⟩
  go_wp2
  go_ret
  exact ⟨rfl, rfl⟩

/-- A Sum of the bytes l. -/
def Sum (w : World) (b : Nat) (l : List UInt8) : Prop := Is w b 38 [.int .u32 (crc l : Nat), .int .i64 (l.length : Nat)]
theorem crc_nil : crc [] = 0 := by
  unfold crc
  rw [run_nil, Nat.xor_self]

theorem new (w : World) : Calls Tryd.prog 7 #[] w fun e w' => e = .returned (.pointer (some ⟨w.heap.size, 0, none⟩)) ∧ Sum w' w.heap.size [] ∧ Only (fun _ => False) w w' := by
  go_enter Tryd.func7, Tryd.ntmps7
  go_wp2
  go_ret
  refine ⟨rfl, ?_, (Only.refl _ w).alloc _⟩
  unfold Sum
  rw [crc_nil]
  exact Is.new w 38 _

theorem crc_more (a b : List UInt8) : run (crc a ^^^ full) b ^^^ full = crc (a ++ b) := by
  unfold crc
  rw [xor_back, run_append]

theorem add (b : Nat) (l : List UInt8) (s : ByteArray) (w : World) (h : Sum w b l) (hT : Tab w) (hl : l.length ≤ 1073741824) (hs : s.size ≤ 1073741824) :
    Calls Tryd.prog 8 #[.pointer (some ⟨b, 0, none⟩), .string s] w fun e w' => e = .returned (.pointer (some ⟨b, 0, none⟩)) ∧ Sum w' b (l ++ s.data.toList) ∧ Only (· = b) w w' := by
  unfold Sum at h
  have c0 := h.cell 0 rfl
  have c1 := h.cell 1 rfl
  have f0 := h.frozen 0
  have f1 := h.frozen 1
  have C := extend (crc l) s w (crc_lt l) hT hs
  rw [crc_more] at C
  have HC := Lib.hid C
  have HI := Lib.hid h
  clear C h hT
  go_enter Tryd.func8, Tryd.ntmps8
  go_wp2_with fail
  refine HC.out.mono ?_
  rintro e w' ⟨rfl, rfl⟩
  go_wp2
  go_ret
  have hn : (l.length : Int) + s.size = ((l ++ s.data.toList).length : Nat) := by simp
  refine ⟨rfl, ?_, ((Only.refl (· = b) w).set (p := ⟨b, 0, none⟩) (.inl rfl) _).set (p := ⟨b, 1, none⟩) (.inl rfl) _⟩
  rw [hn]
  exact (HI.out.set 0 _).set 1 _
theorem value (b : Nat) (l : List UInt8) (w : World) (h : Sum w b l) : Calls Tryd.prog 9 #[.pointer (some ⟨b, 0, none⟩)] w fun e w' => e = .returned (.int .u32 (crc l : Nat)) ∧ w = w' := by
  unfold Sum at h
  have c0 := h.cell 0 rfl
  clear h
  go_enter Tryd.func9, Tryd.ntmps9
  go_wp2
  go_ret
  exact ⟨rfl, rfl⟩
theorem len (b : Nat) (l : List UInt8) (w : World) (h : Sum w b l) : Calls Tryd.prog 12 #[.pointer (some ⟨b, 0, none⟩)] w fun e w' => e = .returned (.int .i64 (l.length : Nat)) ∧ w = w' := by
  unfold Sum at h
  have c1 := h.cell 1 rfl
  clear h
  go_enter Tryd.func12, Tryd.ntmps12
  go_wp2
  go_ret
  exact ⟨rfl, rfl⟩
theorem add_nil (s : ByteArray) (w : World) : Calls Tryd.prog 8 #[.pointer none, .string s] w fun e w' => e = .returned (.pointer none) ∧ w = w' := by
  go_enter Tryd.func8, Tryd.ntmps8
  go_wp2
  go_ret
  exact ⟨rfl, rfl⟩
theorem value_nil (w : World) : Calls Tryd.prog 9 #[.pointer none] w fun e w' => e = .returned (.int .u32 0) ∧ w = w' := by
  go_enter Tryd.func9, Tryd.ntmps9
  go_wp2
  go_ret
  exact ⟨rfl, rfl⟩
theorem len_nil (w : World) : Calls Tryd.prog 12 #[.pointer none] w fun e w' => e = .returned (.int .i64 0) ∧ w = w' := by
  go_enter Tryd.func12, Tryd.ntmps12
  go_wp2
  go_ret
  exact ⟨rfl, rfl⟩
end Go.Proofs.YtgjkfplfmkcjdaaDoor
