/- The reader of layer 1: Bits, Align, Bytes, NewReader, as steps of what a reader is. -/
import Derived.Test.YtackcgiokkbhdaaDoorBRead
namespace Go.Proofs.YtackcgiokkbhdaaDoor
open Go.RowKit

theorem Only.one (w : World) (b i : Nat) (u : Value) : Only (· = b) w (w.setCell ⟨b, i, none⟩ u) := (Only.refl (· = b) w).set (p := ⟨b, i, none⟩) (.inl rfl) u
theorem Only.oneN (w : World) (k b i : Nat) (u : Value) : Only (· = b) w ((w.drewN k).setCell ⟨b, i, none⟩ u) := ((Only.refl (· = b) w).drewN k).trans (Only.one _ b i u)

/-- What a reader is asked for cannot be given. -/
def short (z a : Nat) (f : Bool) (n : Int) : Bool := f || decide (n < 0) || decide (32 < n) || decide (((8 * z - a : Nat) : Int) < n)

theorem newReader (s : ByteArray) (w : World) : Calls Tryd.prog 27 #[.string s] w fun e w' => e = .returned (.pointer (some ⟨w.heap.size, 0, none⟩)) ∧ w' = w.alloc (.cells #[.string s, .int .i64 0, .bool false] 80) := by
  go_enter Tryd.func27, Tryd.ntmps27
  go_wp2
  go_ret
  exact ⟨rfl, rfl⟩

theorem bits_stopped (b : Nat) (s : ByteArray) (a : Nat) (w : World) (n : Int) (h : Is w b 80 [.string s, .int .i64 a, .bool true]) :
    Calls Tryd.prog 38 #[.pointer (some ⟨b, 0, none⟩), .int .i64 n] w fun e w' => e = .returned (.int .u32 0) ∧ w = w' := by
  go_enter Tryd.func38, Tryd.ntmps38
  go_wp2_with (go_at_call 49; refine (stopped b s a _ _ h).mono ?_; rintro e w' ⟨rfl, rfl⟩)
  go_ret
  exact ⟨rfl, rfl⟩

def BadPost (b : Nat) (s : ByteArray) (a : Nat) (w : World) (v : Value) (e : Ending) (w' : World) : Prop :=
  e = .returned v ∧ Is w' b 80 [.string s, .int .i64 a, .bool true] ∧ Only (· = b) w w'

set_option maxHeartbeats 1000000 in
theorem bits_short (b : Nat) (s : ByteArray) (a : Nat) (w : World) (n : Int) (h : Is w b 80 [.string s, .int .i64 a, .bool false]) (hs : s.size ≤ 1073741824) (ha : a ≤ 8 * s.size) (hn : n < 0 ∨ 32 < n ∨ ((8 * s.size - a : Nat) : Int) < n) :
    Calls Tryd.prog 38 #[.pointer (some ⟨b, 0, none⟩), .int .i64 n] w (BadPost b s a w (.int .u32 0)) := by
  have c2 := h.cell 2 rfl
  have f2 := h.frozen 2
  have hI := Lib.hid h
  clear h
  have done : ∀ k, BadPost b s a w (.int .u32 0) (.returned (.int .u32 0)) ((w.drewN k).setCell ⟨b, 2, none⟩ (.bool true)) := fun k =>
    ⟨rfl, (hI.out.drewN k).set 2 _, Only.oneN w k b 2 _⟩
  have done0 : BadPost b s a w (.int .u32 0) (.returned (.int .u32 0)) (w.setCell ⟨b, 2, none⟩ (.bool true)) :=
    ⟨rfl, hI.out.set 2 _, Only.one w b 2 _⟩
  have Hd := Lib.hid done
  have Hd0 := Lib.hid done0
  clear done done0
  by_cases h1 : n < 0
  · have d1 : decide (n < 0) = true := by simpa using h1
    go_enter Tryd.func38, Tryd.ntmps38
    go_wp2_with (go_at_call 49; refine (stopped b s a _ _ hI.out).mono ?_; rintro e w' ⟨rfl, rfl⟩)
    go_ret
    exact Hd0.out
  · have d1 : decide (n < 0) = false := by simpa using h1
    by_cases h2 : 32 < n
    · have d2 : decide (32 < n) = true := by simpa using h2
      go_enter Tryd.func38, Tryd.ntmps38
      go_wp2_with (go_at_call 49; refine (stopped b s a _ _ hI.out).mono ?_; rintro e w' ⟨rfl, rfl⟩)
      go_ret
      exact Hd0.out
    · have d2 : decide (32 < n) = false := by simpa using h2
      have h3 : ((8 * s.size - a : Nat) : Int) < n := by omega
      generalize hz : 8 * s.size - a = z at h3
      have Hz := Lib.hid hz
      clear hz hn
      go_enter Tryd.func38, Tryd.ntmps38
      go_wp2_with (first | (go_at_call 49; refine (stopped b s a _ _ hI.out).mono ?_; rintro e w' ⟨rfl, rfl⟩) | (go_at_call 50; refine (left b s a _ _ hI.out hs ha).mono ?_; rw [Hz.out]; rintro e w' ⟨rfl, k, rfl⟩))
      go_ret
      exact Hd.out k

def BitsPost (b : Nat) (s : ByteArray) (a n : Nat) (w : World) (e : Ending) (w' : World) : Prop :=
  e = .returned (.int .u32 (le s.data.toList / 2 ^ a % 2 ^ n : Nat)) ∧ Is w' b 80 [.string s, .int .i64 (a + n : Nat), .bool false] ∧ Only (· = b) w w'

set_option maxHeartbeats 1000000 in
theorem bits_ok (b : Nat) (s : ByteArray) (a n : Nat) (w : World) (h : Is w b 80 [.string s, .int .i64 a, .bool false]) (hs : s.size ≤ 1073741824) (ha : a + n ≤ 8 * s.size) (hn : n ≤ 32) :
    Calls Tryd.prog 38 #[.pointer (some ⟨b, 0, none⟩), .int .i64 n] w (BitsPost b s a n w) := by
  have c1 := h.cell 1 rfl
  have f1 := h.frozen 1
  have b1 : (a : Int) ≤ 8589934592 := by omega
  have hI := Lib.hid h
  clear h
  have done : ∀ k, BitsPost b s a n w (.returned (.int .u32 (le s.data.toList / 2 ^ a % 2 ^ n : Nat))) ((w.drewN k).setCell ⟨b, 1, none⟩ (.int .i64 (a + n : Nat))) := fun k =>
    ⟨rfl, (hI.out.drewN k).set 1 _, Only.oneN w k b 1 _⟩
  have Hd := Lib.hid done
  clear done
  have d1 : decide ((n : Int) < 0) = false := by simp
  have d2 : decide (32 < (n : Int)) = false := by simp; omega
  obtain ⟨z, hz⟩ : ∃ z, 8 * s.size - a = z := ⟨_, rfl⟩
  have h3 : n ≤ z := by omega
  have d3 : decide ((z : Int) < n) = false := by simp; omega
  have Hz := Lib.hid hz
  clear hz
  go_enter Tryd.func38, Tryd.ntmps38
  go_wp2_with fail
  refine (stopped b s a _ _ hI.out).mono ?_
  rintro e w' ⟨rfl, rfl⟩
  go_wp2_with fail
  refine (left b s a _ _ hI.out hs (by omega)).mono ?_
  rw [Hz.out]
  rintro e w' ⟨rfl, k, rfl⟩
  go_wp2_with fail
  refine (peek b s a n _ _ (hI.out.drewN k) hs hn ha).mono ?_
  generalize hx : le s.data.toList / 2 ^ a % 2 ^ n = x at *
  have Hx := Lib.hid hx
  clear hx
  rintro e w' ⟨rfl, k2, rfl⟩
  go_wp2
  go_ret
  have := Hd.out (k + k2)
  simpa using this
/-- A reader that stands at a, whether it has failed. -/
def Rd (w : World) (b : Nat) (s : ByteArray) (a : Nat) (f : Bool) : Prop := Is w b 80 [.string s, .int .i64 a, .bool f]
end Go.Proofs.YtackcgiokkbhdaaDoor
