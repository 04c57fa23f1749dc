/- The reader of layer 1: Align and Bytes, and Bits of a reader whatever its state. -/
import Derived.Test.YtackcgiokkbhdaaDoorBReads
import Derived.Test.YtackcgiokkbhdaaDoorTShelf
namespace Go.Proofs.YtackcgiokkbhdaaDoor
open Go.RowKit

theorem nextByte (b : Nat) (s : ByteArray) (a : Nat) (f : Bool) (w : World) (h : Is w b 80 [.string s, .int .i64 a, .bool f]) (ha : a ≤ 8589934592) :
    Calls Tryd.prog 70 #[.pointer (some ⟨b, 0, none⟩)] w fun e w' => e = .returned (.int .i64 ((a + 7) / 8 : Nat)) ∧ w = w' := by
  have c1 := h.cell 1 rfl
  have b2 : (a : Int) ≤ 8589934592 := by omega
  clear h
  go_enter Tryd.func70, Tryd.ntmps70
  go_wp2
  go_ret
  refine ⟨?_, rfl⟩
  refine congrArg (fun x => Ending.returned (Value.int .i64 x)) ?_
  omega

theorem sclone (s : ByteArray) (w : World) (hlim : s.size ≤ 281474976710656) :
    Calls Tryd.prog 71 #[.string s] w fun e w' => e = .returned (.string s) ∧ Below w.heap.size w w' := by
  go_enter Tryd.func71, Tryd.ntmps71
  go_wp2_with (go_at_call 80; refine (Tryd.stringslite_Clone s _ hlim).mono ?_; rintro e w' ⟨rfl, hb⟩)
  go_ret
  exact ⟨rfl, hb⟩
def AtPost (b : Nat) (s : ByteArray) (a : Nat) (f : Bool) (w : World) (v : Value) (e : Ending) (w' : World) : Prop :=
  e = .returned v ∧ Rd w' b s a f ∧ Only (· = b) w w'

theorem align (b : Nat) (s : ByteArray) (a : Nat) (f : Bool) (w : World) (h : Rd w b s a f) (hs : s.size ≤ 1073741824) (ha : a ≤ 8 * s.size) :
    Calls Tryd.prog 52 #[.pointer (some ⟨b, 0, none⟩)] w (AtPost b s (if f then a else (a + 7) / 8 * 8) f w (.tuple #[])) := by
  cases f
  · have f1 := Is.frozen h 1
    have c1 := Is.cell h 1 rfl
    obtain ⟨q, hq⟩ : ∃ q, (a + 7) / 8 = q := ⟨_, rfl⟩
    have b1 : q ≤ 1073741824 := by omega
    have Hq := Lib.hid hq
    have done : AtPost b s (q * 8) false w (.tuple #[]) (.returned (.tuple #[])) (w.setCell ⟨b, 1, none⟩ (.int .i64 (q * 8 : Nat))) := ⟨rfl, Is.set h 1 _, Only.one w b 1 _⟩
    have Hd := Lib.hid done
    have HI := Lib.hid h
    clear h done hq
    rw [show (if false = true then a else (a + 7) / 8 * 8) = q * 8 from by rw [Hq.out]; rfl]
    go_enter Tryd.func52, Tryd.ntmps52
    go_wp2_with (first | (go_at_call 49; refine (stopped b s a _ _ HI.out).mono ?_; rintro e w' ⟨rfl, rfl⟩) | (go_at_call 70; refine (nextByte b s a _ _ HI.out (by omega)).mono ?_; rw [Hq.out]; rintro e w' ⟨rfl, rfl⟩))
    go_end0
    exact Hd.out
  · have done : AtPost b s a true w (.tuple #[]) (.returned (.tuple #[])) w := ⟨rfl, h, Only.refl _ w⟩
    have Hd := Lib.hid done
    have HI := Lib.hid h
    clear h done
    rw [if_pos rfl]
    go_enter Tryd.func52, Tryd.ntmps52
    go_wp2_with (go_at_call 49; refine (stopped b s a _ _ HI.out).mono ?_; rintro e w' ⟨rfl, rfl⟩)
    refine bodyPost_ret (results_none rfl _ _ _) rfl ?_
    exact Hd.out

/-- Bytes cannot be given. -/
def lacks (s : ByteArray) (a : Nat) (f : Bool) (n : Int) : Bool := f || decide (n < 0) || decide ((s.size : Int) - ((a + 7) / 8 : Nat) < n)

set_option maxHeartbeats 1000000 in
theorem bytes_bad (b : Nat) (s : ByteArray) (a : Nat) (f : Bool) (n : Int) (w : World) (h : Rd w b s a f) (hs : s.size ≤ 1073741824) (ha : a ≤ 8 * s.size) (hn : lacks s a f n = true) :
    Calls Tryd.prog 54 #[.pointer (some ⟨b, 0, none⟩), .int .i64 n] w (AtPost b s a true w (.string ByteArray.empty)) := by
  cases f
  · have f2 := Is.frozen h 2
    have c2 := Is.cell h 2 rfl
    have c0 := Is.cell h 0 rfl
    obtain ⟨q, hq⟩ : ∃ q, (a + 7) / 8 = q := ⟨_, rfl⟩
    have b1 : q ≤ s.size := by omega
    have b2 : (s.size : Int) ≤ 1073741824 := by omega
    have Hq := Lib.hid hq
    have done : AtPost b s a true w (.string ByteArray.empty) (.returned (.string ByteArray.empty)) (w.setCell ⟨b, 2, none⟩ (.bool true)) := ⟨rfl, Is.set h 2 _, Only.one w b 2 _⟩
    have Hd := Lib.hid done
    have HI := Lib.hid h
    have hn' : n < 0 ∨ (s.size : Int) - q < n := by simpa [lacks, hq] using hn
    clear h done hq hn
    by_cases h1 : n < 0
    · have d1 : decide (n < 0) = true := by simpa using h1
      go_enter Tryd.func54, Tryd.ntmps54
      go_wp2_with (first | (go_at_call 49; refine (stopped b s a _ _ HI.out).mono ?_; rintro e w' ⟨rfl, rfl⟩) | (go_at_call 70; refine (nextByte b s a _ _ HI.out (by omega)).mono ?_; rw [Hq.out]; rintro e w' ⟨rfl, rfl⟩))
      go_ret
      exact Hd.out
    · have d1 : decide (n < 0) = false := by simpa using h1
      have h2 : (s.size : Int) - q < n := by omega
      clear hn'
      go_enter Tryd.func54, Tryd.ntmps54
      go_wp2_with (first | (go_at_call 49; refine (stopped b s a _ _ HI.out).mono ?_; rintro e w' ⟨rfl, rfl⟩) | (go_at_call 70; refine (nextByte b s a _ _ HI.out (by omega)).mono ?_; rw [Hq.out]; rintro e w' ⟨rfl, rfl⟩))
      go_ret
      exact Hd.out
  · have done : AtPost b s a true w (.string ByteArray.empty) (.returned (.string ByteArray.empty)) w := ⟨rfl, h, Only.refl _ w⟩
    have Hd := Lib.hid done
    have HI := Lib.hid h
    clear h done hn
    go_enter Tryd.func54, Tryd.ntmps54
    go_wp2_with (go_at_call 49; refine (stopped b s a _ _ HI.out).mono ?_; rintro e w' ⟨rfl, rfl⟩)
    go_ret
    exact Hd.out

set_option maxHeartbeats 1000000 in
theorem bytes_ok (b : Nat) (s : ByteArray) (a n : Nat) (w : World) (h : Rd w b s a false) (hs : s.size ≤ 1073741824) (hn : (a + 7) / 8 + n ≤ s.size) :
    Calls Tryd.prog 54 #[.pointer (some ⟨b, 0, none⟩), .int .i64 n] w (AtPost b s (8 * ((a + 7) / 8 + n)) false w (.string (s.extract ((a + 7) / 8) ((a + 7) / 8 + n)))) := by
  have f1 := Is.frozen h 1
  have c1 := Is.cell h 1 rfl
  have c0 := Is.cell h 0 rfl
  obtain ⟨q, hq⟩ : ∃ q, (a + 7) / 8 = q := ⟨_, rfl⟩
  have ha : a ≤ 8589934592 := by omega
  rw [hq] at hn ⊢
  have b2 : (s.size : Int) ≤ 1073741824 := by omega
  have Hq := Lib.hid hq
  have hlt := Is.lt h
  have done : ∀ w', Below (w.setCell ⟨b, 1, none⟩ (.int .i64 (8 * (q + n) : Nat))).heap.size (w.setCell ⟨b, 1, none⟩ (.int .i64 (8 * (q + n) : Nat))) w' → AtPost b s (8 * (q + n)) false w (.string (s.extract q (q + n))) (.returned (.string (s.extract q (q + n)))) w' := by
    intro w' hb
    have hsz : (w.setCell ⟨b, 1, none⟩ (.int .i64 (8 * (q + n) : Nat))).heap.size = w.heap.size := by simp [World.setCell]
    refine ⟨rfl, (hb.block b (by omega)).trans (Is.set h 1 _), ?_⟩
    exact (Only.one w b 1 _).trans ⟨hb.os, hb.tape, hb.output, hb.size, fun k hk _ => hb.block k hk⟩
  have Hd := Lib.hid done
  have HI := Lib.hid h
  clear h done hq
  have d1 : decide ((n : Int) < 0) = false := by simp
  have d2 : decide ((s.size : Int) - q < n) = false := by simp; omega
  go_enter Tryd.func54, Tryd.ntmps54
  go_wp2_with (first | (go_at_call 49; refine (stopped b s a _ _ HI.out).mono ?_; rintro e w' ⟨rfl, rfl⟩) | (go_at_call 70; refine (nextByte b s a _ _ HI.out (by omega)).mono ?_; rw [Hq.out]; rintro e w' ⟨rfl, rfl⟩))
  have e8 : (((q : Int) + n) * 8) = ((8 * (q + n) : Nat) : Int) := by omega
  rw [e8]
  have Hx : (s.extract q (q + n)).size ≤ 281474976710656 := by rw [ByteArray.size_extract]; omega
  refine (sclone _ _ Hx).mono ?_
  clear e8 Hx
  rintro e w' ⟨rfl, hb⟩
  have HB := Lib.hid hb
  clear hb
  go_wp2
  go_ret
  exact Hd.out _ HB.out

/-- What a reader comes to when it is asked for n bits. -/
def rBits (s : ByteArray) (a : Nat) (f : Bool) (n : Int) : Nat × Nat × Bool :=
  if short s.size a f n then (0, a, true) else (le s.data.toList / 2 ^ a % 2 ^ n.toNat, a + n.toNat, false)
def rBytes (s : ByteArray) (a : Nat) (f : Bool) (n : Int) : ByteArray × Nat × Bool :=
  if lacks s a f n then (ByteArray.empty, a, true) else (s.extract ((a + 7) / 8) ((a + 7) / 8 + n.toNat), 8 * ((a + 7) / 8 + n.toNat), false)

theorem rdBits (b : Nat) (s : ByteArray) (a : Nat) (f : Bool) (n : Int) (w : World) (h : Rd w b s a f) (hs : s.size ≤ 1073741824) (ha : a ≤ 8 * s.size) :
    Calls Tryd.prog 38 #[.pointer (some ⟨b, 0, none⟩), .int .i64 n] w (AtPost b s (rBits s a f n).2.1 (rBits s a f n).2.2 w (.int .u32 (rBits s a f n).1)) := by
  unfold rBits
  by_cases hh : short s.size a f n = true
  · rw [if_pos hh]
    cases f
    · exact (bits_short b s a w n h hs ha (by simpa [short, or_assoc] using hh)).mono fun _ _ x => x
    · refine (bits_stopped b s a w n h).mono ?_
      rintro e w' ⟨rfl, rfl⟩
      exact ⟨rfl, h, Only.refl _ _⟩
  · rw [if_neg hh]
    simp only [short, Bool.or_eq_true, decide_eq_true_eq, not_or] at hh
    obtain ⟨⟨⟨h1, h2⟩, h3⟩, h4⟩ := hh
    obtain rfl : f = false := by simpa using h1
    obtain ⟨m, rfl⟩ := Int.eq_ofNat_of_zero_le (show 0 ≤ n by omega)
    exact (bits_ok b s a m w h hs (by omega) (by omega)).mono fun _ _ x => x
theorem rdBytes (b : Nat) (s : ByteArray) (a : Nat) (f : Bool) (n : Int) (w : World) (h : Rd w b s a f) (hs : s.size ≤ 1073741824) (ha : a ≤ 8 * s.size) :
    Calls Tryd.prog 54 #[.pointer (some ⟨b, 0, none⟩), .int .i64 n] w (AtPost b s (rBytes s a f n).2.1 (rBytes s a f n).2.2 w (.string (rBytes s a f n).1)) := by
  unfold rBytes
  by_cases hh : lacks s a f n = true
  · rw [if_pos hh]
    exact bytes_bad b s a f n w h hs ha hh
  · rw [if_neg hh]
    simp only [lacks, Bool.or_eq_true, decide_eq_true_eq, not_or] at hh
    obtain ⟨⟨h1, h2⟩, h4⟩ := hh
    obtain rfl : f = false := by simpa using h1
    obtain ⟨m, rfl⟩ := Int.eq_ofNat_of_zero_le (show 0 ≤ n by omega)
    exact bytes_ok b s a m w h hs (by omega)
end Go.Proofs.YtackcgiokkbhdaaDoor
