/- FieldReads of layer 2: the walk over the law. -/
import Derived.Test.YtaibddlbnhpncaaPut
namespace Go.Proofs.Ytaibddlbnhpncaa.All
open Go.RowKit

/-- A place is one at which the bytes are, or it is none. -/
theorem place (s : ByteArray) (p n : Int) : Lacks s p n ∨ ∃ q k : Nat, p = q ∧ n = k ∧ q + k ≤ s.size := by
  by_cases h : Lacks s p n
  · exact .inl h
  · unfold Lacks at h
    exact .inr ⟨p.toNat, n.toNat, by omega, by omega, by omega⟩

theorem both2 (s : ByteArray) (p : Int) (hs : s.size ≤ 1000) (hp : In64 p) : ∃ (x : Nat) (e : Int), x ≤ 65535 ∧
    (∀ w, Calls Try.prog 6 #[.string s, .int .i64 p] w fun r w' => r = .returned (.tuple #[.int .i64 x, .int .i64 e]) ∧ w = w') ∧
    (∀ w, Calls Try.prog 10 #[.string s, .int .i64 p, .int .i64 2] w fun r w' => r = .returned (.tuple #[.int .u64 x, .int .i64 e]) ∧ w = w') := by
  rcases place s p 2 with h | ⟨q, k, rfl, hk, h⟩
  · exact ⟨0, 3, by omega, fun w => u16_no s p w hs hp h, fun w => rnum_no s p 2 w hs hp h⟩
  · obtain rfl : k = 2 := by omega
    exact ⟨num s q 2, 0, by have := num_lt s q 2; omega, fun w => u16_yes s q w hs h, fun w => rnum_yes s q 2 w hs h (by omega)⟩
theorem both4 (s : ByteArray) (p : Int) (hs : s.size ≤ 1000) (hp : In64 p) : ∃ (x : Nat) (e : Int), x ≤ 4294967295 ∧
    (∀ w, Calls Try.prog 7 #[.string s, .int .i64 p] w fun r w' => r = .returned (.tuple #[.int .i64 x, .int .i64 e]) ∧ w = w') ∧
    (∀ w, Calls Try.prog 10 #[.string s, .int .i64 p, .int .i64 4] w fun r w' => r = .returned (.tuple #[.int .u64 x, .int .i64 e]) ∧ w = w') := by
  rcases place s p 4 with h | ⟨q, k, rfl, hk, h⟩
  · exact ⟨0, 3, by omega, fun w => u32_no s p w hs hp h, fun w => rnum_no s p 4 w hs hp h⟩
  · obtain rfl : k = 4 := by omega
    exact ⟨num s q 4, 0, by have := num_lt s q 4; omega, fun w => u32_yes s q w hs h, fun w => rnum_yes s q 4 w hs h (by omega)⟩
theorem both8 (s : ByteArray) (p : Int) (hs : s.size ≤ 1000) (hp : In64 p) : ∃ (x : Nat) (e : Int),
    (∀ w, Calls Try.prog 8 #[.string s, .int .i64 p] w fun r w' => r = .returned (.tuple #[.int .u64 x, .int .i64 e]) ∧ w = w') ∧
    (∀ w, Calls Try.prog 10 #[.string s, .int .i64 p, .int .i64 8] w fun r w' => r = .returned (.tuple #[.int .u64 x, .int .i64 e]) ∧ w = w') := by
  rcases place s p 8 with h | ⟨q, k, rfl, hk, h⟩
  · exact ⟨0, 3, fun w => u64_no s p w hs hp h, fun w => rnum_no s p 8 w hs hp h⟩
  · obtain rfl : k = 8 := by omega
    exact ⟨num s q 8, 0, fun w => u64_yes s q w hs h, fun w => rnum_yes s q 8 w hs h (by omega)⟩
theorem bothCut (s : ByteArray) (p n : Int) (hs : s.size ≤ 1000) (hp : In64 p) : ∃ (t : ByteArray) (e : Int),
    (∀ w, Calls Try.prog 9 #[.string s, .int .i64 p, .int .i64 n] w fun r w' => r = .returned (.tuple #[.string t, .int .i64 e]) ∧ Below w.heap.size w w') ∧
    (∀ w, Calls Try.prog 11 #[.string s, .int .i64 p, .int .i64 n] w fun r w' => r = .returned (.tuple #[.string t, .int .i64 e]) ∧ w = w') := by
  rcases place s p n with h | ⟨q, k, rfl, rfl, h⟩
  · exact ⟨⟨#[]⟩, 3, fun w => cut_no s p n w hs hp h, fun w => rcut_no s p n w hs hp h⟩
  · exact ⟨s.extract q (q + k), 0, fun w => cut_yes s q k w hs h, fun w => rcut_yes s q k w hs h⟩

set_option maxHeartbeats 4000000 in
set_option maxRecDepth 100000 in
theorem walk (s : ByteArray) (p n : Int) (w : World) (hs : s.size ≤ maxLen) (hp : In64 p) : Calls Try.prog 3 #[.string s, .int .i64 p, .int .i64 n] w fun e w' => e = .returned (.bool true) ∧ Below w.heap.size w w' := by
  unfold maxLen at hs
  by_cases h100 : 100 < s.size
  · go_enter Try.func3, Try.ntmps3
    go_wp2_with (go_at_call 5; refine (awake _).mono ?_; rintro e w1 ⟨rfl, hb⟩; have HB := Lib.hid hb; clear hb)
    go_ret
    exact ⟨rfl, HB.out⟩
  · obtain ⟨x2, e2, b2, U2, R2⟩ := both2 s p (by omega) hp
    obtain ⟨x4, e4, b4, U4, R4⟩ := both4 s p (by omega) hp
    obtain ⟨x8, e8, U8, R8⟩ := both8 s p (by omega) hp
    obtain ⟨t, et, UC, RC⟩ := bothCut s p n (by omega) hp
    have HU2 := Lib.hid U2
    have HU4 := Lib.hid U4
    have HU8 := Lib.hid U8
    have HUC := Lib.hid UC
    have HR2 := Lib.hid R2
    have HR4 := Lib.hid R4
    have HR8 := Lib.hid R8
    have HRC := Lib.hid RC
    clear U2 U4 U8 UC R2 R4 R8 RC hp
    go_enter Try.func3, Try.ntmps3
    go_wp2_with fail
    refine (awake _).mono ?_
    rintro e w1 ⟨rfl, hb⟩
    have H1 := Lib.hid hb
    clear hb
    go_wp2_with fail
    refine (HU2.out _).mono ?_
    rintro e w' ⟨rfl, rfl⟩
    go_wp2_with fail
    refine (HU4.out _).mono ?_
    rintro e w' ⟨rfl, rfl⟩
    go_wp2_with fail
    refine (HU8.out _).mono ?_
    rintro e w' ⟨rfl, rfl⟩
    go_wp2_with fail
    refine (HUC.out _).mono ?_
    rintro e w2 ⟨rfl, hb⟩
    have H2 := Lib.hid (H1.out.trans (hb.mono H1.out.size))
    clear hb H1
    go_wp2_with fail
    refine (HR2.out _).mono ?_
    rintro e w' ⟨rfl, rfl⟩
    go_wp2_with fail
    refine (HR4.out _).mono ?_
    rintro e w' ⟨rfl, rfl⟩
    go_wp2_with fail
    refine (HR8.out _).mono ?_
    rintro e w' ⟨rfl, rfl⟩
    go_wp2_with fail
    refine (HRC.out _).mono ?_
    rintro e w' ⟨rfl, rfl⟩
    go_wp2
    go_ret
    exact ⟨rfl, H2.out⟩
end Go.Proofs.Ytaibddlbnhpncaa.All
