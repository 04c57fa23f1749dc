/- Layer 3: products of polynomials. -/
import Derived.Test.YtgjkfplfmkcjdaaDoorRows
import Derived.Test.YtgjkfplfmkcjdaaDoorMath
import Derived.WalkSpells
import Derived.BigQuiet
import Derived.Deep.QuietTactic
import Derived.Deep.LoopGhost
import Derived.Lib.Strings
import Derived.Lib.Walk
import Derived.Lib.Hide
import Derived.Laws.BitsAllLaws
namespace Go.Proofs.YtgjkfplfmkcjdaaDoor
open Go.RowKit

theorem and_one (c : Nat) (h : c < 4294967296) : bits .and .u32 (c : Int) 1 = ((c % 2 : Nat) : Int) := by
  have e := u32_and_nat c 1 h (by decide)
  rw [nat_mask1] at e
  exact e
theorem and_15 (c : Nat) (h : c < 4294967296) : bits .and .u32 (c : Int) 15 = ((c % 16 : Nat) : Int) := by
  have e := u32_and_nat c 15 h (by decide)
  rw [nat_mask4] at e
  exact e
theorem and_top (c : Nat) (h : c < 4294967296) : bits .and .u32 (c : Int) 2147483648 = ((c / 2147483648 % 2 * 2147483648 : Nat) : Int) := by
  have e := u32_and_nat c 2147483648 h (by decide)
  rw [nat_bit31] at e
  exact e
/-- The lowest bit of an int. -/
theorem and_one64 (m : Nat) (h : m ≤ 1073741824) : bits .and .i64 (m : Int) 1 = ((m % 2 : Nat) : Int) := by
  show IntKind.i64.wrap ((BitVec.ofInt 64 (m : Int) &&& BitVec.ofInt 64 ((1 : Nat) : Int)).toNat : Int) = _
  rw [BitVec.toNat_and, BitVec.ofInt_natCast, BitVec.ofInt_natCast, BitVec.toNat_ofNat, BitVec.toNat_ofNat, Nat.mod_eq_of_lt (show m < 2 ^ 64 by omega), Nat.mod_eq_of_lt (show 1 < 2 ^ 64 by omega), nat_mask1]
  exact IntWalk.i64_in _ (by omega)

theorem shift (c : Nat) (w : World) (h : c < 4294967296) : Calls Tryd.prog 19 #[.int .u32 c] w fun e w' => e = .returned (.int .u32 (step c : Nat)) ∧ w = w' := by
  have h1 := and_one c h
  rcases Nat.mod_two_eq_zero_or_one c with hc | hc
  · have hs : step c = c / 2 := by unfold step; rw [if_neg (by omega)]
    rw [hc] at h1
    rw [hs]
    clear hs hc
    go_enter Tryd.func19, Tryd.ntmps19
    go_wp2
    go_ret
    exact ⟨by simp, rfl⟩
  · have hs : step c = c / 2 ^^^ poly := by unfold step; rw [if_pos hc]
    have h2 : bits .xor .u32 ((c : Int) / 2) 3988292384 = ((step c : Nat) : Int) := by
      have e := u32_xor_nat (c / 2) 3988292384 (by omega) (by decide)
      rw [hs]
      exact e
    rw [hc] at h1
    clear hs hc
    go_enter Tryd.func19, Tryd.ntmps19
    go_wp2
    go_ret
    exact ⟨rfl, rfl⟩

/-- The highest bit of what has moved up. -/
theorem top_bit (a j : Nat) (h : j ≤ 31) : a * 2 ^ j % 4294967296 / 2147483648 % 2 = a / 2 ^ (31 - j) % 2 := by
  have e1 : 4294967296 = 2 ^ j * (2 ^ (31 - j) * 2) := by
    rw [← Nat.pow_succ, ← Nat.pow_add, show j + (31 - j + 1) = 32 from by omega]
  have e2 : 2147483648 = 2 ^ j * 2 ^ (31 - j) := by rw [← Nat.pow_add, show j + (31 - j) = 31 from by omega]
  rw [e1, e2, Nat.mul_comm a, Nat.mul_mod_mul_left, Nat.mul_div_mul_left _ _ (Nat.pow_pos (by decide)), Nat.mod_mul_right_div_self, Nat.mod_mod]

set_option maxHeartbeats 1000000 in
theorem times (a b : Nat) (w : World) (ha : a < 4294967296) (hb : b < 4294967296) : Calls Tryd.prog 16 #[.int .u32 a, .int .u32 b] w fun e w' => e = .returned (.int .u32 (prod a b 32 : Nat)) ∧ w = w' := by
  go_enter Tryd.func16, Tryd.ntmps16
  go_wp2_with fail
  go_loopg [0, 1, 5, 6] 32 (fun gk x y p i wx => ∃ j : Nat, i = .int .i64 j ∧ j + gk ≤ 32 ∧ 32 ≤ j + gk ∧ x = .int .u32 (a * 2 ^ j % 4294967296 : Nat) ∧ y = .int .u32 (steps j b : Nat) ∧ p = .int .u32 (prod a b j : Nat) ∧ wx = w)
  case atStart => exact ⟨0, rfl, by omega, by omega, by rw [Nat.pow_zero, Nat.mul_one, Nat.mod_eq_of_lt ha], rfl, rfl, rfl⟩
  case round =>
    obtain ⟨j, rfl, hj, hj2, rfl, rfl, rfl, rfl⟩ := hrel
    have hyl := steps_lt hb j
    have hpl := prod_lt a b hb j
    by_cases hlt : j < 32
    · have htop := top_bit a j (by omega)
      have hyn : step (steps j b) = steps (j + 1) b := (steps_succ j b).symm
      have hxn : a * 2 ^ j % 4294967296 * 2 % 4294967296 = a * 2 ^ (j + 1) % 4294967296 := by rw [Nat.pow_succ, ← Nat.mul_assoc]; omega
      have hpn : prod a b (j + 1) = if (a / 2 ^ (31 - j)) % 2 = 1 then prod a b j ^^^ steps j b else prod a b j := rfl
      obtain ⟨x, hx⟩ : ∃ x, a * 2 ^ j % 4294967296 = x := ⟨_, rfl⟩
      obtain ⟨y, hy⟩ : ∃ y, steps j b = y := ⟨_, rfl⟩
      obtain ⟨p, hp⟩ : ∃ y, prod a b j = y := ⟨_, rfl⟩
      have hxl : x < 4294967296 := by omega
      rw [hx] at htop hxn
      rw [hy] at hyl hyn hpn
      rw [hp] at hpl hpn
      rw [hx, hy, hp]
      have HY := Lib.hid hyn
      have HX := Lib.hid hxn
      have h1 := and_top x hxl
      have h2 := u32_xor_nat p y hpl hyl
      rcases Nat.mod_two_eq_zero_or_one (x / 2147483648) with hc | hc
      · rw [hc] at h1 htop
        rw [← htop, if_neg (by omega)] at hpn
        have HP := Lib.hid hpn
        clear hx hy hp hyn hxn hpn htop hc h2
        go_wp2_with fail
        refine (shift y wr hyl).mono ?_
        rintro e w' ⟨rfl, rfl⟩
        go_wp2_with fail
        go_roundg (gk - 1)
        case measure => omega
        case rel => exact ⟨j + 1, by go_num, by omega, by omega, by rw [← HX.out]; go_num, by rw [HY.out], by rw [HP.out], rfl⟩
      · rw [hc] at h1 htop
        rw [← htop, if_pos rfl] at hpn
        have HP := Lib.hid hpn
        clear hx hy hp hyn hxn hpn htop hc
        go_wp2_with fail
        refine (shift y wr hyl).mono ?_
        rintro e w' ⟨rfl, rfl⟩
        go_wp2_with fail
        go_roundg (gk - 1)
        case measure => omega
        case rel => exact ⟨j + 1, by go_num, by omega, by omega, by rw [← HX.out]; go_num, by rw [HY.out], by rw [HP.out], rfl⟩
    · obtain rfl : j = 32 := by omega
      go_wp2
      go_ret
      exact ⟨rfl, rfl⟩

/-- A product by one that has moved on. -/
theorem times_one (a k : Nat) (w : World) (ha : a < 4294967296) : Calls Tryd.prog 16 #[.int .u32 a, .int .u32 (steps k 2147483648 : Nat)] w fun e w' => e = .returned (.int .u32 (steps k a : Nat)) ∧ w = w' := by
  have h := times a (steps k 2147483648) w ha (steps_lt (by decide) k)
  rw [prod_all a k ha] at h
  exact h

set_option maxHeartbeats 1000000 in
theorem bytesOn (n : Nat) (w : World) (hn : n ≤ 1073741824) : Calls Tryd.prog 17 #[.int .i64 n] w fun e w' => e = .returned (.int .u32 (steps (8 * n) 2147483648 : Nat)) ∧ w = w' := by
  have h0 : steps 8 2147483648 = 8388608 := steps_one 8 (by omega)
  go_enter Tryd.func17, Tryd.ntmps17
  go_wp2_with fail
  go_loopg [0, 3, 4] (n + 1) (fun gk i r q wx => ∃ m rr k : Nat, i = .int .i64 m ∧ m + 1 ≤ gk ∧ r = .int .u32 (steps rr 2147483648 : Nat) ∧ q = .int .u32 (steps k 2147483648 : Nat) ∧ rr + k * m = 8 * n ∧ m ≤ n ∧ wx = w)
  case atStart => exact ⟨n, 0, 8, rfl, by omega, rfl, by rw [h0]; rfl, by omega, by omega, rfl⟩
  case round =>
    obtain ⟨m, rr, k, rfl, hj, rfl, rfl, hj3, hj4, rfl⟩ := hrel
    have h1 := and_one64 m (by omega)
    have hrl : steps rr 2147483648 < 4294967296 := steps_lt (by decide) rr
    have hkl : steps k 2147483648 < 4294967296 := steps_lt (by decide) k
    have hrk : steps k (steps rr 2147483648) = steps (rr + k) 2147483648 := (steps_add rr k _).symm
    have hkk : steps k (steps k 2147483648) = steps (k + k) 2147483648 := (steps_add k k _).symm
    have C1 := times_one (steps rr 2147483648) k wr hrl
    have C2 := times_one (steps k 2147483648) k wr hkl
    rw [hrk] at C1
    rw [hkk] at C2
    have H3 := Lib.hid hj3
    have HC1 := Lib.hid C1
    have HC2 := Lib.hid C2
    clear hj3 C1 C2 hrk hkk hrl hkl h0
    by_cases hlt : 0 < m
    · rcases Nat.mod_two_eq_zero_or_one m with hc | hc
      · rw [hc] at h1
        go_wp2_with fail
        refine HC2.out.mono ?_
        rintro e w' ⟨rfl, rfl⟩
        go_wp2_with fail
        go_roundg (m / 2 + 1)
        case measure => omega
        case rel =>
          refine ⟨m / 2, rr, k + k, by go_num, by omega, rfl, rfl, ?_, by omega, rfl⟩
          rw [← H3.out, ← Nat.two_mul, Nat.mul_comm 2 k, Nat.mul_assoc, show 2 * (m / 2) = m from by omega]
      · rw [hc] at h1
        go_wp2_with fail
        refine HC1.out.mono ?_
        rintro e w' ⟨rfl, rfl⟩
        go_wp2_with fail
        refine HC2.out.mono ?_
        rintro e w' ⟨rfl, rfl⟩
        go_wp2_with fail
        go_roundg (m / 2 + 1)
        case measure => omega
        case rel =>
          refine ⟨m / 2, rr + k, k + k, by go_num, by omega, rfl, rfl, ?_, by omega, rfl⟩
          rw [← H3.out, ← Nat.two_mul, Nat.mul_comm 2 k, Nat.mul_assoc, Nat.add_assoc, Nat.add_comm k, ← Nat.mul_succ, show (2 * (m / 2)).succ = m from by omega]
    · obtain rfl : m = 0 := by omega
      obtain rfl : rr = 8 * n := by have := H3.out; omega
      go_wp2
      go_ret
      exact ⟨rfl, rfl⟩

theorem join_yes (a b n : Nat) (w : World) (ha : a < 4294967296) (hb : b < 4294967296) (hn : n ≤ 4194304) : Calls Tryd.prog 13 #[.int .u32 a, .int .u32 b, .int .i64 n] w fun e w' => e = .returned (.int .u32 (steps (8 * n) a ^^^ b : Nat)) ∧ w = w' := by
  have h2 := u32_xor_nat (steps (8 * n) a) b (steps_lt ha _) hb
  have C := times_one a (8 * n) w ha
  have HC := Lib.hid C
  clear C
  go_enter Tryd.func13, Tryd.ntmps13
  go_wp2_with fail
  refine (bytesOn n w (by omega)).mono ?_
  rintro e w' ⟨rfl, rfl⟩
  go_wp2_with fail
  refine HC.out.mono ?_
  rintro e w' ⟨rfl, rfl⟩
  go_wp2
  go_ret
  exact ⟨rfl, rfl⟩
theorem join_no (a b : Nat) (n : Int) (w : World) (hn : n < 0 ∨ 4194304 < n) : Calls Tryd.prog 13 #[.int .u32 a, .int .u32 b, .int .i64 n] w fun e w' => e = .returned (.int .u32 a) ∧ w = w' := by
  rcases hn with h | h
  · go_enter Tryd.func13, Tryd.ntmps13
    go_wp2
    go_ret
    exact ⟨rfl, rfl⟩
  · have h0 : decide (n < 0) = false := by simp; omega
    go_enter Tryd.func13, Tryd.ntmps13
    go_wp2
    go_ret
    exact ⟨rfl, rfl⟩
end Go.Proofs.YtgjkfplfmkcjdaaDoor
