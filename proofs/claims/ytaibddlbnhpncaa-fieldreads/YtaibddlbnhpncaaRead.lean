/- Layer 2, reading: whether a text has bytes at a place; the number in them. -/
import Derived.Test.YtaibddlbnhpncaaRows
import Derived.Test.YtaibddlbnhpncaaBase
import Derived.Test.YtaibddlbnhpncaaMath
import Derived.Test.YtaibddlbnhpncaaClone
import Derived.BigQuiet
import Derived.Deep.QuietTactic
import Derived.Deep.LoopGhost
import Derived.Lib.Strings
import Derived.Lib.Walk
namespace Go.Proofs.Ytaibddlbnhpncaa
open Go.RowKit

/-- A place that is none: the text has not n bytes there. -/
def Lacks (s : ByteArray) (p n : Int) : Prop := p < 0 ∨ n < 0 ∨ (s.size : Int) < p + n
/-- A number of 64 bits. -/
def In64 (n : Int) : Prop := -9223372036854775808 ≤ n ∧ n ≤ 9223372036854775807

theorem holds_yes (s : ByteArray) (p k : Nat) (w : World) (hs : s.size ≤ 1000) (h : p + k ≤ s.size) : Calls Try.prog 17 #[.string s, .int .i64 p, .int .i64 k] w fun e w' => e = .returned (.bool true) ∧ w = w' := by
  have b1 : (s.size : Int) ≤ 1000 := by omega
  have b2 : (p : Int) + k ≤ s.size := by omega
  have d1 : decide ((k : Int) ≤ (s.size : Int) - p) = true := by simp; omega
  go_enter Try.func17, Try.ntmps17
  go_wp2
  go_ret
  exact ⟨rfl, rfl⟩

theorem holds_no (s : ByteArray) (p n : Int) (w : World) (hs : s.size ≤ 1000) (hp : In64 p) (h : Lacks s p n) : Calls Try.prog 17 #[.string s, .int .i64 p, .int .i64 n] w fun e w' => e = .returned (.bool false) ∧ w = w' := by
  have b1 : (s.size : Int) ≤ 1000 := by omega
  obtain ⟨hp1, hp2⟩ := hp
  by_cases h1 : p < 0
  · have d1 : decide (0 ≤ p) = false := by simp; omega
    clear h hp1 hp2
    go_enter Try.func17, Try.ntmps17
    go_wp2
    go_ret
    exact ⟨rfl, rfl⟩
  · have d1 : decide (0 ≤ p) = true := by simp; omega
    by_cases h2 : n < 0
    · have d2 : decide (0 ≤ n) = false := by simp; omega
      clear h hp1 hp2
      go_enter Try.func17, Try.ntmps17
      go_wp2
      go_ret
      exact ⟨rfl, rfl⟩
    · have d2 : decide (0 ≤ n) = true := by simp; omega
      have d3 : decide (n ≤ (s.size : Int) - p) = false := by unfold Lacks at h; simp; omega
      clear h
      go_enter Try.func17, Try.ntmps17
      go_wp2
      go_ret
      exact ⟨rfl, rfl⟩

theorem or_step (l : List UInt8) (k : Nat) (c : UInt8) (hk : k ≤ 7) (h : l[k]? = some c) :
    bits BinOp.or IntKind.u64 (le (l.take k) : Int) (IntKind.u64.wrap (IntKind.u64.wrap (c.toNat : Int) * 2 ^ (k * 8))) = (le (l.take (k + 1)) : Int) := by
  have hc : c.toNat < 256 := c.toNat_lt
  have hp : 2 ^ (k * 8) ≤ 2 ^ 56 := Nat.pow_le_pow_right (by decide) (by omega)
  have hl : le (l.take k) < 2 ^ (8 * k) := Nat.lt_of_lt_of_le (le_lt _) (by rw [pow256]; exact Nat.pow_le_pow_right (by decide) (by have := List.length_take_le k l; omega))
  have hm : 2 ^ (k * 8) * c.toNat ≤ 2 ^ 56 * 255 := Nat.mul_le_mul hp (by omega)
  have e : (c.toNat : Int) * 2 ^ (k * 8) = ((2 ^ (8 * k) * c.toNat : Nat) : Int) := by rw [Nat.mul_comm 8 k]; simp [Int.mul_comm]
  rw [Nat.mul_comm k 8] at hm hp
  rw [IntWalk.u64_in (c.toNat : Int) (by omega), e, IntWalk.u64_in _ (by omega), bits_or_u64_nat _ _ (by omega) (by omega), or_add _ _ _ hl]
  have hkl : k < l.length := by
    rcases Nat.lt_or_ge k l.length with hh | hh
    · exact hh
    · rw [List.getElem?_eq_none hh] at h; cases h
  rw [le_take_succ l k hkl, h, pow256]
  rfl

/-- The number in k bytes at a place. -/
def num (s : ByteArray) (p k : Nat) : Nat := le ((s.data.toList.drop p).take k)
theorem num_lt (s : ByteArray) (p k : Nat) : num s p k < 256 ^ k := Nat.lt_of_lt_of_le (le_lt _) (Nat.pow_le_pow_right (by decide) (List.length_take_le _ _))

set_option maxHeartbeats 1000000 in
theorem number_yes (s : ByteArray) (p k : Nat) (w : World) (hs : s.size ≤ 1000) (h : p + k ≤ s.size) (hk : k ≤ 8) : Calls Try.prog 16 #[.string s, .int .i64 p, .int .i64 k] w fun e w' => e = .returned (.tuple #[.int .u64 (num s p k : Nat), .int .i64 0]) ∧ w = w' := by
  have b1 : (s.size : Int) ≤ 1000 := by omega
  have b2 : (p : Int) + k ≤ s.size := by omega
  go_enter Try.func16, Try.ntmps16
  go_wp2_with (go_at_call 17; refine (holds_yes s p k _ hs h).mono ?_; rintro e w' ⟨rfl, rfl⟩)
  go_loopg [8, 16] k (fun gk v i wx => ∃ j : Nat, i = .int .i64 j ∧ v = .int .u64 (num s p j : Nat) ∧ j + gk ≤ k ∧ k ≤ j + gk ∧ wx = w)
  case atStart => exact ⟨0, rfl, rfl, by omega, by omega, rfl⟩
  case round =>
    obtain ⟨j, rfl, rfl, hj, hj2, rfl⟩ := hrel
    by_cases hlt : j < k
    · have hstep : Hid (bits BinOp.or IntKind.u64 (num s p j : Int) (IntKind.u64.wrap (IntKind.u64.wrap ((s[p + j]'(by omega)).toNat : Int) * 2 ^ (j * 8))) = (num s p (j + 1) : Int)) :=
        or_step _ j _ (by omega) (by rw [List.getElem?_drop, List.getElem?_eq_getElem (by simp; omega)]; rfl)
      go_wp2
      go_roundg (gk - 1)
      case measure => omega
      case rel => exact ⟨j + 1, by go_num, by rw [hstep.out], by omega, by omega, rfl⟩
    · obtain rfl : k = j := by omega
      go_wp2
      go_ret2
      exact ⟨rfl, rfl⟩

theorem number_no (s : ByteArray) (p n : Int) (w : World) (hs : s.size ≤ 1000) (hp : In64 p) (h : Lacks s p n) : Calls Try.prog 16 #[.string s, .int .i64 p, .int .i64 n] w fun e w' => e = .returned (.tuple #[.int .u64 0, .int .i64 3]) ∧ w = w' := by
  have HP := Lib.hid hp
  have HH := Lib.hid h
  clear hp h
  go_enter Try.func16, Try.ntmps16
  go_wp2_with (go_at_call 17; refine (holds_no s p n _ hs HP.out HH.out).mono ?_; rintro e w' ⟨rfl, rfl⟩)
  go_ret2
  exact ⟨rfl, rfl⟩
end Go.Proofs.Ytaibddlbnhpncaa
