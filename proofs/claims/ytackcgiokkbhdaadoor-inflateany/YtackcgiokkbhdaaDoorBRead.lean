/- The small calls of the reader of layer 1 (bits): each by a contract over the block in which the reader lies. -/
import Derived.Test.YtackcgiokkbhdaaDoorRows
import Derived.Test.YtackcgiokkbhdaaDoorBBase
import Derived.Test.YtackcgiokkbhdaaDoorBMath
import Derived.BigQuiet
import Derived.Deep.QuietTactic
import Derived.Lib.Walk
import Derived.Lib.Strings
namespace Go.Proofs.YtackcgiokkbhdaaDoor
open Go.RowKit
theorem low_eq (v n : Nat) (hv : v < 18446744073709551616) (hn : n ≤ 32) : bits BinOp.and IntKind.u64 (v : Int) (IntKind.u64.wrap (IntKind.u64.wrap (2 ^ n) - 1)) = ((v % 2 ^ n : Nat) : Int) := by
  have h1 : 2 ^ n ≤ 2 ^ 32 := Nat.pow_le_pow_right (by decide) hn
  have h2 : 0 < 2 ^ n := Nat.pow_pos (by decide)
  have e : ((2 : Int) ^ n) = ((2 ^ n : Nat) : Int) := by simp
  rw [e, IntWalk.u64_in ((2 ^ n : Nat) : Int) (by omega), IntWalk.u64_in _ (by omega), show (((2 ^ n : Nat) : Int) - 1) = ((2 ^ n - 1 : Nat) : Int) from by omega]
  rw [bits_and_u64_nat _ _ hv (by omega), and_low]
theorem lowest (v n : Nat) (w : World) (hv : v < 18446744073709551616) (hn : n ≤ 32) : Calls Tryd.prog 69 #[.int .u64 v, .int .i64 n] w fun e w' => e = .returned (.int .u64 (v % 2 ^ n : Nat)) ∧ w = w' := by
  have hl := low_eq v n hv hn
  go_enter Tryd.func69, Tryd.ntmps69
  go_wp2
  go_ret
  exact ⟨rfl, rfl⟩

theorem or_step (l : List UInt8) (k : Nat) (c : UInt8) (hk : k ≤ 4) (h : l[k]? = some c) :
    bits BinOp.or IntKind.u64 (le (l.take k) : Int) (IntKind.u64.wrap (IntKind.u64.wrap (c.toNat : Int) * 2 ^ (k * 8))) = (le (l.take (k + 1)) : Int) := by
  have hc : c.toNat < 256 := c.toNat_lt
  have hp : 2 ^ (k * 8) ≤ 2 ^ 32 := Nat.pow_le_pow_right (by decide) (by omega)
  have hl : le (l.take k) < 2 ^ (8 * k) := Nat.lt_of_lt_of_le (le_lt _) (by rw [pow256]; exact Nat.pow_le_pow_right (by decide) (by have := List.length_take_le k l; omega))
  have hm : 2 ^ (k * 8) * c.toNat ≤ 2 ^ 32 * 255 := Nat.mul_le_mul hp (by omega)
  have e : (c.toNat : Int) * 2 ^ (k * 8) = ((2 ^ (8 * k) * c.toNat : Nat) : Int) := by rw [Nat.mul_comm 8 k]; simp [Int.mul_comm]
  rw [Nat.mul_comm k 8] at hm hp
  rw [IntWalk.u64_in (c.toNat : Int) (by omega), e, IntWalk.u64_in _ (by omega), bits_or_u64_nat _ _ (by omega) (by omega), or_add _ _ _ hl]
  have hkl : k < l.length := by
    rcases Nat.lt_or_ge k l.length with hh | hh
    · exact hh
    · rw [List.getElem?_eq_none hh] at h; cases h
  rw [le_take_succ l k hkl, h, pow256]
  rfl

theorem peek (b : Nat) (s : ByteArray) (a n : Nat) (w : World) (f : Bool) (h : Is w b 80 [.string s, .int .i64 a, .bool f]) (hs : s.size ≤ 1073741824) (hn : n ≤ 32) (ha : a + n ≤ 8 * s.size) :
    Calls Tryd.prog 51 #[.pointer (some ⟨b, 0, none⟩), .int .i64 n] w fun e w' => e = .returned (.int .u32 (le s.data.toList / 2 ^ a % 2 ^ n : Nat)) ∧ ∃ k, w' = w.drewN k := by
  have c0 := h.cell 0 rfl
  have c1 := h.cell 1 rfl
  have c2 := h.cell 2 rfl
  have b1 : 0 ≤ (a : Int) := by omega
  have b2 : (a : Int) ≤ 8589934592 := by omega
  clear h
  go_enter Tryd.func51, Tryd.ntmps51
  go_wp2
  go_quiet (fail)
  go_wp2
  obtain ⟨q, hq, hq'⟩ : ∃ q : Nat, (a : Int) / 8 = q ∧ q = a / 8 := ⟨a / 8, by omega, rfl⟩
  obtain ⟨r, hr, hr'⟩ : ∃ r : Nat, (a : Int) % 8 = r ∧ r = a % 8 := ⟨a % 8, by omega, rfl⟩
  have Hq := Lib.hid hq'; have Hr := Lib.hid hr'
  have q1 : 8 * q + r ≤ a := by omega
  have q2 : a ≤ 8 * q + r := by omega
  have q3 : r ≤ 7 := by omega
  rw [hq, hr]
  clear hq hr hq' hr' b1 b2 c1 c2
  go_loopw [7, 8] (fun v i wx => ∃ k : Nat, k ≤ 5 ∧ i = .int .i64 k ∧ v = .int .u64 (le ((s.data.toList.drop q).take k) : Nat) ∧ ∃ m, wx = w.drewN m) (fun _ i _ => 6 - (intOf i).toNat)
  case atStart => exact ⟨0, by omega, rfl, rfl, _, rfl⟩
  case round =>
    obtain ⟨k, hk, rfl, rfl, m, rfl⟩ := hrel
    by_cases hlt : 8 * k < r + n
    · have hstep : Hid (bits BinOp.or IntKind.u64 (le ((s.data.toList.drop q).take k) : Int) (IntKind.u64.wrap (IntKind.u64.wrap ((s[q + k]'(by omega)).toNat : Int) * 2 ^ (k * 8))) = (le ((s.data.toList.drop q).take (k + 1)) : Int)) :=
        or_step _ k _ (by omega) (by rw [List.getElem?_drop, List.getElem?_eq_getElem (by simp; omega)]; rfl)
      go_wp2
      exact ⟨⟨k + 1, by omega, by go_num, by rw [hstep.out], m, rfl⟩, by simp [intOf]; omega⟩
    · go_wp2_with fail
      rw [show ((le ((s.data.toList.drop q).take k) : Nat) : Int) / 2 ^ r = ((le ((s.data.toList.drop q).take k) / 2 ^ r : Nat) : Int) from by simp]
      have hbig : le ((s.data.toList.drop q).take k) / 2 ^ r < 18446744073709551616 := by
        refine Nat.lt_of_le_of_lt (Nat.div_le_self _ _) (Nat.lt_of_lt_of_le (le_lt _) ?_)
        rw [pow256]
        exact Nat.le_trans (Nat.pow_le_pow_right (n := 2) (j := 40) (by decide) (by have := List.length_take_le k (s.data.toList.drop q); omega)) (by decide)
      have hfin : le ((s.data.toList.drop q).take k) / 2 ^ r % 2 ^ n = le s.data.toList / 2 ^ a % 2 ^ n := by
        rw [Hq.out, Hr.out]
        exact bits_of_bytes _ a n k (by rw [← Hr.out]; omega)
      have h32 : le s.data.toList / 2 ^ a % 2 ^ n < 4294967296 := Nat.lt_of_lt_of_le (Nat.mod_lt _ (Nat.pow_pos (by decide))) (Nat.pow_le_pow_right (n := 2) (j := 32) (by decide) hn)
      refine (lowest _ n _ hbig hn).mono ?_
      rw [hfin]
      generalize hx : le s.data.toList / 2 ^ a % 2 ^ n = x at *
      have Hx := Lib.hid hx
      clear hfin hbig hx
      rintro e w' ⟨rfl, rfl⟩
      go_wp2
      go_ret
      refine ⟨?_, _, rfl⟩
      rw [Hx.out]
      rfl

theorem stopped (b : Nat) (s : ByteArray) (a : Nat) (f : Bool) (w : World) (h : Is w b 80 [.string s, .int .i64 a, .bool f]) :
    Calls Tryd.prog 49 #[.pointer (some ⟨b, 0, none⟩)] w fun e w' => e = .returned (.bool f) ∧ w = w' := by
  have c2 := h.cell 2 rfl
  clear h
  go_enter Tryd.func49, Tryd.ntmps49
  go_wp2
  go_ret
  exact ⟨rfl, rfl⟩
theorem left (b : Nat) (s : ByteArray) (a : Nat) (f : Bool) (w : World) (h : Is w b 80 [.string s, .int .i64 a, .bool f]) (hs : s.size ≤ 1073741824) (ha : a ≤ 8 * s.size) :
    Calls Tryd.prog 50 #[.pointer (some ⟨b, 0, none⟩)] w fun e w' => e = .returned (.int .i64 (8 * s.size - a : Nat)) ∧ ∃ k, w' = w.drewN k := by
  have c0 := h.cell 0 rfl
  have c1 := h.cell 1 rfl
  have b1 : (s.size : Int) ≤ 1073741824 := by omega
  have b2 : (a : Int) ≤ 8589934592 := by omega
  clear h
  go_enter Tryd.func50, Tryd.ntmps50
  go_wp2
  go_quiet (fail)
  go_wp2
  go_ret
  refine ⟨?_, _, rfl⟩
  refine congrArg (fun x => Ending.returned (Value.int .i64 x)) ?_
  omega
theorem at_ (b : Nat) (s : ByteArray) (a : Nat) (f : Bool) (w : World) (h : Is w b 80 [.string s, .int .i64 a, .bool f]) :
    Calls Tryd.prog 17 #[.pointer (some ⟨b, 0, none⟩)] w fun e w' => e = .returned (.int .i64 a) ∧ w = w' := by
  have c1 := h.cell 1 rfl
  clear h
  go_enter Tryd.func17, Tryd.ntmps17
  go_wp2
  go_ret
  exact ⟨rfl, rfl⟩
/-- Whether it has failed, as Err tells it. -/
def errOf (f : Bool) : Int := bif f then 3 else 0
theorem err (b : Nat) (s : ByteArray) (a : Nat) (f : Bool) (w : World) (h : Is w b 80 [.string s, .int .i64 a, .bool f]) :
    Calls Tryd.prog 39 #[.pointer (some ⟨b, 0, none⟩)] w fun e w' => e = .returned (.int .i64 (errOf f)) ∧ w = w' := by
  cases f
  all_goals
    go_enter Tryd.func39, Tryd.ntmps39
    go_wp2_with (go_at_call 49; refine (stopped b s a _ _ h).mono ?_; rintro e w' ⟨rfl, rfl⟩)
    go_ret
    exact ⟨rfl, rfl⟩
end Go.Proofs.YtackcgiokkbhdaaDoor
