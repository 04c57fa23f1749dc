/- Layer 4: numbers turned and moved, the program's and the document's. -/
import Derived.Test.YtohocbfmjcfdgaaDoorRows
import Derived.Test.YtohocbfmjcfdgaaDoorMath
import Derived.Test.YtohocbfmjcfdgaaDoorBase
import Derived.BigQuiet
import Derived.Deep.QuietTactic
import Derived.Deep.LoopGhost
import Derived.Lib.Strings
import Derived.Lib.Walk
namespace Go.Proofs.YtohocbfmjcfdgaaDoor
open Go.RowKit

theorem rot_parts (n x : Nat) (h : x < 4294967296) : bits .or .u32 ((x * 2 ^ (32 - n) % 4294967296 : Nat) : Int) ((x / 2 ^ n : Nat) : Int) = (rot n x : Nat) := by
  rw [u32_or_nat _ _ (Nat.mod_lt _ (by decide)) (div_lt h), Nat.or_comm]
  rfl
theorem rot_parts2 (n x : Nat) (h : x < 4294967296) : bits .or .u32 ((x / 2 ^ n : Nat) : Int) ((x * 2 ^ (32 - n) % 4294967296 : Nat) : Int) = (rot n x : Nat) := by
  rw [u32_or_nat _ _ (div_lt h) (Nat.mod_lt _ (by decide))]
  rfl
theorem low5 (n m : Nat) (h0 : 0 < n) (h : n + m = 32) : bits .and .u64 (IntKind.u64.wrap (-(n : Int))) 31 = (m : Int) := by
  have e := u64_and_nat (18446744073709551616 - n) 31 (by omega) (by decide)
  rw [nat_mask5] at e
  have hw : IntKind.u64.wrap (-(n : Int)) = ((18446744073709551616 - n : Nat) : Int) := by
    simp [IntKind.wrap, IntKind.bits, IntKind.signed]
    omega
  rw [hw, show (31 : Int) = ((31 : Nat) : Int) from rfl, e]
  congr 1
  omega

set_option maxHeartbeats 1000000 in
theorem rotl (n x : Nat) (w : World) (hx : x < 4294967296) (h0 : 0 < n) (hn : n < 32) : Calls Tryd.prog 26 #[.int .u32 x, .int .i64 (-(n : Int))] w fun e w' => e = .returned (.int .u32 (rot n x : Nat)) ∧ w = w' := by
  have h2 := rot_parts n x hx
  obtain ⟨m, hm⟩ : ∃ m, 32 - n = m := ⟨_, rfl⟩
  have h1 := low5 n m h0 (by omega)
  rw [hm] at h2
  have h3 : 32 - (m : Int) = (n : Int) := by omega
  have h4 : (32 - (m : Int)).toNat = n := by omega
  have h2' : bits .or .u32 ((x : Int) * 2 ^ m % 4294967296) ((x : Int) / 2 ^ n) = (rot n x : Nat) := by
    rw [← h2]
    simp
  have H2 := Lib.hid h2'
  clear h2 h2'
  go_enter Tryd.func26, Tryd.ntmps26
  go_wp2
  rw [H2.out]
  go_ret
  exact ⟨rfl, rfl⟩

set_option maxHeartbeats 1000000 in
theorem right (n x : Nat) (w : World) (hx : x < 4294967296) (h0 : 0 < n) (hn : n < 32) : Calls Tryd.prog 14 #[.int .u32 x, .int .i64 n] w fun e w' => e = .returned (.int .u32 (rot n x : Nat)) ∧ ∃ k, w.drewN k = w' := by
  have h2 := rot_parts2 n x hx
  have h2' : bits .or .u32 ((x : Int) / 2 ^ n) ((x : Int) * 2 ^ (32 - n) % 4294967296) = (rot n x : Nat) := by
    rw [← h2]
    simp
  have H2 := Lib.hid h2'
  clear h2 h2'
  go_enter Tryd.func14, Tryd.ntmps14
  go_wp2_with fail
  go_quiet (fail)
  go_wp2
  rw [H2.out]
  go_ret
  exact ⟨rfl, _, rfl⟩

set_option maxHeartbeats 1000000 in
theorem turned (x y z v : Nat) (w : World) (hv : v < 4294967296) (hx : 0 < x ∧ x < 32) (hy : 0 < y ∧ y < 32) (hz : 0 < z ∧ z < 32) :
    Calls Tryd.prog 24 #[.int .u32 v, .int .i64 x, .int .i64 y, .int .i64 z] w fun e w' => e = .returned (.int .u32 (rot x v ^^^ rot y v ^^^ rot z v : Nat)) ∧ w = w' := by
  have g1 := u32_xor_nat (rot x v) (rot y v) (rot_lt hv) (rot_lt hv)
  have g2 := u32_xor_nat (rot x v ^^^ rot y v) (rot z v) (xor_lt (rot_lt hv) (rot_lt hv)) (rot_lt hv)
  have C1 := Lib.hid (rotl x v w hv hx.1 hx.2)
  have C2 := Lib.hid (rotl y v w hv hy.1 hy.2)
  have C3 := Lib.hid (rotl z v w hv hz.1 hz.2)
  go_enter Tryd.func24, Tryd.ntmps24
  go_wp2_with fail
  refine C1.out.mono ?_
  rintro e w' ⟨rfl, rfl⟩
  go_wp2_with fail
  refine C2.out.mono ?_
  rintro e w' ⟨rfl, rfl⟩
  go_wp2_with fail
  refine C3.out.mono ?_
  rintro e w' ⟨rfl, rfl⟩
  go_wp2
  go_ret
  exact ⟨rfl, rfl⟩

theorem rotlq (n x k : Nat) (w : World) (hx : x < 4294967296) (h0 : 0 < n) (hn : n < 32) :
    Calls Tryd.prog 26 #[.int .u32 x, .int .i64 (-(n : Int))] (w.drewN k) fun e w' => e = .returned (.int .u32 (rot n x : Nat)) ∧ ∃ m, w' = w.drewN m := by
  refine (rotl n x (w.drewN k) hx h0 hn).mono ?_
  rintro e w' ⟨rfl, rfl⟩
  exact ⟨rfl, k, rfl⟩

set_option maxHeartbeats 1000000 in
theorem moved (x y z v : Nat) (w : World) (hv : v < 4294967296) (hx : 0 < x ∧ x < 32) (hy : 0 < y ∧ y < 32) (hz : z < 32) :
    Calls Tryd.prog 25 #[.int .u32 v, .int .i64 x, .int .i64 y, .int .i64 z] w fun e w' => e = .returned (.int .u32 (rot x v ^^^ rot y v ^^^ v / 2 ^ z : Nat)) ∧ ∃ k, w.drewN k = w' := by
  have g1 := u32_xor_nat (rot x v) (rot y v) (rot_lt hv) (rot_lt hv)
  have g2 := u32_xor_nat (rot x v ^^^ rot y v) (v / 2 ^ z) (xor_lt (rot_lt hv) (rot_lt hv)) (div_lt hv)
  have g2' : bits .xor .u32 ((rot x v ^^^ rot y v : Nat) : Int) ((v : Int) / 2 ^ z) = ((rot x v ^^^ rot y v ^^^ v / 2 ^ z : Nat) : Int) := by
    rw [← g2]
    simp
  clear g2
  obtain ⟨hx1, hx2⟩ := hx
  obtain ⟨hy1, hy2⟩ := hy
  go_enter Tryd.func25, Tryd.ntmps25
  go_wp2_with fail
  go_quiet (first | (go_at_call 26; exact rotlq _ _ _ _ (by assumption) (by assumption) (by assumption)))
  go_wp2
  go_ret
  exact ⟨rfl, _, rfl⟩

/-- The same at numbers as they are written. -/
def movedBy (x y z : Int) (v : Nat) : Nat := rot x.toNat v ^^^ rot y.toNat v ^^^ v / 2 ^ z.toNat
def turnedBy (x y z : Int) (v : Nat) : Nat := rot x.toNat v ^^^ rot y.toNat v ^^^ rot z.toNat v
theorem movedBy0 (v : Nat) : movedBy 7 18 3 v = small0 v := rfl
theorem movedBy1 (v : Nat) : movedBy 17 19 10 v = small1 v := rfl
theorem turnedBy0 (v : Nat) : turnedBy 2 13 22 v = big0 v := rfl
theorem turnedBy1 (v : Nat) : turnedBy 6 11 25 v = big1 v := rfl
theorem moveds (v : Nat) (x y z : Int) (w : World) (hv : v < 4294967296) (hx : 0 < x ∧ x < 32) (hy : 0 < y ∧ y < 32) (hz : 0 ≤ z ∧ z < 32) :
    Calls Tryd.prog 25 #[.int .u32 v, .int .i64 x, .int .i64 y, .int .i64 z] w fun e w' => e = .returned (.int .u32 (movedBy x y z v : Nat)) ∧ ∃ k, w.drewN k = w' := by
  have h := moved x.toNat y.toNat z.toNat v w hv (by omega) (by omega) (by omega)
  rw [Int.toNat_of_nonneg (by omega), Int.toNat_of_nonneg (by omega), Int.toNat_of_nonneg (by omega)] at h
  exact h
theorem turneds (v : Nat) (x y z : Int) (w : World) (hv : v < 4294967296) (hx : 0 < x ∧ x < 32) (hy : 0 < y ∧ y < 32) (hz : 0 < z ∧ z < 32) :
    Calls Tryd.prog 24 #[.int .u32 v, .int .i64 x, .int .i64 y, .int .i64 z] w fun e w' => e = .returned (.int .u32 (turnedBy x y z v : Nat)) ∧ w = w' := by
  have h := turned x.toNat y.toNat z.toNat v w hv (by omega) (by omega) (by omega)
  rw [Int.toNat_of_nonneg (by omega), Int.toNat_of_nonneg (by omega), Int.toNat_of_nonneg (by omega)] at h
  exact h
theorem turnedq (v : Nat) (x y z : Int) (k : Nat) (w : World) (hv : v < 4294967296) (hx : 0 < x ∧ x < 32) (hy : 0 < y ∧ y < 32) (hz : 0 < z ∧ z < 32) :
    Calls Tryd.prog 24 #[.int .u32 v, .int .i64 x, .int .i64 y, .int .i64 z] (w.drewN k) fun e w' => e = .returned (.int .u32 (turnedBy x y z v : Nat)) ∧ ∃ m, w' = w.drewN m := by
  refine (turneds v x y z (w.drewN k) hv hx hy hz).mono ?_
  rintro e w' ⟨rfl, rfl⟩
  exact ⟨rfl, k, rfl⟩
def rightBy (n : Int) (v : Nat) : Nat := rot n.toNat v
theorem rights (v : Nat) (n : Int) (w : World) (hv : v < 4294967296) (hn : 0 < n ∧ n < 32) :
    Calls Tryd.prog 14 #[.int .u32 v, .int .i64 n] w fun e w' => e = .returned (.int .u32 (rightBy n v : Nat)) ∧ ∃ k, w.drewN k = w' := by
  have h := right n.toNat v w hv (by omega) (by omega)
  rw [Int.toNat_of_nonneg (by omega)] at h
  exact h
theorem rightq (v : Nat) (n : Int) (k : Nat) (w : World) (hv : v < 4294967296) (hn : 0 < n ∧ n < 32) :
    Calls Tryd.prog 14 #[.int .u32 v, .int .i64 n] (w.drewN k) fun e w' => e = .returned (.int .u32 (rightBy n v : Nat)) ∧ ∃ m, w' = w.drewN m := by
  refine (rights v n (w.drewN k) hv hn).mono ?_
  rintro e w' ⟨rfl, m, rfl⟩
  exact ⟨rfl, k + m, by rw [World.drewN_drewN]⟩
/-- Four bytes, the highest first. -/
theorem join4 (a b c d : Nat) (ha : a < 256) (hb : b < 256) (hc : c < 256) (hd : d < 256) :
    bits .or .u32 (bits .or .u32 (bits .or .u32 ((a : Int) % 4294967296 * 16777216 % 4294967296) ((b : Int) % 4294967296 * 65536 % 4294967296)) ((c : Int) % 4294967296 * 256 % 4294967296)) ((d : Int) % 4294967296)
      = ((a * 16777216 + b * 65536 + c * 256 + d : Nat) : Int) := by
  have e0 : (a : Int) % 4294967296 * 16777216 % 4294967296 = ((a * 16777216 : Nat) : Int) := by omega
  have e1 : (b : Int) % 4294967296 * 65536 % 4294967296 = ((b * 65536 : Nat) : Int) := by omega
  have e2 : (c : Int) % 4294967296 * 256 % 4294967296 = ((c * 256 : Nat) : Int) := by omega
  have e3 : (d : Int) % 4294967296 = ((d : Nat) : Int) := by omega
  rw [e0, e1, e2, e3, u32_or_nat _ _ (by omega) (by omega), nat_join 24 (a * 16777216) (b * 65536) (by omega) (by omega),
    u32_or_nat _ _ (by omega) (by omega), nat_join 16 _ (c * 256) (by omega) (by omega), u32_or_nat _ _ (by omega) (by omega), nat_join 8 _ d (by omega) (by omega)]
end Go.Proofs.YtohocbfmjcfdgaaDoor
