/- Layer 9, the program: marks of places. -/
import Derived.Test.YtgkplmjbjbikmaaPick
namespace Go.Proofs.Ytgkplmjbjbikmaa
open Go.RowKit

/-- The cells of a trail. -/
def tr (s : ByteArray) (wd W N O kept : Nat) : List Value := [.string s, .int .i64 wd, .slice (some ⟨N, 0, none⟩) W W, .slice (some ⟨O, 0, none⟩) s.size s.size, .int .i64 kept]

theorem in64 (m : Nat) (h : m ≤ 1000000000000) : wrap64 (m : Int) = (m : Int) := by
  unfold wrap64
  omega
/-- The mark of three bytes. -/
def markZ (x y z : UInt8) : Int :=
  bits BinOp.or IntKind.u32 (bits BinOp.or IntKind.u32 ((x.toNat : Int) % 4294967296 * 65536 % 4294967296) ((y.toNat : Int) % 4294967296 * 256 % 4294967296)) ((z.toNat : Int) % 4294967296) * 2654435761 % 4294967296
def markN (x y z : UInt8) (wd : Nat) : Nat := (markZ x y z / 2 ^ (32 - wd)).toNat
def markAt (L : List UInt8) (wd i : Nat) : Nat := markN (L.getD i 0) (L.getD (i + 1) 0) (L.getD (i + 2) 0) wd
theorem markN_is (x y z : UInt8) (wd : Nat) (h : wd ≤ 32) : markZ x y z / 2 ^ (32 - wd) = (markN x y z wd : Int) ∧ markN x y z wd < 2 ^ wd := by
  have h1 : 0 ≤ markZ x y z := Int.emod_nonneg _ (by decide)
  have h2 : markZ x y z < 4294967296 := Int.emod_lt_of_pos _ (by decide)
  have hp : (2 : Int) ^ wd * 2 ^ (32 - wd) = 4294967296 := by rw [← Int.pow_add, show wd + (32 - wd) = 32 from by omega]; rfl
  have h0 : (0 : Int) < 2 ^ (32 - wd) := Int.pow_pos (by decide)
  have h3 : 0 ≤ markZ x y z / 2 ^ (32 - wd) := Int.ediv_nonneg h1 (Int.le_of_lt h0)
  have h4 : markZ x y z / 2 ^ (32 - wd) < 2 ^ wd := Int.ediv_lt_of_lt_mul h0 (by rw [hp]; exact h2)
  have e : markZ x y z / 2 ^ (32 - wd) = (markN x y z wd : Int) := by unfold markN; omega
  refine ⟨e, ?_⟩
  rw [e] at h4
  exact_mod_cast h4
theorem markAt_lt (L : List UInt8) (wd i : Nat) (h : wd ≤ 32) : markAt L wd i < 2 ^ wd := (markN_is _ _ _ wd h).2

set_option maxHeartbeats 4000000 in
theorem mark (T : Nat) (s : ByteArray) (wd W N O kept a : Nat) (w : World) (h : Is w T 53 (tr s wd W N O kept)) (hs : s.size ≤ 1073741824) (ha : a + 3 ≤ s.size) (hwd : wd ≤ 15) :
    Calls Try.prog 29 #[.pointer (some ⟨T, 0, none⟩), .int .i64 a] w fun e w' => e = .returned (.int .i64 (markAt s.data.toList wd a : Nat)) ∧ ∃ k, w' = w.drewN k := by
  have b1 : (s.size : Int) ≤ 1073741824 := by omega
  have c0 := h.cell 0 rfl
  have c1 := h.cell 1 rfl
  obtain ⟨A1, hA1⟩ : ∃ A1, a + 1 = A1 := ⟨_, rfl⟩
  obtain ⟨A2, hA2⟩ : ∃ A2, a + 2 = A2 := ⟨_, rfl⟩
  have l0 : (a : Int) < (s.size : Int) := by omega
  have l1 : (A1 : Int) < (s.size : Int) := by omega
  have l2 : (A2 : Int) < (s.size : Int) := by omega
  have w1 : IntKind.i64.wrap ((a : Int) + 1) = (A1 : Int) := by rw [IntWalk.i64_in _ (by omega)]; omega
  have w2 : IntKind.i64.wrap ((a : Int) + 2) = (A2 : Int) := by rw [IntWalk.i64_in _ (by omega)]; omega
  obtain ⟨x, hx⟩ : ∃ x, s[a]'(by omega) = x := ⟨_, rfl⟩
  obtain ⟨y, hy⟩ : ∃ y, s[A1]'(by omega) = y := ⟨_, rfl⟩
  obtain ⟨z, hz⟩ : ∃ z, s[A2]'(by omega) = z := ⟨_, rfl⟩
  obtain ⟨m, hm⟩ : ∃ m, markN x y z wd = m := ⟨_, rfl⟩
  have HM : Hid (markAt s.data.toList wd a = m) := Lib.hid (by unfold markAt; rw [hA1, hA2, ← byte_at s a (by omega), ← byte_at s A1 (by omega), ← byte_at s A2 (by omega), hx, hy, hz, hm])
  have hlt := (markN_is x y z wd (by omega)).2
  have hle : 2 ^ wd ≤ 2 ^ 15 := Nat.pow_le_pow_right (by decide) hwd
  have HE : Hid (wrap64 (markZ x y z / 2 ^ (32 - wd)) = (m : Int)) := Lib.hid (by
    rw [(markN_is x y z wd (by omega)).1, hm]
    rw [hm] at hlt
    exact in64 m (by omega))
  clear h hm hlt hle
  go_enter Try.func29, Try.ntmps29
  go_upto_region 1 with fail
  go_quiet (fail)
  go_wp2
  go_ret
  rw [HM.out, ← HE.out]
  exact ⟨rfl, _, rfl⟩

theorem marked (T : Nat) (s : ByteArray) (wd W N O kept a : Nat) (B : Bool) (w : World) (h : Is w T 53 (tr s wd W N O kept)) (hs : s.size ≤ 1073741824) (ha : a ≤ 1073741824) (hB : decide (a + 3 ≤ s.size) = B) :
    Calls Try.prog 27 #[.pointer (some ⟨T, 0, none⟩), .int .i64 a] w fun e w' => e = .returned (.bool B) ∧ Only (fun _ => False) w w' := by
  have b1 : (s.size : Int) ≤ 1073741824 := by omega
  have b2 : (a : Int) ≤ 1073741824 := by omega
  have c0 := h.cell 0 rfl
  have HB := Lib.hid hB
  clear h hB
  by_cases h3 : a + 3 ≤ s.size
  · have e1 : (3 : Int) ≤ (s.size : Int) - (a : Int) := by omega
    go_enter Try.func27, Try.ntmps27
    go_wp2
    go_ret
    rw [← HB.out]
    exact ⟨by simp [h3], Only.refl _ w⟩
  · have e1 : ¬ (3 : Int) ≤ (s.size : Int) - (a : Int) := by omega
    go_enter Try.func27, Try.ntmps27
    go_wp2
    go_ret
    rw [← HB.out]
    exact ⟨by simp [h3], Only.refl _ w⟩
end Go.Proofs.Ytgkplmjbjbikmaa
