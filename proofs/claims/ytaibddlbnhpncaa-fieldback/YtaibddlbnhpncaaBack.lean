/- FieldBack of layer 2: the walk over the law. -/
import Derived.Test.YtaibddlbnhpncaaPut
namespace Go.Proofs.Ytaibddlbnhpncaa.Back
open Go.RowKit

set_option maxHeartbeats 4000000 in
set_option maxRecDepth 100000 in
theorem walk (n : Int) (w : World) : Calls Try.prog 4 #[.int .i64 n] w fun e w' => e = .returned (.bool true) ∧ Below w.heap.size w w' := by
  obtain ⟨v, hv1, hv2⟩ : ∃ v : Nat, IntKind.u64.wrap n = v ∧ v ≤ 18446744073709551615 := by
    refine ⟨(n % 18446744073709551616).toNat, ?_, by omega⟩
    simp [IntKind.wrap, IntKind.bits, IntKind.signed]
    omega
  have hv3 : IntKind.u16.wrap n = (v % 65536 : Nat) := by
    revert hv1
    simp [IntKind.wrap, IntKind.bits, IntKind.signed]
    omega
  have hv4 : IntKind.u32.wrap n = (v % 4294967296 : Nat) := by
    revert hv1
    simp [IntKind.wrap, IntKind.bits, IntKind.signed]
    omega
  have n2 : num ⟨(bytesOf v 2).toArray⟩ 0 2 = v % 65536 := num_bytesOf v 2
  have n4 : num ⟨(bytesOf v 4).toArray⟩ 0 4 = v % 4294967296 := num_bytesOf v 4
  have n8 : num ⟨(bytesOf v 8).toArray⟩ 0 8 = v := by
    rw [num_bytesOf]
    exact Nat.mod_eq_of_lt (by omega)
  obtain ⟨x2, hx2⟩ : ∃ x, v % 65536 = x := ⟨_, rfl⟩
  obtain ⟨x4, hx4⟩ : ∃ x, v % 4294967296 = x := ⟨_, rfl⟩
  have b2 : x2 ≤ 65535 := by omega
  have b4 : x4 ≤ 4294967295 := by omega
  rw [hx2] at hv3 n2
  rw [hx4] at hv4 n4
  obtain ⟨t2, ht2⟩ : ∃ t : ByteArray, ⟨(bytesOf v 2).toArray⟩ = t := ⟨_, rfl⟩
  obtain ⟨t4, ht4⟩ : ∃ t : ByteArray, ⟨(bytesOf v 4).toArray⟩ = t := ⟨_, rfl⟩
  obtain ⟨t8, ht8⟩ : ∃ t : ByteArray, ⟨(bytesOf v 8).toArray⟩ = t := ⟨_, rfl⟩
  have s2 : t2.size = 2 := by rw [← ht2]; exact bytesOf_length v 2
  have s4 : t4.size = 4 := by rw [← ht4]; exact bytesOf_length v 4
  have s8 : t8.size = 8 := by rw [← ht8]; exact bytesOf_length v 8
  have P16 := fun w => p16 n v w hv2 hv1
  have P32 := fun w => p32 n v w hv2 hv1
  have P64 := fun w => p64 v w hv2
  have R2 := fun w => rput v 2 w hv2 (by omega)
  have R4 := fun w => rput v 4 w hv2 (by omega)
  have R8 := fun w => rput v 8 w hv2 (by omega)
  have U2 := fun w => u16_yes t2 0 w (by omega) (by omega)
  have U4 := fun w => u32_yes t4 0 w (by omega) (by omega)
  have U8 := fun w => u64_yes t8 0 w (by omega) (by omega)
  rw [ht2] at P16 R2 n2
  rw [ht4] at P32 R4 n4
  rw [ht8] at P64 R8 n8
  rw [n2] at U2
  rw [n4] at U4
  rw [n8] at U8
  clear ht2 ht4 ht8 s2 s4 s8 n2 n4 n8 hx2 hx4
  have HP16 := Lib.hid P16
  have HP32 := Lib.hid P32
  have HP64 := Lib.hid P64
  have HR2 := Lib.hid R2
  have HR4 := Lib.hid R4
  have HR8 := Lib.hid R8
  have HU2 := Lib.hid U2
  have HU4 := Lib.hid U4
  have HU8 := Lib.hid U8
  clear P16 P32 P64 R2 R4 R8 U2 U4 U8
  go_enter Try.func4, Try.ntmps4
  go_wp2_with fail
  refine (awake _).mono ?_
  rintro e w1 ⟨rfl, hb⟩
  have H1 := Lib.hid hb
  clear hb
  go_wp2_with fail
  refine (HP16.out _).mono ?_
  rintro e w2 ⟨rfl, hb⟩
  have H2 := Lib.hid (H1.out.trans (hb.mono H1.out.size))
  clear hb H1
  go_wp2_with fail
  refine (HP32.out _).mono ?_
  rintro e w3 ⟨rfl, hb⟩
  have H3 := Lib.hid (H2.out.trans (hb.mono H2.out.size))
  clear hb H2
  go_wp2_with fail
  refine (HP64.out _).mono ?_
  rintro e w4 ⟨rfl, hb⟩
  have H4 := Lib.hid (H3.out.trans (hb.mono H3.out.size))
  clear hb H3
  go_wp2_with fail
  refine (HU2.out _).mono ?_
  rintro e w' ⟨rfl, rfl⟩
  go_wp2_with fail
  refine (HU4.out _).mono ?_
  rintro e w' ⟨rfl, rfl⟩
  go_wp2_with fail
  refine (HU8.out _).mono ?_
  rintro e w' ⟨rfl, rfl⟩
  go_wp2_with fail
  refine (HR2.out _).mono ?_
  rintro e w5 ⟨rfl, hb⟩
  have H5 := Lib.hid (H4.out.trans (hb.mono H4.out.size))
  clear hb H4
  go_wp2_with fail
  refine (HR4.out _).mono ?_
  rintro e w6 ⟨rfl, hb⟩
  have H6 := Lib.hid (H5.out.trans (hb.mono H5.out.size))
  clear hb H5
  go_wp2_with fail
  refine (HR8.out _).mono ?_
  rintro e w7 ⟨rfl, hb⟩
  have H7 := Lib.hid (H6.out.trans (hb.mono H6.out.size))
  clear hb H6
  go_wp2
  go_ret
  exact ⟨rfl, H7.out⟩
end Go.Proofs.Ytaibddlbnhpncaa.Back
