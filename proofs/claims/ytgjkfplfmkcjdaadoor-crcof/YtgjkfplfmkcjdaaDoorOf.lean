/- CrcOf of layer 3: the walk over the law. -/
import Derived.Test.YtgjkfplfmkcjdaaDoorAwake
import Derived.Deep.DeepCutAuto
namespace Go.Proofs.YtgjkfplfmkcjdaaDoor.Of
open Go.RowKit

theorem cut_size (s : ByteArray) (k : Nat) (h : k ≤ s.size) : (s.extract 0 k).size = k ∧ (s.extract k s.size).size = s.size - k := by
  simp [ByteArray.size_extract]
  omega
theorem cut_list (s : ByteArray) (k : Nat) : (s.extract 0 k).data.toList ++ (s.extract k s.size).data.toList = s.data.toList := by
  simp [ByteArray.data_extract, Array.toList_extract, List.extract_eq_take_drop]
  rw [List.take_of_length_le (l := s.data.toList.drop k) (by simp)]
  exact List.take_append_drop k _

set_option maxHeartbeats 4000000 in
set_option maxRecDepth 100000 in
theorem walk (s : ByteArray) (at_ : Nat) (w : World) (hs : s.size ≤ maxLen) (hat : at_ < 65536) (hT : Tab w) : Calls Tryd.prog 3 #[.string s, .int .u16 at_] w fun e w' => e = .returned (.bool true) ∧ Below w.heap.size w w' := by
  unfold maxLen at hs
  obtain ⟨B, hB⟩ : ∃ B, w.heap.size = B := ⟨_, rfl⟩
  have hB0 : 0 < B := by rw [← hB]; exact hT.1
  have h0 := Since.start hT
  rw [hB] at h0 ⊢
  have H0 := Lib.hid h0
  clear h0 hT hB
  by_cases h300 : 300 < s.size
  · go_enter Tryd.func3, Tryd.ntmps3
    go_wp2_with fail
    refine (awake B w w hB0 H0.out).mono ?_
    rintro e w1 ⟨rfl, hi1⟩
    have HI1 := Lib.hid hi1
    clear hi1
    go_wp2
    go_ret
    exact ⟨rfl, HI1.out.2.1⟩
  · obtain ⟨k, hk, hkl⟩ : ∃ k : Nat, (at_ : Int) % ((s.size : Int) + 1) = k ∧ k ≤ s.size := ⟨at_ % (s.size + 1), by simp, by have := Nat.mod_lt at_ (show 0 < s.size + 1 by omega); omega⟩
    have d3 : decide (300 < (s.size : Int)) = false := by simp; omega
    obtain ⟨z1, z2⟩ := cut_size s k hkl
    have hcl := cut_list s k
    have L1 : Hid ((s.extract 0 k).size ≤ 1073741824) := by rw [z1]; exact Nat.le_trans hkl (by omega)
    have L2 : Hid ((s.extract k s.size).size ≤ 1073741824) := by rw [z2]; exact Nat.le_trans (Nat.sub_le _ _) (by omega)
    have LL : Hid (([] ++ (s.extract 0 k).data.toList).length ≤ 1073741824) := by
      show (s.extract 0 k).data.toList.length ≤ _
      rw [show (s.extract 0 k).data.toList.length = (s.extract 0 k).size from by simp]
      exact L1.out
    have HCL := Lib.hid hcl
    clear hcl z1 z2
    go_enter Tryd.func3, Tryd.ntmps3
    go_wp2_with fail
    refine (awake B w w hB0 H0.out).mono ?_
    rintro e w1 ⟨rfl, hi1⟩
    have HI1 := Lib.hid hi1
    clear hi1 H0
    go_upto_region 6 with fail
    go_region_law
      (first
        | (go_simp
           go_at_call 7
           refine (new2 B w w1.drew hB0 (HI1.out.drew hB0)).mono ?_
           rintro e w2 ⟨b, rfl, hs2, hb2, hi2⟩
           have HS2 := Lib.hid hs2
           have HI2 := Lib.hid hi2
           clear hs2 hi2)
        | (go_simp
           go_at_call 8
           refine (add2 B b [] (s.extract 0 k) w w2 hB0 HI2.out HS2.out hb2 (by decide) L1.out).mono ?_
           rintro e w3 ⟨rfl, hs3, hi3⟩
           have HS3 := Lib.hid hs3
           have HI3 := Lib.hid hi3
           clear hs3 hi3))
    all_goals
      go_wp2_with fail
      refine (value b _ w3 HS3.out).mono ?_
      rintro e w' ⟨rfl, rfl⟩
      go_wp2_with fail
      refine (add2 B b _ (s.extract k s.size) w w3 hB0 HI3.out HS3.out hb2 LL.out L2.out).mono ?_
      rw [List.nil_append, HCL.out]
      rintro e w4 ⟨rfl, hs4, hi4⟩
      have hs300 : s.size ≤ 1073741824 := by omega
      have HS4 := Lib.hid hs4
      have HI4 := Lib.hid hi4
      clear hs4 hi4
      go_wp2_with fail
      refine (of s w4 HI4.out.1 hs300).mono ?_
      rintro e w' ⟨rfl, rfl⟩
      go_wp2_with fail
      refine (rof2 B s w w4 hB0 HI4.out hs300).mono ?_
      rintro e w5 ⟨rfl, hi5, hb5⟩
      have HI5 := Lib.hid hi5
      have HS5 := Lib.hid (HS4.out.below hb5 (Is.lt HS4.out))
      clear hi5 hb5
      go_wp2_with fail
      refine (rof2 B (s.extract 0 k) w w5 hB0 HI5.out L1.out).mono ?_
      rintro e w6 ⟨rfl, hi6, hb6⟩
      have HI6 := Lib.hid hi6
      have HS6 := Lib.hid (HS5.out.below hb6 (Is.lt HS5.out))
      clear hi6 hb6
      go_wp2_with fail
      refine (value b _ w6 HS6.out).mono ?_
      rintro e w' ⟨rfl, rfl⟩
      go_wp2_with fail
      refine (rof2 B s w w6 hB0 HI6.out hs300).mono ?_
      rintro e w7 ⟨rfl, hi7, hb7⟩
      have HI7 := Lib.hid hi7
      have HS7 := Lib.hid (HS6.out.below hb7 (Is.lt HS6.out))
      clear hi7 hb7
      go_wp2_with fail
      refine (len b _ w7 HS7.out).mono ?_
      rw [show s.data.toList.length = s.size from by simp]
      rintro e w' ⟨rfl, rfl⟩
      go_wp2_with fail
      refine (add_nil s w7).mono ?_
      rintro e w' ⟨rfl, rfl⟩
      go_wp2_with fail
      refine (value_nil w7).mono ?_
      rintro e w' ⟨rfl, rfl⟩
      go_wp2_with fail
      refine (len_nil w7).mono ?_
      rintro e w' ⟨rfl, rfl⟩
      go_wp2
      go_ret
      exact ⟨rfl, HI7.out.2.1⟩
end Go.Proofs.YtgjkfplfmkcjdaaDoor.Of
