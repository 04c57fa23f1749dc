/- CrcJoins of layer 3: the walk over the law. -/
import Derived.Test.YtgjkfplfmkcjdaaDoorAwake
namespace Go.Proofs.YtgjkfplfmkcjdaaDoor.Joins
open Go.RowKit

theorem both (s t : ByteArray) : steps (8 * t.size) (crc s.data.toList) ^^^ crc t.data.toList = crc (s ++ t).data.toList := by
  rw [ByteArray.data_append, Array.toList_append, crc_append, show t.data.toList.length = t.size from by simp]

set_option maxHeartbeats 4000000 in
set_option maxRecDepth 100000 in
theorem walk (s t : ByteArray) (n : Int) (w : World) (hs : s.size ≤ maxLen) (ht : t.size ≤ maxLen) (hT : Tab w) : Calls Tryd.prog 4 #[.string s, .string t, .int .i64 n] w fun e w' => e = .returned (.bool true) ∧ Below w.heap.size w w' := by
  unfold maxLen at hs ht
  obtain ⟨B, hB⟩ : ∃ B, w.heap.size = B := ⟨_, rfl⟩
  have hB0 : 0 < B := by rw [← hB]; exact hT.1
  have h0 := Since.start hT
  rw [hB] at h0 ⊢
  have H0 := Lib.hid h0
  clear h0 hT hB
  by_cases h300 : 300 < s.size
  · have d3 : decide (300 < (s.size : Int)) = true := by simp; omega
    go_enter Tryd.func4, Tryd.ntmps4
    go_wp2_with fail
    refine (awake B w w hB0 H0.out).mono ?_
    rintro e w1 ⟨rfl, hi1⟩
    have HI1 := Lib.hid hi1
    clear hi1
    go_wp2
    go_ret
    exact ⟨rfl, HI1.out.2.1⟩
  · have d3 : decide (300 < (s.size : Int)) = false := by simp; omega
    by_cases h301 : 300 < t.size
    · have d4 : decide (300 < (t.size : Int)) = true := by simp; omega
      go_enter Tryd.func4, Tryd.ntmps4
      go_wp2_with fail
      refine (awake B w w hB0 H0.out).mono ?_
      rintro e w1 ⟨rfl, hi1⟩
      have HI1 := Lib.hid hi1
      clear hi1
      go_wp2
      go_ret
      exact ⟨rfl, HI1.out.2.1⟩
    · have d4 : decide (300 < (t.size : Int)) = false := by simp; omega
      have J : Hid (∀ W, Calls Tryd.prog 13 #[.int .u32 (crc s.data.toList : Nat), .int .u32 (crc t.data.toList : Nat), .int .i64 (t.size : Nat)] W fun e W' => e = .returned (.int .u32 (crc (s ++ t).data.toList : Nat)) ∧ W = W') := by
        intro W
        rw [← both]
        exact join_yes _ _ _ W (crc_lt _) (crc_lt _) (by omega)
      have J2 : Hid (n < 0 ∨ 4194304 < n → ∀ W, Calls Tryd.prog 13 #[.int .u32 (crc s.data.toList : Nat), .int .u32 (crc t.data.toList : Nat), .int .i64 n] W fun e W' => e = .returned (.int .u32 (crc s.data.toList : Nat)) ∧ W = W') :=
        fun h W => join_no _ _ _ W h
      have hz : Hid ((s ++ t).size ≤ 1073741824) := by show _ ≤ _; rw [ByteArray.size_append]; omega
      have hzs : s.size ≤ 1073741824 := by omega
      have hzt : t.size ≤ 1073741824 := by omega
      by_cases hn : n < 0 ∨ 4194304 < n
      · have Hn := Lib.hid hn
        by_cases hn0 : n < 0
        · have d1 : decide (n < 0) = true := by simpa using hn0
          clear hn hn0
          go_enter Tryd.func4, Tryd.ntmps4
          go_wp2_with fail
          refine (awake B w w hB0 H0.out).mono ?_
          rintro e w1 ⟨rfl, hi1⟩
          have HI1 := Lib.hid hi1
          clear hi1
          go_wp2_with fail
          refine (of s w1 HI1.out.1 hzs).mono ?_
          rintro e w' ⟨rfl, rfl⟩
          go_wp2_with fail
          refine (of t w1 HI1.out.1 hzt).mono ?_
          rintro e w' ⟨rfl, rfl⟩
          go_wp2_with fail
          refine (J2.out Hn.out w1).mono ?_
          rintro e w' ⟨rfl, rfl⟩
          go_wp2_with fail
          refine (J.out w1).mono ?_
          rintro e w' ⟨rfl, rfl⟩
          go_wp2_with fail
          refine (rof2 B (s ++ t) w w1 hB0 HI1.out hz.out).mono ?_
          rintro e w2 ⟨rfl, hi2, hb2⟩
          have HI2 := Lib.hid hi2
          clear hi2 hb2
          go_wp2
          go_ret
          exact ⟨rfl, HI2.out.2.1⟩
        · have d1 : decide (n < 0) = false := by simpa using hn0
          have d2 : decide (4194304 < n) = true := by simp; omega
          clear hn hn0
          go_enter Tryd.func4, Tryd.ntmps4
          go_wp2_with fail
          refine (awake B w w hB0 H0.out).mono ?_
          rintro e w1 ⟨rfl, hi1⟩
          have HI1 := Lib.hid hi1
          clear hi1
          go_wp2_with fail
          refine (of s w1 HI1.out.1 hzs).mono ?_
          rintro e w' ⟨rfl, rfl⟩
          go_wp2_with fail
          refine (of t w1 HI1.out.1 hzt).mono ?_
          rintro e w' ⟨rfl, rfl⟩
          go_wp2_with fail
          refine (J2.out Hn.out w1).mono ?_
          rintro e w' ⟨rfl, rfl⟩
          go_wp2_with fail
          refine (J.out w1).mono ?_
          rintro e w' ⟨rfl, rfl⟩
          go_wp2_with fail
          refine (rof2 B (s ++ t) w w1 hB0 HI1.out hz.out).mono ?_
          rintro e w2 ⟨rfl, hi2, hb2⟩
          have HI2 := Lib.hid hi2
          clear hi2 hb2
          go_wp2
          go_ret
          exact ⟨rfl, HI2.out.2.1⟩
      · have d1 : decide (n < 0) = false := by simp; omega
        have d2 : decide (4194304 < n) = false := by simp; omega
        clear hn
        go_enter Tryd.func4, Tryd.ntmps4
        go_wp2_with fail
        refine (awake B w w hB0 H0.out).mono ?_
        rintro e w1 ⟨rfl, hi1⟩
        have HI1 := Lib.hid hi1
        clear hi1
        go_wp2_with fail
        refine (of s w1 HI1.out.1 hzs).mono ?_
        rintro e w' ⟨rfl, rfl⟩
        go_wp2_with fail
        refine (of t w1 HI1.out.1 hzt).mono ?_
        rintro e w' ⟨rfl, rfl⟩
        go_wp2_with fail
        refine (J.out w1).mono ?_
        rintro e w' ⟨rfl, rfl⟩
        go_wp2_with fail
        refine (rof2 B (s ++ t) w w1 hB0 HI1.out hz.out).mono ?_
        rintro e w2 ⟨rfl, hi2, hb2⟩
        have HI2 := Lib.hid hi2
        clear hi2 hb2
        go_wp2
        go_ret
        exact ⟨rfl, HI2.out.2.1⟩
end Go.Proofs.YtgjkfplfmkcjdaaDoor.Joins
