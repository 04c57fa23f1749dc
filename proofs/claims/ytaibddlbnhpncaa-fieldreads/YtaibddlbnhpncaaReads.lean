/- Layer 2, reading: U16, U32, U64, Cut; and the document's Cut and Num. -/
import Derived.Test.YtaibddlbnhpncaaRead
namespace Go.Proofs.Ytaibddlbnhpncaa
open Go.RowKit

theorem u16_yes (s : ByteArray) (p : Nat) (w : World) (hs : s.size ≤ 1000) (h : p + 2 ≤ s.size) : Calls Try.prog 6 #[.string s, .int .i64 p] w fun e w' => e = .returned (.tuple #[.int .i64 (num s p 2 : Nat), .int .i64 0]) ∧ w = w' := by
  have hn : num s p 2 ≤ 65535 := by have := num_lt s p 2; omega
  go_enter Try.func6, Try.ntmps6
  go_wp2_with (go_at_call 16; refine (number_yes s p 2 _ hs h (by omega)).mono ?_; rintro e w' ⟨rfl, rfl⟩)
  go_ret2
  exact ⟨rfl, rfl⟩
theorem u32_yes (s : ByteArray) (p : Nat) (w : World) (hs : s.size ≤ 1000) (h : p + 4 ≤ s.size) : Calls Try.prog 7 #[.string s, .int .i64 p] w fun e w' => e = .returned (.tuple #[.int .i64 (num s p 4 : Nat), .int .i64 0]) ∧ w = w' := by
  have hn : num s p 4 ≤ 4294967295 := by have := num_lt s p 4; omega
  go_enter Try.func7, Try.ntmps7
  go_wp2_with (go_at_call 16; refine (number_yes s p 4 _ hs h (by omega)).mono ?_; rintro e w' ⟨rfl, rfl⟩)
  go_ret2
  exact ⟨rfl, rfl⟩
theorem u64_yes (s : ByteArray) (p : Nat) (w : World) (hs : s.size ≤ 1000) (h : p + 8 ≤ s.size) : Calls Try.prog 8 #[.string s, .int .i64 p] w fun e w' => e = .returned (.tuple #[.int .u64 (num s p 8 : Nat), .int .i64 0]) ∧ w = w' := by
  go_enter Try.func8, Try.ntmps8
  go_wp2_with (go_at_call 16; refine (number_yes s p 8 _ hs h (by omega)).mono ?_; rintro e w' ⟨rfl, rfl⟩)
  go_ret2
  exact ⟨rfl, rfl⟩
theorem u16_no (s : ByteArray) (p : Int) (w : World) (hs : s.size ≤ 1000) (hp : In64 p) (h : Lacks s p 2) : Calls Try.prog 6 #[.string s, .int .i64 p] w fun e w' => e = .returned (.tuple #[.int .i64 0, .int .i64 3]) ∧ w = w' := by
  have HP := Lib.hid hp
  have HH := Lib.hid h
  clear hp h
  go_enter Try.func6, Try.ntmps6
  go_wp2_with (go_at_call 16; refine (number_no s p 2 _ hs HP.out HH.out).mono ?_; rintro e w' ⟨rfl, rfl⟩)
  go_ret2
  exact ⟨rfl, rfl⟩
theorem u32_no (s : ByteArray) (p : Int) (w : World) (hs : s.size ≤ 1000) (hp : In64 p) (h : Lacks s p 4) : Calls Try.prog 7 #[.string s, .int .i64 p] w fun e w' => e = .returned (.tuple #[.int .i64 0, .int .i64 3]) ∧ w = w' := by
  have HP := Lib.hid hp
  have HH := Lib.hid h
  clear hp h
  go_enter Try.func7, Try.ntmps7
  go_wp2_with (go_at_call 16; refine (number_no s p 4 _ hs HP.out HH.out).mono ?_; rintro e w' ⟨rfl, rfl⟩)
  go_ret2
  exact ⟨rfl, rfl⟩
theorem u64_no (s : ByteArray) (p : Int) (w : World) (hs : s.size ≤ 1000) (hp : In64 p) (h : Lacks s p 8) : Calls Try.prog 8 #[.string s, .int .i64 p] w fun e w' => e = .returned (.tuple #[.int .u64 0, .int .i64 3]) ∧ w = w' := by
  have HP := Lib.hid hp
  have HH := Lib.hid h
  clear hp h
  go_enter Try.func8, Try.ntmps8
  go_wp2_with (go_at_call 16; refine (number_no s p 8 _ hs HP.out HH.out).mono ?_; rintro e w' ⟨rfl, rfl⟩)
  go_ret2
  exact ⟨rfl, rfl⟩

theorem cut_yes (s : ByteArray) (p k : Nat) (w : World) (hs : s.size ≤ 1000) (h : p + k ≤ s.size) : Calls Try.prog 9 #[.string s, .int .i64 p, .int .i64 k] w fun e w' => e = .returned (.tuple #[.string (s.extract p (p + k)), .int .i64 0]) ∧ Below w.heap.size w w' := by
  have b1 : (s.size : Int) ≤ 1000 := by omega
  have b2 : (p : Int) + k ≤ s.size := by omega
  have hx : (s.extract p (p + k)).size ≤ 281474976710656 := by rw [ByteArray.size_extract]; omega
  have HX := Lib.hid hx
  clear hx
  go_enter Try.func9, Try.ntmps9
  go_wp2_with (first
    | (go_at_call 17; refine (holds_yes s p k _ hs h).mono ?_; rintro e w' ⟨rfl, rfl⟩)
    | (go_at_call 20; refine (Try.stringslite_Clone (s.extract p (p + k)) _ HX.out).mono ?_; rintro e w' ⟨rfl, hb⟩; have HB := Lib.hid hb; clear hb)
    | go_in)
  go_ret2
  exact ⟨rfl, HB.out⟩
theorem cut_no (s : ByteArray) (p n : Int) (w : World) (hs : s.size ≤ 1000) (hp : In64 p) (h : Lacks s p n) : Calls Try.prog 9 #[.string s, .int .i64 p, .int .i64 n] w fun e w' => e = .returned (.tuple #[.string ⟨#[]⟩, .int .i64 3]) ∧ Below w.heap.size w w' := by
  have HP := Lib.hid hp
  have HH := Lib.hid h
  clear hp h
  go_enter Try.func9, Try.ntmps9
  go_wp2_with (go_at_call 17; refine (holds_no s p n _ hs HP.out HH.out).mono ?_; rintro e w' ⟨rfl, rfl⟩)
  go_ret2
  exact ⟨rfl, Below.refl _ _⟩

theorem rcut_yes (s : ByteArray) (p k : Nat) (w : World) (hs : s.size ≤ 1000) (h : p + k ≤ s.size) : Calls Try.prog 11 #[.string s, .int .i64 p, .int .i64 k] w fun e w' => e = .returned (.tuple #[.string (s.extract p (p + k)), .int .i64 0]) ∧ w = w' := by
  have b1 : (s.size : Int) ≤ 1000 := by omega
  have b2 : (p : Int) + k ≤ s.size := by omega
  have d1 : decide (s.size < p) = false := by simp; omega
  have d2 : decide ((s.size : Int) - p < k) = false := by simp; omega
  go_enter Try.func11, Try.ntmps11
  go_wp2
  go_ret2
  exact ⟨rfl, rfl⟩
theorem rcut_no (s : ByteArray) (p n : Int) (w : World) (hs : s.size ≤ 1000) (hp : In64 p) (h : Lacks s p n) : Calls Try.prog 11 #[.string s, .int .i64 p, .int .i64 n] w fun e w' => e = .returned (.tuple #[.string ⟨#[]⟩, .int .i64 3]) ∧ w = w' := by
  have b1 : (s.size : Int) ≤ 1000 := by omega
  obtain ⟨hp1, hp2⟩ := hp
  by_cases h1 : p < 0
  · have d1 : decide (p < 0) = true := by simpa using h1
    clear h hp1 hp2
    go_enter Try.func11, Try.ntmps11
    go_wp2
    go_ret2
    exact ⟨rfl, rfl⟩
  · have d1 : decide (p < 0) = false := by simpa using h1
    by_cases h2 : n < 0
    · have d2 : decide (n < 0) = true := by simpa using h2
      clear h hp1 hp2
      go_enter Try.func11, Try.ntmps11
      go_wp2
      go_ret2
      exact ⟨rfl, rfl⟩
    · have d2 : decide (n < 0) = false := by simpa using h2
      by_cases h3 : (s.size : Int) < p
      · have d3 : decide ((s.size : Int) < p) = true := by simpa using h3
        clear h hp1 hp2
        go_enter Try.func11, Try.ntmps11
        go_wp2
        go_ret2
        exact ⟨rfl, rfl⟩
      · have d3 : decide ((s.size : Int) < p) = false := by simpa using h3
        have d4 : decide ((s.size : Int) - p < n) = true := by unfold Lacks at h; simp; omega
        clear h hp1 hp2
        go_enter Try.func11, Try.ntmps11
        go_wp2
        go_ret2
        exact ⟨rfl, rfl⟩

/-- The last bytes first: one byte more. -/
theorem le_drop_step (l : List UInt8) (j : Nat) (h : j < l.length) : le (l.drop j) = 256 * le (l.drop (j + 1)) + (l[j]'h).toNat := by
  rw [List.drop_eq_getElem_cons h]
  simp only [le]
  omega

theorem extract_list (s : ByteArray) (p k : Nat) : (s.extract p (p + k)).data.toList = (s.data.toList.drop p).take k := by
  simp [ByteArray.data_extract, Array.toList_extract, List.extract_eq_take_drop]

/-- The number of a text's bytes from a place on. -/
def tail (b : ByteArray) (j : Nat) : Nat := le (b.data.toList.drop j)

set_option maxHeartbeats 1000000 in
theorem rnum_yes (s : ByteArray) (p k : Nat) (w : World) (hs : s.size ≤ 1000) (h : p + k ≤ s.size) (hk : k ≤ 8) : Calls Try.prog 10 #[.string s, .int .i64 p, .int .i64 k] w fun e w' => e = .returned (.tuple #[.int .u64 (num s p k : Nat), .int .i64 0]) ∧ w = w' := by
  have b1 : (s.size : Int) ≤ 1000 := by omega
  have b2 : (p : Int) + k ≤ s.size := by omega
  go_enter Try.func10, Try.ntmps10
  go_wp2_with fail
  refine (rcut_yes s p k _ hs h).mono ?_
  obtain ⟨b, hb⟩ : ∃ b, s.extract p (p + k) = b := ⟨_, rfl⟩
  have hbs : b.size = k := by rw [← hb, ByteArray.size_extract]; omega
  have hbn : tail b 0 = num s p k := by rw [← hb]; unfold tail num; rw [extract_list]; simp
  rw [hb]
  subst hbs
  have HBN := Lib.hid hbn
  clear hb hbn
  rintro e w' ⟨rfl, rfl⟩
  go_wp2_with fail
  go_loopg [10, 11] b.size (fun gk v i wx => ∃ j : Nat, i = .int .i64 ((j : Int) - 1) ∧ v = .int .u64 (tail b j : Nat) ∧ j ≤ gk ∧ gk ≤ j ∧ j ≤ b.size ∧ wx = w)
  case atStart => exact ⟨b.size, rfl, by unfold tail; rw [List.drop_of_length_le (by simp)]; rfl, by omega, by omega, by omega, rfl⟩
  case round =>
    obtain ⟨j, rfl, rfl, hj, hj2, hj3, rfl⟩ := hrel
    by_cases hlt : 0 < j
    · obtain ⟨q, rfl⟩ : ∃ q, j = q + 1 := ⟨j - 1, by omega⟩
      have hst : tail b q = 256 * tail b (q + 1) + (b[q]'(by omega)).toNat := le_drop_step b.data.toList q (by simp; omega)
      have hq : tail b q ≤ 18446744073709551615 := by
        have h1 := le_lt (b.data.toList.drop q)
        have h2 : 256 ^ (b.data.toList.drop q).length ≤ 256 ^ 8 := Nat.pow_le_pow_right (by decide) (by simp; omega)
        unfold tail
        omega
      have HST := Lib.hid hst
      rw [hst] at hq
      clear hst
      go_wp2
      go_roundg q
      case measure => omega
      case rel => exact ⟨q, by go_num, by rw [HST.out]; go_num, by omega, by omega, by omega, rfl⟩
    · obtain rfl : j = 0 := by omega
      rw [HBN.out]
      go_wp2
      go_ret2
      exact ⟨rfl, rfl⟩
theorem rnum_no (s : ByteArray) (p n : Int) (w : World) (hs : s.size ≤ 1000) (hp : In64 p) (h : Lacks s p n) : Calls Try.prog 10 #[.string s, .int .i64 p, .int .i64 n] w fun e w' => e = .returned (.tuple #[.int .u64 0, .int .i64 3]) ∧ w = w' := by
  have HP := Lib.hid hp
  have HH := Lib.hid h
  clear hp h
  go_enter Try.func10, Try.ntmps10
  go_wp2_with fail
  refine (rcut_no s p n _ hs HP.out HH.out).mono ?_
  rintro e w' ⟨rfl, rfl⟩
  go_wp2_with fail
  go_loopg [10, 11] 1 (fun gk v i wx => i = .int .i64 (-1) ∧ v = .int .u64 0 ∧ wx = w)
  case atStart => exact ⟨rfl, rfl, rfl⟩
  case round =>
    obtain ⟨rfl, rfl, rfl⟩ := hrel
    go_wp2
    go_ret2
    exact ⟨rfl, rfl⟩
end Go.Proofs.Ytaibddlbnhpncaa
