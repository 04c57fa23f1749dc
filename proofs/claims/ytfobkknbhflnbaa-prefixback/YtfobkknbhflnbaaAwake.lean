/- Layer 5: the law's awake. -/
import Derived.Test.YtfobkknbhflnbaaTWrite
namespace Go.Proofs.Ytfobkknbhflnbaa
open Go.RowKit

theorem ints_new (w : World) (l : List Nat) : See (w.alloc (.cells (ints l).toArray 3)) (w.alloc (.cells (ints l).toArray 3)).heap.size (some ⟨w.heap.size, 0, none⟩) (ints l) := (Is.new w 3 (ints l)).see

set_option maxHeartbeats 2000000 in
theorem awake (w : World) : Calls Try.prog 6 #[] w fun e w' => e = .returned (.bool true) ∧ Only (fun _ => False) w w' := by
  go_enter Try.func6, Try.ntmps6
  go_wp2_with fail
  have HN := Lib.hid (new_yes (some ⟨w.heap.size, 0, none⟩) 4 4 _ [2, 1, 3, 3] _ (ints_new w [2, 1, 3, 3]) (Nat.le_refl _) rfl (by omega) (by unfold Low; decide) (by decide))
  refine HN.out.mono ?_
  rintro e w1 ⟨T, rfl, ht1, ho1, hT⟩
  have HT1 := Lib.hid ht1
  have HO1 : Hid (Only (fun _ => False) w w1) := Lib.hid (((Only.refl _ w).alloc _).trans ho1)
  have hTl := ht1.lt
  clear HN ht1 ho1 hT
  go_wp2_with fail
  refine (newWriter w1).mono ?_
  rintro e w2 ⟨rfl, rfl⟩
  have HW2 := Lib.hid (Wo.start w1 w1.heap.size (Nat.le_refl _))
  have HT2 := Lib.hid (HT1.out.new ((Only.refl _ w1).alloc (.cells #[.slice none 0 0, .int .i64 0] 70)))
  obtain ⟨w2, hw2⟩ : ∃ w2, w1.alloc (.cells #[.slice none 0 0, .int .i64 0] 70) = w2 := ⟨_, rfl⟩
  have hD2 : w1.heap.size < w2.heap.size := by rw [← hw2]; simp
  have HO2 : Hid (Only (fun _ => False) w1 w2) := Lib.hid (by rw [← hw2]; exact (Only.refl _ w1).alloc _)
  rw [hw2] at HW2 HT2
  try rw [hw2]
  obtain ⟨D, hD⟩ : ∃ D, w1.heap.size = D := ⟨_, rfl⟩
  have HD := Lib.hid hD
  rw [hD] at HW2 hD2 hTl
  try rw [hD]
  clear hw2 hD
  go_wp2_with fail
  have HWr := Lib.hid (twrite T D D 2 [2, 1, 3, 3] [] w2 HT2.out HW2.out (by omega) ⟨by decide, by decide⟩ (by unfold Low; decide) (by decide))
  refine HWr.out.mono ?_
  rintro e w3 ⟨rfl, hw3, hk3⟩
  have e3 : ([] : List UInt8) ++ hb (ln [2, 1, 3, 3] 2) (cd [2, 1, 3, 3] 2) = [1, 1, 0] := by decide
  rw [e3] at hw3
  have HW3 := Lib.hid hw3
  have HT3 := Lib.hid (HT2.out.keep (hk3.less (by omega)))
  have HK3 := Lib.hid hk3
  have hs3 : w2.heap.size ≤ w3.heap.size := Only.size hk3
  clear HWr hw3 hk3 e3
  go_wp2_with fail
  refine (wtext D D _ w3 HW3.out).mono ?_
  rintro e w4 ⟨⟨t, rfl, htl, htv⟩, rfl⟩
  obtain rfl : t = [3] := le_inj _ _ (by rw [htl]; rfl) (by rw [htv]; rfl)
  clear htl htv
  go_wp2_with fail
  refine (newReader _ w3).mono ?_
  rintro e w4 ⟨rfl, rfl⟩
  have HR4 : Hid (Rd (w3.alloc (.cells #[.string ⟨#[3]⟩, .int .i64 0, .bool false] 64)) w3.heap.size ⟨#[3]⟩ 0 false) := Lib.hid (Is.new w3 64 _)
  have HO4 : Hid (Only (fun _ => False) w3 (w3.alloc (.cells #[.string ⟨#[3]⟩, .int .i64 0, .bool false] 64))) := Lib.hid ((Only.refl _ w3).alloc _)
  obtain ⟨w4, hw4⟩ : ∃ w4, w3.alloc (.cells #[.string ⟨#[3]⟩, .int .i64 0, .bool false] 64) = w4 := ⟨_, rfl⟩
  rw [hw4] at HR4 HO4
  try rw [hw4]
  obtain ⟨R, hR⟩ : ∃ R, w3.heap.size = R := ⟨_, rfl⟩
  have HR := Lib.hid hR
  rw [hR] at HR4 hs3
  try rw [hR]
  clear hw4 hR
  go_wp2_with fail
  have HRd := Lib.hid (tread T R ⟨#[3]⟩ [2, 1, 3, 3] 0 w4 (HT3.out.new HO4.out) HR4.out (by omega) (by unfold Low; decide) (by decide) (by decide) (by decide))
  have er : rdp [2, 1, 3, 3] (bitsOf [3]) 0 = (2, 3, 0) := by decide
  rw [show (ByteArray.mk #[3]).data.toList = [3] from rfl, er] at HRd
  clear er
  refine HRd.out.mono ?_
  rintro e w5 ⟨rfl, _, ho5⟩
  have HO5 : Hid (Only (fun _ => False) w3 w5) := Lib.hid (HO4.out.andThen ho5 fun j hj => .inr (by rw [hj, HR.out]; exact Nat.le_refl _))
  clear HRd ho5
  go_wp2_with fail
  have HC := Lib.hid (check_yes (some ⟨w5.heap.size, 0, none⟩) 1 1 _ [1] _ (ints_new w5 [1]) rfl (by omega) (by unfold Low; decide))
  have ek : kd [1] = (1, 0) := by decide
  rw [ek] at HC
  clear ek
  refine HC.out.mono ?_
  rintro e w6 ⟨rfl, ho6⟩
  have HO6 : Hid (Only (fun _ => False) w3 w6) := Lib.hid ((HO5.out.alloc _).trans ho6)
  clear HC ho6
  go_wp2_with fail
  refine (wtext D D _ w6 (HW3.out.keep _ HO6.out (fun j f => f.elim))).mono ?_
  rintro e w7 ⟨⟨t, rfl, htl, htv⟩, rfl⟩
  obtain rfl : t = [3] := le_inj _ _ (by rw [htl]; rfl) (by rw [htv]; rfl)
  clear htl htv
  go_wp2_with fail
  have HB := Lib.hid (tbits_in T 0 [2, 1, 3, 3] w6 (HT3.out.new HO6.out) (by decide))
  rw [show ln [2, 1, 3, 3] 0 = 2 from rfl] at HB
  refine HB.out.mono ?_
  rintro e w7 ⟨rfl, rfl⟩
  clear HB
  go_wp2
  go_ret
  refine ⟨rfl, HO1.out.andThen (HO2.out.andThen (HK3.out.trans (HO6.out.mono fun _ f => f.elim)) fun j hj => .inr (by rw [HD.out]; exact hj)) fun j f => f.elim⟩
end Go.Proofs.Ytfobkknbhflnbaa
