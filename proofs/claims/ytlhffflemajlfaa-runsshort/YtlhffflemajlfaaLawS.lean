/- Layer 10: RunsShort, the law's own walk. -/
import Derived.Test.YtlhffflemajlfaaInts
namespace Go.Proofs.Ytlhffflemajlfaa
open Go.RowKit

/-- A row of k numbers, of which the first j are y. -/
def fillN (y k j : Nat) : List Nat := List.replicate j y ++ List.replicate (k - j) 0
theorem fillN_set (y k j : Nat) (h : j < k) : (ints (fillN y k j)).set j (.int .i64 (y : Nat)) = ints (fillN y k (j + 1)) := by
  have e : (fillN y k j).set j y = fillN y k (j + 1) := by
    unfold fillN
    rw [List.set_append_right _ _ (by simp), List.length_replicate, Nat.sub_self, show k - j = (k - (j + 1)) + 1 from by omega, List.replicate_succ, List.set_cons_zero, List.replicate_succ', List.append_assoc]
    rfl
  rw [← e]
  simp [ints, List.map_set]
theorem fillN_length (y k j : Nat) (h : j ≤ k) : (fillN y k j).length = k := by
  unfold fillN
  simp
  omega
theorem fillN_all (y k : Nat) : fillN y k k = List.replicate k y := by
  unfold fillN
  simp
theorem fillN_none (y k : Nat) : ints (fillN y k 0) = List.replicate k (.int .i64 0) := by
  unfold fillN ints
  simp

set_option maxRecDepth 20000 in
set_option maxHeartbeats 4000000 in
theorem lawS (x n : Nat) (w : World) (hx : x < 256) (hn : n < 65536) : Calls Try.prog 5 #[.int .u8 x, .int .u16 n] w (Yes w) := by
  obtain ⟨k, hk⟩ : ∃ k, n % 1001 = k := ⟨_, rfl⟩
  have hk1 : k ≤ 1000 := by omega
  obtain ⟨y, hy⟩ : ∃ y, x % 16 = y := ⟨_, rfl⟩
  have hy1 : y ≤ 15 := by omega
  have hmk := fun w1 : World => run_make_row Try.underlying22 info3 (by decide) k (by omega) w1
  have HMK := Lib.hid hmk
  have ek : (n : Int) % 1001 = (k : Int) := by omega
  have ey : (x : Int) % 16 = (y : Int) := by omega
  clear hk hy hmk
  go_enter Try.func5, Try.ntmps5
  go_upto_region 4 with (go_at_call 6; refine (awake _).mono ?_; rintro e w1 ⟨rfl, ho⟩; have HO1 := Lib.hid ho; clear ho)
  rw [ek]
  obtain ⟨B, hB⟩ : ∃ B, w1.heap.size = B := ⟨_, rfl⟩
  have hmk := HMK.out w1
  have i2 : Is (w1.alloc (.cells (List.replicate k (.int .i64 0)).toArray 3)) B 3 (ints (fillN y k 0)) := by
    rw [fillN_none, ← hB]
    exact Is.new w1 3 _
  have o2 : Only (fun _ => False) w (w1.alloc (.cells (List.replicate k (.int .i64 0)).toArray 3)) := HO1.out.alloc _
  have hBw : w.heap.size ≤ B := hB ▸ HO1.out.size
  obtain ⟨w2, hw2⟩ : ∃ w2, w1.alloc (.cells (List.replicate k (.int .i64 0)).toArray 3) = w2 := ⟨_, rfl⟩
  rw [hw2] at i2 o2 hmk
  rw [hB] at hmk
  have HI := Lib.hid i2
  have HO := Lib.hid o2
  clear hw2 i2 o2 HO1 hB HMK
  go_wp2_with fail
  clear hmk
  go_loopg [22] k (fun gk i wx => ∃ (j : Nat), i = .int .i64 j ∧ j + gk ≤ k ∧ k ≤ j + gk ∧ Hid (Is wx B 3 (ints (fillN y k j))) ∧ Hid (Only (fun _ => False) w wx))
  case atStart => exact ⟨0, rfl, by omega, by omega, HI, HO⟩
  case round =>
    clear HI HO
    obtain ⟨j, rfl, hg1, hg2, HI, HO⟩ := hrel
    by_cases hlt : j < k
    · have c0 := HI.out.cell j (ints_at _ j (by rw [fillN_length y k j (by omega)]; exact hlt))
      have f0 := HI.out.frozen j
      have hlt2 : (j : Int) < (k : Int) := by omega
      go_wp2_with fail
      have HI2 : Hid (Is (wr.setCell ⟨B, j, none⟩ (.int .i64 (y : Nat))) B 3 (ints (fillN y k (j + 1)))) := Lib.hid (by
        rw [← fillN_set y k j hlt]
        exact HI.out.set j _)
      have HO2 : Hid (Only (fun _ => False) w (wr.setCell ⟨B, j, none⟩ (.int .i64 (y : Nat)))) := Lib.hid (HO.out.set (p := ⟨B, j, none⟩) (.inr hBw) _)
      go_roundg (gk - 1)
      case measure => omega
      case rel => exact ⟨j + 1, by go_num, by omega, by omega, HI2, HO2⟩
    · obtain rfl : j = k := by omega
      have HI2 : Hid (Is wr B 3 (ints (List.replicate j y))) := Lib.hid (by rw [← fillN_all]; exact HI.out)
      have HS := Lib.hid HI2.out.see
      go_upto_region 11 with (go_at_call 7; refine (pack _ j j _ (List.replicate j y) _ HS.out (by simp) (by omega) (fun z hz => by simp at hz; omega)).mono ?_; rintro e w3 ⟨A3, q3, c3, p, rfl, hb3, hp3⟩; have HB3 := Lib.hid hb3; have HP := Lib.hid hp3; clear hb3 hp3)
      have HU : Hid (unF p [] = (List.replicate j y, 0)) := Lib.hid (HP.out.done (by simp; omega))
      have hq0 : q3 ≤ fewF y j := by rw [← HB3.out.1]; exact HP.out.few rfl
      have HQ := Lib.hid hq0
      have hq3 : q3 ≤ j := by have h1 := HP.out.2.1; have h2 := HB3.out.1; simp at h1; omega
      clear HP hq0
      go_upto_region 12 with (go_at_call 8; refine (runpack A3 q3 c3 _ p _ HB3.out.see HB3.out.1 (by omega)).mono ?_; rw [HU.out]; rintro e w4 ⟨A4, n4, c4, rfl, hn4, hm4⟩; have HM4 := Lib.hid hm4; have HN4 := Lib.hid hn4; clear hm4 hn4)
      obtain rfl : n4 = j := by have := HN4.out; simpa using this.symm
      have HO4 := Lib.hid ((HO.out.trans HB3.out.2.2.1).trans HM4.out.2.1)
      have HA4 := Lib.hid HM4.out.see
      have HB4 : Hid (See w4 w4.heap.size (some ⟨B, 0, none⟩) (ints (List.replicate n4 y))) := Lib.hid ((HS.out.new (HB3.out.2.2.1.trans HM4.out.2.1)).more (HB3.out.2.2.1.trans HM4.out.2.1).size)
      clear HI HI2 HS HB3 HU HM4 HN4 HO
      by_cases hy0 : y = 0
      · have h4 : (q3 : Int) ≤ 3 + (n4 : Int) / 138 := by have := HQ.out; unfold fewF at this; rw [if_pos hy0] at this; omega
        have e0 : (x : Int) % 16 = 0 := by omega
        clear ey HQ
        go_wp2_with (go_at_call 10; refine (alike A4 (some ⟨B, 0, none⟩) n4 c4 n4 _ (List.replicate n4 y) w4 HA4.out HB4.out (by simp) (by omega)).mono ?_; rintro e w5 ⟨rfl, k5, rfl⟩)
        go_ret
        exact ⟨rfl, HO4.out.drewN _⟩
      · have h4 : (q3 : Int) ≤ 3 + (n4 : Int) / 3 := by have := HQ.out; unfold fewF at this; rw [if_neg hy0] at this; omega
        have e0 : ((x : Int) % 16 == 0) = false := by simp; omega
        have e1 : ((y : Int) == 0) = false := by simp; omega
        clear HQ
        go_wp2_with (go_at_call 10; refine (alike A4 (some ⟨B, 0, none⟩) n4 c4 n4 _ (List.replicate n4 y) w4 HA4.out HB4.out (by simp) (by omega)).mono ?_; rintro e w5 ⟨rfl, k5, rfl⟩)
        go_ret
        exact ⟨rfl, HO4.out.drewN _⟩
end Go.Proofs.Ytlhffflemajlfaa
