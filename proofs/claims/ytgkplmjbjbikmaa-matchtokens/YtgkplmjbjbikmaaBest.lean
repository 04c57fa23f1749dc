/- Layer 9, the program: the longest match at a place. -/
import Derived.Test.YtgkplmjbjbikmaaPick
namespace Go.Proofs.Ytgkplmjbjbikmaa
open Go.RowKit

/-- What is answered of a place. -/
def bestI (L : List UInt8) (a : Int) : Nat × Nat := if a < 0 ∨ (L.length : Int) ≤ a then (0, 0) else best L a.toNat
def BestPost (w : World) (q : Nat × Nat) (e : Ending) (w' : World) : Prop := e = .returned (.tuple #[.int .i64 q.1, .int .i64 q.2]) ∧ Only (fun _ => False) w w'

set_option maxHeartbeats 4000000 in
theorem best_in (s : ByteArray) (a : Nat) (w : World) (hs : s.size ≤ 1073741824) (ha : a < s.size) (ha2 : a ≤ 32768) : Calls Try.prog 7 #[.string s, .int .i64 a] w (BestPost w (best s.data.toList a)) := by
  have b1 : (s.size : Int) ≤ 1073741824 := by omega
  have b2 : (a : Int) < s.size := by omega
  have b3 : (a : Int) ≤ 32768 := by omega
  have hL : s.data.toList.length = s.size := rfl
  obtain ⟨most, hm⟩ : ∃ m, mostAt s.data.toList a = m := ⟨_, rfl⟩
  have hm1 : most ≤ 258 ∧ a + most ≤ s.size := by unfold mostAt at hm; omega
  have HB : Hid (best s.data.toList a = bestTo s.data.toList a most a) := Lib.hid (by unfold best; rw [hm, Nat.min_eq_left ha2])
  have HM := Lib.hid hm
  obtain ⟨P, hP⟩ : ∃ P, w.heap.size = P := ⟨_, rfl⟩
  clear hm
  go_enter Try.func7, Try.ntmps7
  go_wp2_with (go_at_call 12; refine (newPick s a _ hs (by omega)).mono ?_; rintro e w1 ⟨rfl, hi, ho⟩; rw [HM.out, hP] at hi; rw [hP]; have HI := Lib.hid hi; have HO := Lib.hid ho; clear hi ho)
  go_loopg [7] a (fun gk i wx => ∃ (k K : Nat), i = .int .i64 K ∧ k + 1 = K ∧ K + gk ≤ a + 1 ∧ a + 1 ≤ K + gk ∧ Hid (Only (fun _ => False) w wx) ∧ Hid (Is wx P 40 (pk s a most (bestTo s.data.toList a most k).1 (bestTo s.data.toList a most k).2)))
  case atStart => exact ⟨0, 1, rfl, rfl, by omega, by omega, HO, HI⟩
  case round =>
    clear HI HO
    obtain ⟨k, K, rfl, hkK, hk1, hk2, HO, HI⟩ := hrel
    obtain ⟨q, hq⟩ : ∃ q, bestTo s.data.toList a most k = q := ⟨_, rfl⟩
    have hq1 := bestTo_le s.data.toList a most k
    have hq2 := bestTo_back s.data.toList a most k
    have HQ := Lib.hid hq
    rw [hq] at HI hq1 hq2
    clear hq
    obtain ⟨l, b⟩ := q
    simp only at HI hq1 hq2
    by_cases hlt : K ≤ a
    · have hK1 : (K : Int) ≤ (a : Int) := by omega
      by_cases hf : l = most
      · have hB : ((l : Int) == (most : Int)) = true := by simp [hf]
        have HX : Hid (best s.data.toList a = (l, b)) := Lib.hid (by
          have e := bestTo_full s.data.toList a most k (by rw [HQ.out]; exact hf) (a - k)
          rw [show k + (a - k) = a from by omega] at e
          rw [HB.out, e, HQ.out])
        go_upto_region 5 with fail
        go_upto_region 8 with (go_at_call 13; refine (full P s a most l b true _ HI.out hB).mono ?_; rintro e w2 ⟨rfl, ho2⟩; have HO1 := Lib.hid ho2; clear ho2)
        have HI2 : Hid (Is w2 P 40 (pk s a most l b)) := Lib.hid (HI.out.only HO1.out fun f => f)
        have HO2 : Hid (Only (fun _ => False) w w2) := Lib.hid (HO.out.trans HO1.out)
        have c3 := HI2.out.cell 3 rfl
        have c4 := HI2.out.cell 4 rfl
        clear hf hB hq1 hq2
        go_quiet (fail)
        go_wp2
        go_ret2
        rw [HX.out]
        exact ⟨rfl, HO2.out.drewN _⟩
      · have hB : ((l : Int) == (most : Int)) = false := by simp; omega
        go_upto_region 5 with fail
        go_upto_region 7 with (go_at_call 13; refine (full P s a most l b false _ HI.out hB).mono ?_; rintro e w2 ⟨rfl, ho2⟩; have HO1 := Lib.hid ho2; clear ho2)
        have HI2 : Hid (Is w2 P 40 (pk s a most l b)) := Lib.hid (HI.out.only HO1.out fun f => f)
        have HO2 : Hid (Only (fun _ => False) w w2) := Lib.hid (HO.out.trans HO1.out)
        go_wp2_with (go_at_call 14; refine (tried P s a most l b K _ HI2.out hs hm1.2 (by omega) hlt hm1.1 hq1).mono ?_; rintro e w3 ⟨rfl, hi3, ho3⟩; have HI3 := Lib.hid hi3; have HO3 := Lib.hid ho3; clear hi3 ho3)
        have HN : Hid (Is w3 P 40 (pk s a most (bestTo s.data.toList a most K).1 (bestTo s.data.toList a most K).2)) := Lib.hid (by
          rw [← hkK, bestTo, HQ.out, hkK]
          exact HI3.out)
        go_roundg (gk - 1)
        case measure => omega
        case rel => exact ⟨K, K + 1, by go_num, rfl, by omega, by omega, Lib.hid (HO2.out.andThen HO3.out fun j hj => .inr (by rw [hP]; exact Nat.le_of_eq hj.symm)), HN⟩
    · obtain rfl : k = a := by omega
      have HX : Hid (best s.data.toList k = (l, b)) := Lib.hid (by rw [HB.out, HQ.out])
      have hK1 : ¬ (K : Int) ≤ (k : Int) := by omega
      clear hq1 hq2
      go_upto_region 8 with fail
      have c3 := HI.out.cell 3 rfl
      have c4 := HI.out.cell 4 rfl
      go_quiet (fail)
      go_wp2
      go_ret2
      rw [HX.out]
      exact ⟨rfl, HO.out.drewN _⟩

theorem best_out (s : ByteArray) (a : Int) (w : World) (hs : s.size ≤ 1073741824) (ha : a < 0 ∨ (s.size : Int) ≤ a) : Calls Try.prog 7 #[.string s, .int .i64 a] w (BestPost w (0, 0)) := by
  have b1 : (s.size : Int) ≤ 1073741824 := by omega
  by_cases h : a < 0
  · clear ha
    go_enter Try.func7, Try.ntmps7
    go_wp2
    go_ret2
    exact ⟨rfl, Only.refl _ w⟩
  · have h2 : (s.size : Int) ≤ a := by omega
    clear ha
    go_enter Try.func7, Try.ntmps7
    go_wp2
    go_ret2
    exact ⟨rfl, Only.refl _ w⟩

theorem bestOf (s : ByteArray) (a : Int) (w : World) (hs : s.size ≤ 32768) : Calls Try.prog 7 #[.string s, .int .i64 a] w (BestPost w (bestI s.data.toList a)) := by
  have hL : s.data.toList.length = s.size := rfl
  unfold bestI
  rw [hL]
  split
  · rename_i h
    exact best_out s a w (by omega) h
  · rename_i h
    obtain ⟨n, rfl⟩ : ∃ n : Nat, a = n := ⟨a.toNat, by omega⟩
    exact best_in s n w (by omega) (by omega) (by omega)
end Go.Proofs.Ytgkplmjbjbikmaa
