/- Layer 5: the walk of PrefixChecks. -/
import Derived.Test.YtfobkknbhflnbaaAwake
import Derived.Below
import Derived.ChangeSlices
namespace Go.Proofs.Ytfobkknbhflnbaa
open Go.RowKit

theorem zints_one (l : List Int) : ∀ v ∈ zints l, v.oneCell' = true := by simp [zints, Value.oneCell']
/-- What a row of numbers that is handed in reads as. -/
theorem open_row {H : Type} {enc : TypeId × Value → H} {w : World} {spare : Nat → Bool} {held : Bool} {A : Option Addr} {n c : Nat} {d : DataW H} {p : List MemPlace} (h : DataW.Trod enc Try.prog w 0 spare held 22 (.slice A n c) d p) :
    n ≤ maxLen ∧ ∃ z : List Int, z.length = n ∧ See w w.heap.size A (zints z) := by
  obtain ⟨fuel, hf⟩ := h
  rcases Go.ChangeShapes.open_ints Try.underlying22 Try.underlying3 (by kernel_rfl) hf with ⟨hcs, _⟩ | ⟨a, len, cap, zs, hcs, _, hl, hm, hz, _, hc, _⟩
  · simp [Value.cells] at hcs
    obtain ⟨rfl, rfl, rfl⟩ := hcs
    exact ⟨Nat.zero_le _, [], rfl, fun i v hv => by simp [zints] at hv⟩
  · simp [Value.cells] at hcs
    obtain ⟨rfl, rfl, rfl⟩ := hcs
    have hzl : n ≤ zs.length := by rw [hz]; split <;> omega
    refine ⟨by omega, zs.take n, by simp [hzl], fun i v hv => ?_⟩
    have hi : i < n := by
      rcases Nat.lt_or_ge i n with h1 | h1
      · exact h1
      · rw [List.getElem?_eq_none (by rw [zints_length, List.length_take]; omega)] at hv
        cases hv
    rw [zints_at _ i (by rw [List.length_take]; omega)] at hv
    have h1 := hc i (by omega)
    obtain ⟨b, off, spot⟩ := a
    have h0 := hc 0 (by omega)
    simp only [Addr.add, if_true] at h0
    have hs : spot = none := World.cell?_spot h0
    subst hs
    rw [Addr.add_lit] at h1
    refine ⟨b, off, rfl, cell_lt h1, ?_⟩
    rw [h1, ← hv]
    simp [List.getD_eq_getElem?_getD, hi]

def Yes (w : World) (e : Ending) (w' : World) : Prop := e = .returned (.bool true) ∧ Only (fun _ => False) w w'

set_option maxRecDepth 100000 in
set_option maxHeartbeats 2000000 in
theorem checks_bad (A : Option Addr) (n c k x : Nat) (w : World) (h300 : n ≤ 300) (hx : x ≠ 0) (h7 : ∀ w', Only (fun _ => False) w w' → Calls Try.prog 7 #[.slice A n c] w' (CheckPost w' k x))
    (h8 : ∀ w', Only (fun _ => False) w w' → Calls Try.prog 8 #[.slice A n c] w' fun e w'' => e = .returned (.tuple #[.int .i64 k, .int .i64 x]) ∧ w' = w'') : Calls Try.prog 3 #[.slice A n c] w (Yes w) := by
  have H7 := Lib.hid h7
  have H8 := Lib.hid h8
  have hx2 : ¬ (x : Int) = 0 := by omega
  clear h7 h8
  go_enter Try.func3, Try.ntmps3
  go_wp2_with fail
  refine (awake w).mono ?_
  rintro e w1 ⟨rfl, ho1⟩
  have HO1 := Lib.hid ho1
  clear ho1
  go_wp2_with fail
  refine (H7.out w1 HO1.out).mono ?_
  rintro e w2 ⟨rfl, ho2⟩
  have HO2 := Lib.hid (HO1.out.trans ho2)
  clear ho2
  go_wp2_with fail
  refine (H8.out w2 HO2.out).mono ?_
  rintro e w3 ⟨rfl, rfl⟩
  go_wp2_with fail
  refine (codes_bad A n c k x w2 (H7.out w2 HO2.out) hx).mono ?_
  rintro e w3 ⟨rfl, ho3⟩
  have HO3 := Lib.hid (HO2.out.trans ho3)
  clear ho3
  go_wp2_with fail
  refine (new_bad A n c k x w3 (H7.out w3 HO3.out) hx).mono ?_
  rintro e w4 ⟨rfl, ho4⟩
  have HO4 := Lib.hid (HO3.out.trans ho4)
  clear ho4
  go_wp2
  go_ret
  exact ⟨rfl, HO4.out⟩

set_option maxRecDepth 100000 in
set_option maxHeartbeats 2000000 in
theorem checks_good (A : Option Addr) (n c : Nat) (l : List Nat) (w : World) (h : See w w.heap.size A (ints l)) (hn : l.length = n) (h288 : n ≤ 288) (hl : Low l) (hk : (kd l).2 = 0) : Calls Try.prog 3 #[.slice A n c] w (Yes w) := by
  have HS : Hid (∀ w', Only (fun _ => False) w w' → See w' w.heap.size A (ints l)) := Lib.hid fun w' ho => h.new ho
  have HL := Lib.hid hl
  have HN := Lib.hid hn
  have HK := Lib.hid hk
  obtain ⟨k, hk1⟩ : ∃ k, (kd l).1 = k := ⟨_, rfl⟩
  have H7 : Hid (∀ w', Only (fun _ => False) w w' → Calls Try.prog 7 #[.slice A n c] w' (CheckPost w' k 0)) := Lib.hid fun w' ho => by
    have := check_yes A n c _ l w' (HS.out w' ho) hn h288 hl
    rw [hk, hk1] at this
    exact this
  have H8 : Hid (∀ w', Only (fun _ => False) w w' → Calls Try.prog 8 #[.slice A n c] w' fun e w'' => e = .returned (.tuple #[.int .i64 k, .int .i64 0]) ∧ w' = w'') := Lib.hid fun w' ho => by
    have := rcheck_yes A n c _ l w' (HS.out w' ho) hn h288 hl
    rw [hk, hk1] at this
    exact this
  clear h hl hn hk hk1
  go_enter Try.func3, Try.ntmps3
  go_wp2_with fail
  refine (awake w).mono ?_
  rintro e w1 ⟨rfl, ho1⟩
  have HO1 := Lib.hid ho1
  clear ho1
  go_wp2_with fail
  refine (H7.out w1 HO1.out).mono ?_
  rintro e w2 ⟨rfl, ho2⟩
  have HO2 := Lib.hid (HO1.out.trans ho2)
  clear ho2
  go_wp2_with fail
  refine (H8.out w2 HO2.out).mono ?_
  rintro e w3 ⟨rfl, rfl⟩
  go_wp2_with fail
  refine (codes_yes A n c _ l w2 (HS.out w2 HO2.out) HN.out h288 HL.out HK.out).mono ?_
  rintro e w3 ⟨g3, rfl, hm3⟩
  have HM3 := Lib.hid hm3
  have HO3 := Lib.hid (HO2.out.trans hm3.2.1)
  clear hm3
  go_wp2_with fail
  refine (new_yes A n c _ l w3 (HS.out w3 HO3.out) HO3.out.size HN.out h288 HL.out HK.out).mono ?_
  rintro e w4 ⟨T, rfl, ht4, ho4, _⟩
  have HO34 := Lib.hid ho4
  have HO4 := Lib.hid (HO3.out.trans ho4)
  clear ho4 ht4
  go_wp2_with fail
  refine (rcodes A n c _ l w4 (HS.out w4 HO4.out) HN.out h288 HL.out).mono ?_
  rintro e w5 ⟨g5, rfl, hm5⟩
  have HM5 := Lib.hid hm5
  clear hm5
  go_wp2_with fail
  refine (same _ _ n n n w5.heap.size (cds l) w5 ((HM3.out.see.new (HO34.out.trans HM5.out.2.1)).more (HO34.out.trans HM5.out.2.1).size) HM5.out.see (by rw [cds_length, HN.out]) h288).mono ?_
  rintro e w6 ⟨rfl, k6, rfl⟩
  go_wp2
  go_ret
  exact ⟨rfl, (HO4.out.trans HM5.out.2.1).drewN k6⟩

set_option maxRecDepth 100000 in
set_option maxHeartbeats 2000000 in
theorem checks (A : Option Addr) (n c : Nat) (z : List Int) (w : World) (h : See w w.heap.size A (zints z)) (hn : z.length = n) (hm : n ≤ maxLen) : Calls Try.prog 3 #[.slice A n c] w (Yes w) := by
  unfold maxLen at hm
  by_cases h300 : n ≤ 300
  · by_cases hz : Okay z
    · obtain ⟨l, e, hl1, hl2, hl3⟩ := hz.nat
      rw [e] at h
      rw [hn] at hl1
      rw [hl1] at hl2
      by_cases hk : (kd l).2 = 0
      · exact checks_good A n c l w h hl1 hl2 hl3 hk
      · exact checks_bad A n c (kd l).1 (kd l).2 w h300 hk (fun w' ho => check_yes A n c _ l w' (h.new ho) hl1 hl2 hl3) (fun w' ho => rcheck_yes A n c _ l w' (h.new ho) hl1 hl2 hl3)
    · exact checks_bad A n c 0 1 w h300 (by decide) (fun w' ho => check_no A n c _ z w' (h.new ho) hn h300 hz) (fun w' ho => rcheck_no A n c _ z w' (h.new ho) hn h300 hz)
  · clear h hn
    go_enter Try.func3, Try.ntmps3
    go_wp2_with fail
    refine (awake w).mono ?_
    rintro e w1 ⟨rfl, ho1⟩
    have HO1 := Lib.hid ho1
    clear ho1
    go_wp2
    go_ret
    exact ⟨rfl, HO1.out⟩
end Go.Proofs.Ytfobkknbhflnbaa
