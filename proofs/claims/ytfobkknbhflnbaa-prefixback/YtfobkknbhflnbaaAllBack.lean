/- Layer 5: PrefixBack at every input. -/
import Derived.Test.YtfobkknbhflnbaaBack
namespace Go.Proofs.Ytfobkknbhflnbaa
open Go.RowKit

set_option maxRecDepth 100000 in
set_option maxHeartbeats 2000000 in
theorem back_none (A A3 : Option Addr) (n c q c3 k x : Nat) (w : World) (h60 : n ≤ 60) (hq : q ≤ 60) (hx : x ≠ 0)
    (h8 : ∀ w', Only (fun _ => False) w w' → Calls Try.prog 8 #[.slice A n c] w' fun e w'' => e = .returned (.tuple #[.int .i64 k, .int .i64 x]) ∧ w' = w'') : Calls Try.prog 5 #[.slice A n c, .slice A3 q c3] w (Yes w) := by
  have H8 := Lib.hid h8
  have hx2 : ¬ (x : Int) = 0 := by omega
  clear h8
  go_enter Try.func5, Try.ntmps5
  go_wp2_with fail
  refine (awake w).mono ?_
  rintro e w1 ⟨rfl, ho1⟩
  have HO1 := Lib.hid ho1
  clear ho1
  go_wp2_with fail
  refine (H8.out w1 HO1.out).mono ?_
  rintro e w2 ⟨rfl, rfl⟩
  clear H8
  go_wp2
  go_ret
  exact ⟨rfl, HO1.out⟩

set_option maxRecDepth 100000 in
set_option maxHeartbeats 2000000 in
theorem back (A A3 : Option Addr) (n c q c3 : Nat) (z y : List Int) (w : World) (h : See w w.heap.size A (zints z)) (hn : z.length = n) (hm : n ≤ maxLen) (h3 : See w w.heap.size A3 (zints y)) (hq : y.length = q) (hqm : q ≤ maxLen) :
    Calls Try.prog 5 #[.slice A n c, .slice A3 q c3] w (Yes w) := by
  unfold maxLen at hm hqm
  by_cases h60 : n ≤ 60
  · by_cases hs : q ≤ 60
    · by_cases hz : Okay z
      · obtain ⟨l, e, hl1, hl2, hl3⟩ := hz.nat
        rw [e] at h
        rw [hn] at hl1
        rw [hl1] at hl2
        by_cases hk : (kd l).2 = 0
        · exact back_good A A3 n c q c3 l y w h h3 hl1 h60 hq hs hl3 hk
        · exact back_none A A3 n c q c3 (kd l).1 (kd l).2 w h60 hs hk (fun w' ho => rcheck_yes A n c _ l w' (h.new ho) hl1 hl2 hl3)
      · exact back_none A A3 n c q c3 0 1 w h60 hs (by decide) (fun w' ho => rcheck_no A n c _ z w' (h.new ho) hn (by omega) hz)
    · clear h hn h3 hq
      go_enter Try.func5, Try.ntmps5
      go_wp2_with fail
      refine (awake w).mono ?_
      rintro e w1 ⟨rfl, ho1⟩
      have HO1 := Lib.hid ho1
      clear ho1
      go_wp2
      go_ret
      exact ⟨rfl, HO1.out⟩
  · clear h hn h3 hq
    go_enter Try.func5, Try.ntmps5
    go_wp2_with fail
    refine (awake w).mono ?_
    rintro e w1 ⟨rfl, ho1⟩
    have HO1 := Lib.hid ho1
    clear ho1
    go_wp2
    go_ret
    exact ⟨rfl, HO1.out⟩
end Go.Proofs.Ytfobkknbhflnbaa
