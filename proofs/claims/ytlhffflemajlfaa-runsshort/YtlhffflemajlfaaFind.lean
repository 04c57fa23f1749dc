/- Layer 10: whether a row holds a number that may not be (slices.IndexFunc, slices.ContainsFunc). -/
import Derived.Test.YtlhffflemajlfaaSmall
namespace Go.Proofs.Ytlhffflemajlfaa
open Go.RowKit

/-- The j first numbers may be. -/
def Fine (z : List Int) (j : Nat) : Prop := ∀ i, i < j → okN (z.getD i 0)
theorem Fine.more {z : List Int} {j : Nat} (h : Fine z j) (hj : okN (z.getD j 0)) : Fine z (j + 1) := fun i hi => by
  rcases Nat.lt_or_ge i j with h1 | h1
  · exact h i h1
  · rw [show i = j by omega]; exact hj
def FindPost (z : List Int) (n : Nat) (w : World) (e : Ending) (w' : World) : Prop := ∃ r : Int, e = .returned (.int .i64 r) ∧ w = w' ∧ (Fine z n → r = -1) ∧ (¬ Fine z n → 0 ≤ r)

set_option maxHeartbeats 2000000 in
theorem index (A : Option Addr) (n c B : Nat) (z : List Int) (w : World) (h : See w B A (zints z)) (hn : z.length = n) (hb : n ≤ 1000000) : Calls Try.prog 23 #[.slice A n c, .func (.func 15) #[] #[]] w (FindPost z n w) := by
  have HS := Lib.hid h
  have HN := Lib.hid hn
  clear h hn
  go_enter Try.func23, Try.ntmps23
  go_wp2_with fail
  go_loopg [8] n (fun gk i wx => ∃ j : Nat, i = .int .i64 j ∧ j + gk ≤ n ∧ n ≤ j + gk ∧ w = wx ∧ Hid (Fine z j))
  case atStart => exact ⟨0, rfl, by omega, by omega, rfl, Lib.hid fun i hi => by omega⟩
  case round =>
    obtain ⟨j, rfl, hg1, hg2, rfl, HF⟩ := hrel
    by_cases hlt : j < n
    · obtain ⟨b, off, rfl, _, hc⟩ := HS.out j _ (zints_at z j (by rw [HN.out]; exact hlt))
      obtain ⟨x, hx⟩ : ∃ x, z.getD j 0 = x := ⟨_, rfl⟩
      rw [hx] at hc
      have HX := Lib.hid hx
      clear hx
      by_cases hok : 0 ≤ x ∧ x ≤ 15
      · have hb : (decide (x < 0) || decide (15 < x)) = false := by simp; omega
        have C15 : Hid (∀ w1, Calls Try.prog 15 #[.int .i64 x] w1 fun e w' => e = .returned (.bool false) ∧ w1 = w') := Lib.hid fun w1 => by have := noNumber x w1; rw [hb] at this; exact this
        clear hb
        have HF2 : Hid (Fine z (j + 1)) := Lib.hid (HF.out.more (by rw [HX.out]; exact hok))
        clear hok
        go_wp2_with (go_at_call 15; refine (C15.out _).mono ?_; rintro e w1 ⟨rfl, rfl⟩)
        go_roundg (gk - 1)
        case measure => omega
        case rel => exact ⟨j + 1, by go_num, by omega, by omega, rfl, HF2⟩
      · have hb : (decide (x < 0) || decide (15 < x)) = true := by simp; omega
        have C15 : Hid (∀ w1, Calls Try.prog 15 #[.int .i64 x] w1 fun e w' => e = .returned (.bool true) ∧ w1 = w') := Lib.hid fun w1 => by have := noNumber x w1; rw [hb] at this; exact this
        have HB : Hid (¬ Fine z n) := Lib.hid fun hf => hok (by have := hf j hlt; rw [HX.out] at this; exact this)
        clear hb hok
        go_wp2_with (go_at_call 15; refine (C15.out _).mono ?_; rintro e w1 ⟨rfl, rfl⟩)
        go_ret
        exact ⟨j, rfl, rfl, fun hf => absurd hf HB.out, fun _ => by omega⟩
    · obtain rfl : j = n := by omega
      go_wp2
      go_ret
      exact ⟨-1, rfl, rfl, fun _ => rfl, fun hf => absurd HF.out hf⟩

theorem contains_no (A : Option Addr) (n c B : Nat) (z : List Int) (w : World) (h : See w B A (zints z)) (hn : z.length = n) (hb : n ≤ 1000000) (hf : Fine z n) : Calls Try.prog 14 #[.slice A n c, .func (.func 15) #[] #[]] w fun e w' => e = .returned (.bool false) ∧ w = w' := by
  have HC := Lib.hid (index A n c B z w h hn hb)
  have HF := Lib.hid hf
  clear h hn hf
  go_enter Try.func14, Try.ntmps14
  go_wp2_with (go_at_call 23; refine HC.out.mono ?_; rintro e w1 ⟨r, rfl, rfl, h1, h2⟩; obtain rfl := h1 HF.out; clear h1 h2)
  go_ret
  exact ⟨rfl, rfl⟩
theorem contains_yes (A : Option Addr) (n c B : Nat) (z : List Int) (w : World) (h : See w B A (zints z)) (hn : z.length = n) (hb : n ≤ 1000000) (hf : ¬ Fine z n) : Calls Try.prog 14 #[.slice A n c, .func (.func 15) #[] #[]] w fun e w' => e = .returned (.bool true) ∧ w = w' := by
  have HC := Lib.hid (index A n c B z w h hn hb)
  have HF := Lib.hid hf
  clear h hn hf
  go_enter Try.func14, Try.ntmps14
  go_wp2_with (go_at_call 23; refine HC.out.mono ?_; rintro e w1 ⟨r, rfl, rfl, h1, h2⟩; have hr := h2 HF.out; clear h1 h2)
  go_ret
  exact ⟨rfl, rfl⟩
end Go.Proofs.Ytlhffflemajlfaa
