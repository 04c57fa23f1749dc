/- Layer 10: the bits behind a symbol, by the program and by the document; the least and the most that a symbol says; whether it may be. -/
import Derived.Test.YtlhffflemajlfaaView
namespace Go.Proofs.Ytlhffflemajlfaa
open Go.RowKit

theorem bits (s : Int) (w : World) : Calls Try.prog 11 #[.int .i64 s] w fun e w' => e = .returned (.int .i64 (bitsF s)) ∧ w = w' := by
  unfold bitsF
  by_cases h1 : s = 16
  · subst h1
    go_enter Try.func11, Try.ntmps11
    go_wp2
    go_ret
    exact ⟨rfl, rfl⟩
  · by_cases h2 : s = 17
    · subst h2
      go_enter Try.func11, Try.ntmps11
      go_wp2
      go_ret
      exact ⟨rfl, rfl⟩
    · by_cases h3 : s = 18
      · subst h3
        go_enter Try.func11, Try.ntmps11
        go_wp2
        go_ret
        exact ⟨rfl, rfl⟩
      · rw [if_neg h1, if_neg h2, if_neg h3]
        go_enter Try.func11, Try.ntmps11
        go_wp2
        go_ret
        exact ⟨rfl, rfl⟩
theorem rbits (s : Int) (w : World) : Calls Try.prog 12 #[.int .i64 s] w fun e w' => e = .returned (.int .i64 (bitsF s)) ∧ w = w' := by
  unfold bitsF
  by_cases h1 : s = 16
  · subst h1
    go_enter Try.func12, Try.ntmps12
    go_wp2
    go_ret
    exact ⟨rfl, rfl⟩
  · by_cases h2 : s = 17
    · subst h2
      go_enter Try.func12, Try.ntmps12
      go_wp2
      go_ret
      exact ⟨rfl, rfl⟩
    · by_cases h3 : s = 18
      · subst h3
        go_enter Try.func12, Try.ntmps12
        go_wp2
        go_ret
        exact ⟨rfl, rfl⟩
      · rw [if_neg h1, if_neg h2, if_neg h3]
        go_enter Try.func12, Try.ntmps12
        go_wp2
        go_ret
        exact ⟨rfl, rfl⟩
theorem least (s : Int) (w : World) : Calls Try.prog 19 #[.int .i64 s] w fun e w' => e = .returned (.int .i64 (leastF s)) ∧ w = w' := by
  unfold leastF
  by_cases h1 : s = 16
  · subst h1
    go_enter Try.func19, Try.ntmps19
    go_wp2
    go_ret
    exact ⟨rfl, rfl⟩
  · by_cases h2 : s = 17
    · subst h2
      go_enter Try.func19, Try.ntmps19
      go_wp2
      go_ret
      exact ⟨rfl, rfl⟩
    · by_cases h3 : s = 18
      · subst h3
        go_enter Try.func19, Try.ntmps19
        go_wp2
        go_ret
        exact ⟨rfl, rfl⟩
      · rw [if_neg h1, if_neg h2, if_neg h3]
        go_enter Try.func19, Try.ntmps19
        go_wp2
        go_ret
        exact ⟨rfl, rfl⟩
theorem most (s : Int) (w : World) : Calls Try.prog 25 #[.int .i64 s] w fun e w' => e = .returned (.int .i64 (mostF s)) ∧ w = w' := by
  have hb : mostF s ≤ 127 := most_le s
  have h7 := bits_le s
  have e := bits_most s
  obtain ⟨m, hm⟩ : ∃ m, mostF s = m := ⟨_, rfl⟩
  obtain ⟨b, hb2⟩ : ∃ b, bitsF s = b := ⟨_, rfl⟩
  have HB := Lib.hid hb2
  rw [hb2] at e h7
  rw [hm] at e hb ⊢
  clear hm hb2
  have e2 : ((2 ^ b : Nat) : Int) = (m : Int) + 1 := by omega
  have e3 : (2 : Int) ^ b = (m : Int) + 1 := by rw [← e2]; exact (Int.natCast_pow 2 b).symm
  clear e e2
  go_enter Try.func25, Try.ntmps25
  go_wp2_with (go_at_call 11; refine (bits s _).mono ?_; rintro e w1 ⟨rfl, rfl⟩; rw [HB.out])
  go_ret
  exact ⟨rfl, rfl⟩
theorem isSym (s : Int) (w : World) : Calls Try.prog 22 #[.int .i64 s] w fun e w' => e = .returned (.bool (decide (0 ≤ s) && decide (s ≤ 18))) ∧ w = w' := by
  by_cases h1 : 0 ≤ s
  · by_cases h2 : s ≤ 18
    · rw [decide_eq_true h1, decide_eq_true h2]
      go_enter Try.func22, Try.ntmps22
      go_wp2
      go_ret
      exact ⟨rfl, rfl⟩
    · rw [decide_eq_true h1, decide_eq_false h2]
      go_enter Try.func22, Try.ntmps22
      go_wp2
      go_ret
      exact ⟨rfl, rfl⟩
  · rw [decide_eq_false h1]
    go_enter Try.func22, Try.ntmps22
    go_wp2
    go_ret
    exact ⟨rfl, rfl⟩
/-- A number that may stand in a row. -/
def okN (x : Int) : Prop := 0 ≤ x ∧ x ≤ 15
theorem noNumber (x : Int) (w : World) : Calls Try.prog 15 #[.int .i64 x] w fun e w' => e = .returned (.bool (decide (x < 0) || decide (15 < x))) ∧ w = w' := by
  by_cases h1 : x < 0
  · rw [decide_eq_true h1]
    go_enter Try.func15, Try.ntmps15
    go_wp2
    go_ret
    exact ⟨rfl, rfl⟩
  · by_cases h2 : 15 < x
    · rw [decide_eq_false h1, decide_eq_true h2]
      go_enter Try.func15, Try.ntmps15
      go_wp2
      go_ret
      exact ⟨rfl, rfl⟩
    · rw [decide_eq_false h1, decide_eq_false h2]
      go_enter Try.func15, Try.ntmps15
      go_wp2
      go_ret
      exact ⟨rfl, rfl⟩
end Go.Proofs.Ytlhffflemajlfaa
