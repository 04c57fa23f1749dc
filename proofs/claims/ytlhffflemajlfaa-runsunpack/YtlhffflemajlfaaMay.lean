/- Layer 10: whether a symbol may be, with what is behind it. -/
import Derived.Test.YtlhffflemajlfaaSmall
namespace Go.Proofs.Ytlhffflemajlfaa
open Go.RowKit

def MayPost (r : Ru) (w : World) (e : Ending) (w' : World) : Prop := e = .returned (.bool (mayR r)) ∧ Only (fun _ => False) w w'

set_option maxHeartbeats 2000000 in
theorem may (r : Ru) (w : World) : Calls Try.prog 18 #[ruV r] w (MayPost r w) := by
  obtain ⟨s, m⟩ := r
  unfold MayPost ruV
  obtain ⟨wb, hwb⟩ : ∃ wb, w.alloc (.cells #[.int .i64 s, .int .i64 m] 36) = wb := ⟨_, rfl⟩
  have ho : Only (fun _ => False) w wb := hwb ▸ (Only.refl (fun _ => False) w).alloc _
  have hi : Is wb w.heap.size 36 [.int .i64 s, .int .i64 m] := hwb ▸ Is.new w 36 _
  obtain ⟨g, hg⟩ : ∃ g, w.heap.size = g := ⟨_, rfl⟩
  rw [hg] at hi
  have c0 := hi.cell 0 rfl
  have c1 := hi.cell 1 rfl
  have HO := Lib.hid ho
  have C22 : Hid (∀ k, Calls Try.prog 22 #[.int .i64 s] (wb.drewN k) fun e w' => e = .returned (.bool (decide (0 ≤ s) && decide (s ≤ 18))) ∧ ∃ n, w' = wb.drewN n) := Lib.hid fun k => (isSym s _).mono fun _ _ ⟨he, hw⟩ => ⟨he, k, hw.symm⟩
  have C25 : Hid (∀ k, Calls Try.prog 25 #[.int .i64 s] (wb.drewN k) fun e w' => e = .returned (.int .i64 (mostF s)) ∧ ∃ n, w' = wb.drewN n) := Lib.hid fun k => (most s _).mono fun _ _ ⟨he, hw⟩ => ⟨he, k, hw.symm⟩
  obtain ⟨x, hx⟩ : ∃ x, mostF s = x := ⟨_, rfl⟩
  rw [hx] at C25
  have HX := Lib.hid hx
  clear hi ho hx
  by_cases h1 : 0 ≤ s ∧ s ≤ 18
  · rw [decide_eq_true h1.1, decide_eq_true h1.2] at C22
    by_cases h2 : 0 ≤ m
    · by_cases h3 : m ≤ (x : Int)
      · have hr : mayR ⟨s, m⟩ = true := (mayR_iff _).2 ⟨h1.1, h1.2, h2, by show m ≤ (mostF s : Int); rw [HX.out]; exact h3⟩
        rw [hr]
        clear hr h1
        go_enter Try.func18, Try.ntmps18
        go_wp2_with fail
        go_quiet (first | (go_at_call 22; exact C22.out _) | (go_at_call 25; exact C25.out _))
        go_wp2
        go_ret
        exact ⟨rfl, HO.out.drewN _⟩
      · have hr : mayR ⟨s, m⟩ = false := by
          cases hq : mayR ⟨s, m⟩ with
          | false => rfl
          | true => have := (mayR_yes _ hq).2.2.2; simp only [HX.out] at this; omega
        rw [hr]
        have hd : decide (m ≤ (x : Int)) = false := decide_eq_false h3
        clear hr h1
        go_enter Try.func18, Try.ntmps18
        go_wp2_with fail
        go_quiet (first | (go_at_call 22; exact C22.out _) | (go_at_call 25; exact C25.out _))
        go_wp2
        go_ret
        exact ⟨rfl, HO.out.drewN _⟩
    · have hr : mayR ⟨s, m⟩ = false := by
        cases hq : mayR ⟨s, m⟩ with
        | false => rfl
        | true => have := (mayR_yes _ hq).2.2.1; simp only at this; omega
      rw [hr]
      have hd : decide (0 ≤ m) = false := decide_eq_false h2
      clear hr h1
      go_enter Try.func18, Try.ntmps18
      go_wp2_with fail
      go_quiet (first | (go_at_call 22; exact C22.out _) | (go_at_call 25; exact C25.out _))
      go_wp2
      go_ret
      exact ⟨rfl, HO.out.drewN _⟩
  · have hr : mayR ⟨s, m⟩ = false := by
      cases hq : mayR ⟨s, m⟩ with
      | false => rfl
      | true => have := mayR_yes _ hq; simp only at this; omega
    have h4 : (decide (0 ≤ s) && decide (s ≤ 18)) = false := by simp; omega
    rw [h4] at C22
    rw [hr]
    clear hr h1 h4
    go_enter Try.func18, Try.ntmps18
    go_wp2_with fail
    go_quiet (first | (go_at_call 22; exact C22.out _) | (go_at_call 25; exact C25.out _))
    go_wp2
    go_ret
    exact ⟨rfl, HO.out.drewN _⟩
end Go.Proofs.Ytlhffflemajlfaa
