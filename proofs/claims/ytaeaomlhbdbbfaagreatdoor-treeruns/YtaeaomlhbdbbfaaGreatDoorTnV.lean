/- Layer 15, the laws: behind any deeds the nodes make a tree, unless two collide. -/
import Derived.Test.YtaeaomlhbdbbfaaGreatDoorTnU
namespace Go.Proofs.YtaeaomlhbdbbfaaGreatDoor
open Go.RowKit
variable {G : World → Prop} {T : Value → List Nd → (Nat → Prop) → World → Prop}

/-- A node that comes in: its numbers fit. -/
def NdR (n : Nd) : Prop := -9223372036854775808 ≤ n.mode ∧ n.mode ≤ 9223372036854775807 ∧ -9223372036854775808 ≤ n.time ∧ n.time ≤ 9223372036854775807
theorem short_sm {d : Dd} (h : shortD d = true) (hr : NdR d.n) : NdSm d.n := by
  have h1 : ¬ 60 < d.n.path.length ∧ ¬ 60 < d.n.data.length := by
    unfold shortD at h
    by_cases c1 : 60 < d.n.path.length
    · rw [decide_eq_true c1] at h
      cases h
    · by_cases c2 : 60 < d.n.data.length
      · rw [decide_eq_false c1, decide_eq_true c2] at h
        cases h
      · exact ⟨c1, c2⟩
  exact ⟨⟨by omega, by omega, hr⟩, by omega, by omega⟩
theorem small_sm {ds : List Dd} (h : smallT ds 30 = true) (hr : ∀ d ∈ ds, NdR d.n) : ds.length ≤ 30 ∧ ∀ d ∈ ds, NdSm d.n := by
  unfold smallT at h
  rw [Bool.and_eq_true, List.all_eq_true] at h
  refine ⟨?_, fun d hd => short_sm (h.2 d hd) (hr d hd)⟩
  have h1 := h.1
  by_cases c : 30 < ds.length
  · rw [decide_eq_true c] at h1
    cases h1
  · omega
theorem run_snoc (ps : List Nd) (ds : List Dd) (i : Nat) (h : i < ds.length) : runT ps (ds.take (i + 1)) = (doneT (runT ps (ds.take i)) (ds.getD i dd0)).1 := by
  unfold runT
  rw [getD_take_snoc dd0 ds i h, List.foldl_append]
  rfl
theorem run_few {ds : List Dd} (hl : ds.length ≤ 30) (hs : ∀ d ∈ ds, NdSm d.n) (i : Nat) : Few (runT [] (ds.take i)) := by
  obtain ⟨h1, h2, h3⟩ := run_ok (ds.take i) [] (fun d hd => hs d (List.mem_of_mem_take hd)) Form.nil (fun n h => (by cases h))
  refine ⟨h1, h2, ?_⟩
  have : (ds.take i).length ≤ 30 := by
    rw [List.length_take]
    omega
  rw [List.length_nil] at h3
  omega
end Go.Proofs.YtaeaomlhbdbbfaaGreatDoor
