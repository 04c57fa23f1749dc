/- The lengths of kind 1 make codes. -/
import Derived.Test.YtoclbodmibagpaaM8
namespace Go.Proofs.Ytoclbodmibagpaa

theorem kd_fixA : kd fixA = (0, 0) := by decide +kernel
theorem kd_fixB : kd fixB = (0, 0) := by decide +kernel
theorem low_fixA : Low fixA := by unfold Low; decide +kernel
theorem low_fixB : Low fixB := by unfold Low; decide +kernel
theorem hasA (s : Nat) (h : s < 288) : Has fixA s := by
  have : ∀ t : Fin 288, t.val < fixA.length ∧ 0 < ln fixA t.val := by decide +kernel
  exact this ⟨s, h⟩
theorem hasB (s : Nat) (h : s < 32) : Has fixB s := by
  have : ∀ t : Fin 32, t.val < fixB.length ∧ 0 < ln fixB t.val := by decide +kernel
  exact this ⟨s, h⟩
end Go.Proofs.Ytoclbodmibagpaa
