/- What the row's condition on the table gives the walks, and that the program's own start meets it. -/
import Derived.Test.YtgjkfplfmkcjdaaDoorAwake
import Derived.ProofKit
import Derived.LaidMore
import Derived.Lib.LaidTab
import Derived.OpenShut
import Derived.ShutString
import Derived.Stop.Joined
namespace Go.Proofs.YtgjkfplfmkcjdaaDoor
open Go.ChangeShapes Go.WideShapes Go.ChangeAt Go.RowKit

theorem own : ownKnob Tryd.prog.godebug = none := by kernel_rfl
theorem gHalves : Tryd.prog.globalNamed "montage/crc.halves" = some 0 := by kernel_rfl
theorem tHalves : (Tryd.prog.globals[0]?).map (·.type) = some 45 := by kernel_rfl
/-- The table's numbers. -/
def halves : List Int := (List.range 16).map fun i => ((steps 4 i : Nat) : Int)
abbrev laid1 : List (String × DataW Unit) := [("montage/crc.halves", Rows.laid_montage_crc_halves)]
theorem laid_tab : laid1 = [("montage/crc.halves", Lib.tabData .u32 halves)] := by kernel_rfl

/-- The door's own heap meets the condition. -/
theorem door_met (os : Os) (args : Array Value) : laidMetH Tryd.prog laid1 ((World.doorLaid Tryd.prog 400 os).forCall (fun _ _ => 0) ⟨#[], args, []⟩).memory :=
  laidMetH_of_parts3 (fuel := 8) (laidMet_of_run' 8 (by kernel_rfl) (by kernel_rfl)) (by kernel_rfl) (by kernel_rfl)

theorem tab_of_laid {W : World} (h : laidMetH Tryd.prog laid1 W) : Tab W := by
  rw [MakeChecks.laidMetH_plain _ _ _ (by kernel_rfl), laid_tab] at h
  have hT := Lib.tabIs_of_head gHalves tHalves Tryd.underlying45 Tryd.underlying27 (by kernel_rfl) (by kernel_rfl) h
  have hc : ∀ i, i < 16 → W.cell? ⟨0, i, none⟩ = some (.int .u32 (steps 4 i : Nat)) := by
    intro i hi
    rw [hT.cell gHalves i (by simpa [halves] using hi)]
    congr 2
    simp [halves, hi]
  refine ⟨?_, hc⟩
  have h0 := hc 0 (by omega)
  rcases Nat.eq_zero_or_pos W.heap.size with e | e
  · have h1 : W.heap[0]? = none := Array.getElem?_eq_none (by omega)
    simp [World.cell?, h1] at h0
  · exact e
end Go.Proofs.YtgjkfplfmkcjdaaDoor
