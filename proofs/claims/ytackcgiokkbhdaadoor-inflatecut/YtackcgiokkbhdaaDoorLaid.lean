/- What the row's condition on the table gives the walks, and that the program's own start meets it. -/
import Derived.Test.YtackcgiokkbhdaaDoorLaw8
import Derived.ProofKit
import Derived.LaidMore
import Derived.Lib.LaidTab
import Derived.OpenShut
import Derived.ShutString
import Derived.Stop.Joined
import Derived.Stop.LaidErr
namespace Go.Proofs.YtackcgiokkbhdaaDoor
open Go.ChangeShapes Go.WideShapes Go.ChangeAt Go.RowKit

theorem own : ownKnob Tryd.prog.godebug = none := by kernel_rfl
theorem gOrder : Tryd.prog.globalNamed "montage/inflate.firstOrder" = some 0 := by kernel_rfl
theorem tOrder : (Tryd.prog.globals[0]?).map (·.type) = some 133 := by kernel_rfl
/-- The table's numbers. -/
def zorder : List Int := order.map fun (x : Nat) => ((x : Nat) : Int)
abbrev laid1 : List (String × DataW Unit) := [("montage/inflate.firstOrder", Rows.laid_montage_inflate_firstOrder)]
theorem laid_tab : laid1 = [("montage/inflate.firstOrder", Lib.tabData .i64 zorder)] := by kernel_rfl

/-- The door's own heap meets the condition. -/
theorem door_met (os : Os) (args : Array Value) : laidMetH Tryd.prog laid1 ((World.doorLaid Tryd.prog 400 os).forCall (fun _ _ => 0) ⟨#[], args, []⟩).memory :=
  laidMetH_of_parts3 (fuel := 8) (laidMet_of_run' 8 (by kernel_rfl) (by kernel_rfl)) (by kernel_rfl) (by kernel_rfl)

theorem tab_of_laid {W : World} (h : laidMetH Tryd.prog laid1 W) : GTab W := by
  rw [MakeChecks.laidMetH_plain _ _ _ (by kernel_rfl), laid_tab] at h
  have h1 := Lib.tabIs_of_head gOrder tOrder Tryd.underlying133 Tryd.underlying3 (by kernel_rfl) (by kernel_rfl) h
  intro i hi
  rw [h1.cell gOrder i (by rw [zorder, List.length_map]; exact hi)]
  have hl : i < order.length := hi
  simp [zorder, hl]
end Go.Proofs.YtackcgiokkbhdaaDoor
