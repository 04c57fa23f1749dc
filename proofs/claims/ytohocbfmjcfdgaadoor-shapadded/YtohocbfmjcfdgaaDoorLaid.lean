/- What the row's condition on the two tables gives the walks, and that the program's own start meets it. -/
import Derived.Test.YtohocbfmjcfdgaaDoorLaws
import Derived.ProofKit
import Derived.LaidMore
import Derived.Lib.LaidTab
import Derived.OpenShut
import Derived.ShutString
import Derived.Stop.Joined
import Derived.Stop.LaidErr
namespace Go.Proofs.YtohocbfmjcfdgaaDoor
open Go.ChangeShapes Go.WideShapes Go.ChangeAt Go.RowKit

theorem own : ownKnob Tryd.prog.godebug = none := by kernel_rfl
theorem gStart : Tryd.prog.globalNamed "montage/sha.start" = some 0 := by kernel_rfl
theorem gRoots : Tryd.prog.globalNamed "montage/sha.roots" = some 1 := by kernel_rfl
theorem tStart : (Tryd.prog.globals[0]?).map (·.type) = some 35 := by kernel_rfl
theorem tRoots : (Tryd.prog.globals[1]?).map (·.type) = some 45 := by kernel_rfl
/-- The tables' numbers. -/
def ints (l : List Nat) : List Int := l.map fun (x : Nat) => ((x : Nat) : Int)
abbrev laid2 : List (String × DataW Unit) := [("montage/sha.start", Rows.laid_montage_sha_start), ("montage/sha.roots", Rows.laid_montage_sha_roots)]
theorem laid_tabs : laid2 = [("montage/sha.start", Lib.tabData .u32 (ints first.list)), ("montage/sha.roots", Lib.tabData .u32 (ints consts))] := by kernel_rfl

/-- The door's own heap meets the condition. -/
theorem door_met (os : Os) (args : Array Value) : laidMetH Tryd.prog laid2 ((World.doorLaid Tryd.prog 400 os).forCall (fun _ _ => 0) ⟨#[], args, []⟩).memory :=
  laidMetH_of_parts3 (fuel := 8) (laidMet_of_run' 8 (by kernel_rfl) (by kernel_rfl)) (by kernel_rfl) (by kernel_rfl)

theorem tab_of_laid {W : World} (h : laidMetH Tryd.prog laid2 W) : Tab W := by
  rw [MakeChecks.laidMetH_plain _ _ _ (by kernel_rfl), laid_tabs] at h
  have h1 := Lib.tabIs_of_head gStart tStart Tryd.underlying35 Tryd.underlying33 (by kernel_rfl) (by kernel_rfl) h
  have h2 := Lib.tabIs_of_head gRoots tRoots Tryd.underlying45 Tryd.underlying33 (by kernel_rfl) (by kernel_rfl) h.tail
  have at_ : ∀ (l : List Nat) (i : Nat), i < l.length → (ints l).getD i 0 = ((l.getD i 0 : Nat) : Int) := by
    intro l i hi
    simp [ints, hi]
  have c1 : ∀ i, i < 8 → W.cell? ⟨0, i, none⟩ = some (.int .u32 (first.list.getD i 0 : Nat)) := by
    intro i hi
    rw [h1.cell gStart i (by rw [ints, List.length_map]; exact hi), at_ _ _ hi]
  have c2 : ∀ i, i < 64 → W.cell? ⟨1, i, none⟩ = some (.int .u32 (consts.getD i 0 : Nat)) := by
    intro i hi
    rw [h2.cell gRoots i (by rw [ints, List.length_map, consts_length]; exact hi), at_ _ _ (by rw [consts_length]; exact hi)]
  refine ⟨?_, c2, c1⟩
  have h0 := c2 0 (by omega)
  rcases Nat.lt_or_ge 1 W.heap.size with e | e
  · exact e
  · have h1 : W.heap[1]? = none := Array.getElem?_eq_none e
    simp [World.cell?, h1] at h0
end Go.Proofs.YtohocbfmjcfdgaaDoor
