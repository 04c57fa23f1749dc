/- What the rows' condition on Go's own tables gives the walks, and a world that meets it. -/
import Derived.Test.YtaefhfpgehgkmaaDoorRpG
import Derived.Test.YtaefhfpgehgkmaaDoorRows
import Derived.PinnedBridge
import Derived.Lib.LaidU8
import Derived.Lay
import Derived.LaidOnce
namespace Go.Proofs.YtaefhfpgehgkmaaDoor
open Go.RowKit Go.Lib

abbrev laidL : List (String × DataW Unit) := [("unicode/utf8.acceptRanges", Rows.laid_unicode_utf8_acceptRanges), ("unicode/utf8.first", Rows.laid_unicode_utf8_first)]
theorem accept_eq : Rows.laid_unicode_utf8_acceptRanges = acceptData := by kernel_rfl
theorem first_eq : Rows.laid_unicode_utf8_first = firstData := Pinned.utf8First_eq
theorem laid_plain (w : World) : laidMetH Tryd.prog laidL w = laidMet Tryd.prog laidL w := MakeChecks.laidMetH_plain _ _ _ (by kernel_rfl)
theorem laid_world (os : Os) (args : Array Value) : laidMetH Tryd.prog laidL ((World.laidAll Tryd.prog os laidL).forCall (fun _ _ => 0) ⟨#[], args, []⟩).memory := by
  rw [laid_plain]
  exact laidMet_laidAll _ (by kernel_rfl) (by kernel_rfl)
theorem extra8 : U8Extra Tryd.prog Tryd.lays260_ren := { n3 := by kernel_rfl, n4 := by kernel_rfl, y3 := by kernel_rfl, y4 := by kernel_rfl, c5 := by kernel_rfl, c119 := by kernel_rfl, c138 := by kernel_rfl }
theorem gr_of {W : World} (h : laidMetH Tryd.prog laidL W) (hs : W.ShapedOpen Tryd.prog) : Gr W := by
  rw [laid_plain] at h
  exact ⟨utf8Tabs_of_reads Tryd.lays260 extra8 (first_eq ▸ laidMet.reads h (.tail _ (.head _))) (accept_eq ▸ laidMet.reads h (.head _)), Tryd.laysM145.s1_3 W hs⟩
end Go.Proofs.YtaefhfpgehgkmaaDoor
