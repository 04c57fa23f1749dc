/- Layer 7: the law's awake. -/
import Derived.Test.YtngpameophckeaaExpand
import Derived.Test.YtngpameophckeaaOf
namespace Go.Proofs.Ytngpameophckeaa
open Go.RowKit

theorem ex_awake : expandF 4 [⟨97, 0, 0⟩, ⟨0, 3, 1⟩] [] = ([97, 97, 97, 97], 0) := by decide +kernel
theorem len_awake : LenIs 12 265 1 1 true := .row 8 1 (by decide) (by decide) (by decide +kernel)
theorem dist_awake : DofIs 29 8191 32768 true := by
  have h := DofIs.row 29 8191 (by decide) (by decide)
  rw [show df 29 + 8191 = 32768 from by decide +kernel] at h
  exact h
theorem may_awake : mayB ⟨0, 258, 32768⟩ = true := by decide +kernel
theorem tks_new (w : World) (ts : List Tk) : See (w.alloc (.cells (tks ts).toArray 30)) (w.alloc (.cells (tks ts).toArray 30)).heap.size (some ⟨w.heap.size, 0, none⟩) (tks ts) := (Is.new w 30 (tks ts)).see

set_option maxRecDepth 100000 in
set_option maxHeartbeats 4000000 in
theorem awake (w : World) : Calls Try.prog 6 #[] w fun e w' => e = .returned (.bool true) ∧ Only (fun _ => False) w w' := by
  go_enter Try.func6, Try.ntmps6
  go_wp2_with (first
    | (go_at_call 7; refine (expand (some ⟨w.heap.size, 0, none⟩) 2 2 _ [⟨97, 0, 0⟩, ⟨0, 3, 1⟩] 4 _ (tks_new w [⟨97, 0, 0⟩, ⟨0, 3, 1⟩]) rfl (by omega)).mono ?_; rintro e w2 ⟨rfl, ho⟩; rw [ex_awake]; have HO := Lib.hid ho; clear ho)
    | (go_at_call 11; refine (length 12 265 1 1 true _ len_awake).mono ?_; rintro e w3 ⟨rfl, ho⟩; have HO3 := Lib.hid ho; clear ho)
    | (go_at_call 16; refine (distanceOf 29 8191 32768 true _ dist_awake).mono ?_; rintro e w4 ⟨rfl, ho⟩; have HO4 := Lib.hid ho; clear ho)
    | (go_at_call 9; refine (may ⟨0, 258, 32768⟩ _).mono ?_; rintro e w5 ⟨rfl, ho⟩; rw [may_awake]; have HO5 := Lib.hid ho; clear ho))
  go_ret
  exact ⟨rfl, ((((Only.refl _ w).alloc _).trans HO.out).trans HO3.out).trans (HO4.out.trans HO5.out)⟩
end Go.Proofs.Ytngpameophckeaa
