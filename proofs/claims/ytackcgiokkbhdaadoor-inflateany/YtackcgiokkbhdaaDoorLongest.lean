/- Layer 5: how many codes have each length up to the longest one, in the program. -/
import Derived.Test.YtackcgiokkbhdaaDoorClone
namespace Go.Proofs.YtackcgiokkbhdaaDoor
open Go.RowKit

/-- How many codes have 1 bit, 2 bits, and so on up to the longest one. -/
def ctl (l : List Nat) : List Nat := (List.range (lg l)).map fun i => cn l (i + 1)
theorem ctl_length (l : List Nat) : (ctl l).length = lg l := by simp [ctl]
theorem ctl_at (l : List Nat) (i : Nat) (h : i < lg l) : ln (ctl l) i = cn l (i + 1) := map_at _ _ i h
theorem ctl_see (w : World) (B H : Nat) (l : List Nat) (hB : H < B) (h : Is w H 142 (ints (cnts l))) : See w B (some ⟨H, 1, none⟩) (ints (ctl l)) := by
  intro i v hv
  have hi : i < lg l := by
    rcases Nat.lt_or_ge i (lg l) with h1 | h1
    · exact h1
    · rw [List.getElem?_eq_none (by rw [ints_length, ctl_length]; exact h1)] at hv
      cases hv
  rw [ints_at _ i (by rw [ctl_length]; exact hi), ctl_at l i hi] at hv
  have h15 := lg_le l
  refine ⟨H, 1, rfl, hB, ?_⟩
  rw [h.cell (1 + i) (ints_at _ (1 + i) (by rw [cnts_length]; omega)), show ln (cnts l) (1 + i) = cn l (1 + i) from map_at 16 _ _ (by omega), Nat.add_comm 1 i]
  exact hv

theorem slice16 (H K : Nat) (h : K ≤ 15) (W : World) : (Instr.sliceAt 142 (.pointer (some ⟨H, 0, none⟩)) (some (.int .i64 1)) (some (.int .i64 ((K + 1 : Nat) : Int))) none).run Tryd.prog W = .ok (.slice (some ⟨H, 1, none⟩) K 15) W := by
  obtain rfl | rfl | rfl | rfl | rfl | rfl | rfl | rfl | rfl | rfl | rfl | rfl | rfl | rfl | rfl | rfl : K = 0 ∨ K = 1 ∨ K = 2 ∨ K = 3 ∨ K = 4 ∨ K = 5 ∨ K = 6 ∨ K = 7 ∨ K = 8 ∨ K = 9 ∨ K = 10 ∨ K = 11 ∨ K = 12 ∨ K = 13 ∨ K = 14 ∨ K = 15 := by omega
  all_goals kernel_rfl
def LongPost (w : World) (l : List Nat) (e : Ending) (w' : World) : Prop := ∃ A c, e = .returned (.slice A (lg l) c) ∧ Made 3 w A (lg l) c (ints (ctl l)) w'

set_option maxRecDepth 20000 in
set_option maxHeartbeats 1000000 in
theorem longest (l : List Nat) (w : World) : Calls Tryd.prog 91 #[.agg (ints (cnts l)).toArray] w (LongPost w l) := by
  obtain ⟨cs, hcs⟩ : ∃ cs, ints (cnts l) = cs := ⟨_, rfl⟩
  have hlen : cs.length = 16 := by rw [← hcs, ints_length, cnts_length]
  rw [hcs]
  have HCS := Lib.hid hcs
  have HLn := Lib.hid hlen
  clear hcs hlen
  go_enter Tryd.func91, Tryd.ntmps91
  go_wp2_with fail
  have HI : Hid (Is (w.alloc (.cells cs.toArray 142)) w.heap.size 142 (ints (cnts l))) := Lib.hid (by rw [HCS.out]; exact Is.new w 142 cs)
  have HO : Hid (Only (fun _ => False) w (w.alloc (.cells cs.toArray 142))) := Lib.hid ((Only.refl _ w).alloc _)
  obtain ⟨wa, hwa⟩ : ∃ wa, w.alloc (.cells cs.toArray 142) = wa := ⟨_, rfl⟩
  obtain ⟨H, hH⟩ : ∃ H, w.heap.size = H := ⟨_, rfl⟩
  have hHa : H < wa.heap.size := by rw [← hwa, ← hH]; simp
  rw [hwa, hH] at HI
  rw [hwa] at HO
  try rw [hwa]
  try rw [hH]
  clear hwa hH
  go_loopg [3] 15 (fun gk i wx => ∃ k : Nat, i = .int .i64 k ∧ k ≤ gk ∧ k ≤ 15 ∧ Hid (lgf l k = lg l) ∧ wx = wa)
  case atStart => exact ⟨15, rfl, by omega, by omega, Lib.hid rfl, rfl⟩
  case round =>
    obtain ⟨k, rfl, hk, hk2, hg, rfl⟩ := hrel
    by_cases h0 : 0 < k
    · obtain ⟨k', rfl⟩ : ∃ k', k = k' + 1 := ⟨k - 1, by omega⟩
      have c1 := HI.out.cell (k' + 1) (ints_at _ (k' + 1) (by rw [cnts_length]; omega))
      rw [show ln (cnts l) (k' + 1) = cn l (k' + 1) from map_at 16 _ _ (by omega)] at c1
      have h1 : lgf l (k' + 1) = if cn l (k' + 1) = 0 then lgf l k' else k' + 1 := rfl
      obtain ⟨x, hx⟩ : ∃ x, cn l (k' + 1) = x := ⟨_, rfl⟩
      rw [hx] at c1 h1
      clear hx
      by_cases hz : x = 0
      · subst hz
        rw [if_pos rfl] at h1
        have HG : Hid (lgf l k' = lg l) := Lib.hid (h1.symm.trans hg.out)
        clear h1 hg
        go_wp2_with fail
        go_roundg (gk - 1)
        case measure => omega
        case rel => exact ⟨k', by go_num, by omega, by omega, HG, rfl⟩
      · rw [if_neg hz] at h1
        have HG : Hid (k' + 1 = lg l) := Lib.hid (h1.symm.trans hg.out)
        have hz2 : ¬ (x : Int) = 0 := by omega
        have hsl : (Instr.sliceAt 142 (.pointer (some ⟨H, 0, none⟩)) (some (.int .i64 1)) (some (.int .i64 ((k' : Int) + 1 + 1))) none).run Tryd.prog wr = .ok (.slice (some ⟨H, 1, none⟩) (k' + 1) 15) wr := slice16 H (k' + 1) hk2 wr
        have HC := Lib.hid (clone (some ⟨H, 1, none⟩) (k' + 1) 15 wr.heap.size (ints (ctl l)) wr (ctl_see wr _ H l hHa HI.out) (by rw [ints_length, ctl_length, HG.out]) (by omega) (ints_one _))
        clear h1 hg
        go_wp2_with fail
        refine HC.out.mono ?_
        rintro e w2 ⟨A2, c2, rfl, hm⟩
        have HM := Lib.hid hm
        clear hm HC
        go_wp2
        go_ret
        exact ⟨A2, c2, by rw [← HG.out]; rfl, by rw [← HG.out]; exact HM.out.later HO.out⟩
    · obtain rfl : k = 0 := by omega
      have HG : Hid (0 = lg l) := Lib.hid hg.out
      have hsl : (Instr.sliceAt 142 (.pointer (some ⟨H, 0, none⟩)) (some (.int .i64 1)) (some (.int .i64 1)) none).run Tryd.prog wr = .ok (.slice (some ⟨H, 1, none⟩) 0 15) wr := slice16 H 0 (by omega) wr
      have HC := Lib.hid (clone (some ⟨H, 1, none⟩) 0 15 wr.heap.size (ints (ctl l)) wr (ctl_see wr _ H l hHa HI.out) (by rw [ints_length, ctl_length, ← HG.out]) (by omega) (ints_one _))
      clear hg
      go_wp2_with fail
      refine HC.out.mono ?_
      rintro e w2 ⟨A2, c2, rfl, hm⟩
      have HM := Lib.hid hm
      clear hm HC
      go_wp2
      go_ret
      exact ⟨A2, c2, by rw [← HG.out]; rfl, by rw [← HG.out]; exact HM.out.later HO.out⟩
end Go.Proofs.YtackcgiokkbhdaaDoor
