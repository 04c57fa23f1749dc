/- What the rows' condition on the listed variables gives the walks of layer 15, and a world that meets it. -/
import Derived.Test.YtaeaomlhbdbbfaaGreatDoorTpT
import Derived.Test.YtaeaomlhbdbbfaaGreatDoorRows
import Derived.PinnedBridge
import Derived.Lib.LaidU8
import Derived.Lay
import Derived.LaidOnce
namespace Go.Proofs.YtaeaomlhbdbbfaaGreatDoor
open Go.RowKit Go.Lib

theorem cap_in {P : Program} {w : World} {b0 : Nat} {t e : TypeId} {A : Option Addr} {n c : Nat} (ht : P.underlying t = some (.slice e)) (hv : Value.okWide P w .any b0 t (.slice A n c)) : n ≤ c := by
  simp only [Value.okWide, ht, Cell.okWide] at hv
  cases A with
  | none =>
    unfold Cell.ok at hv
    rw [ht] at hv
    split at hv <;> simp_all
  | some a =>
    unfold Cell.ok at hv
    rw [ht] at hv
    exact hv.1
abbrev laidL : List (String × DataW Unit) := [("unicode/utf8.acceptRanges", Rows.laid_unicode_utf8_acceptRanges), ("montage/fold.capitals", Rows.laid_montage_fold_capitals), ("unicode/utf8.first", Rows.laid_unicode_utf8_first)]
theorem accept_eq : Rows.laid_unicode_utf8_acceptRanges = acceptData := by kernel_rfl
theorem first_eq : Rows.laid_unicode_utf8_first = firstData := Pinned.utf8First_eq
theorem caps_eq : (Rows.laid_montage_fold_capitals : DataW Unit) = .agg (capF.map fun p => tabData .i64 [p.1, p.2.1, p.2.2]) := by kernel_rfl
theorem laid_plain (w : World) : laidMetH Tryz.prog laidL w = laidMet Tryz.prog laidL w := MakeChecks.laidMetH_plain _ _ _ (by kernel_rfl)
theorem laid_world (os : Os) (args : Array Value) : laidMetH Tryz.prog laidL ((World.laidAll Tryz.prog os laidL).forCall (fun _ _ => 0) ⟨#[], args, []⟩).memory := by
  rw [laid_plain]
  exact laidMet_laidAll _ (by kernel_rfl) (by kernel_rfl)
theorem extra8 : U8Extra Tryz.prog Tryz.lays260_ren := { n3 := by kernel_rfl, n4 := by kernel_rfl, y3 := by kernel_rfl, y4 := by kernel_rfl, c5 := by kernel_rfl, c119 := by kernel_rfl, c138 := by kernel_rfl }
theorem gCaps : Tryz.prog.globalNamed "montage/fold.capitals" = some 3 := by kernel_rfl
theorem tCaps : (Tryz.prog.globals[(3 : Nat)]?).map (·.type) = some 115 := by kernel_rfl
theorem cThree : Tryz.prog.cellsOf 114 = 3 := by kernel_rfl
theorem cCaps : Tryz.prog.cellsOf 115 = 21 := by kernel_rfl
theorem cInt : Tryz.prog.cellsOf 3 = 1 := by kernel_rfl
/-- The ranges, cell for cell. -/
theorem caps_cells {w : World} {fuel : Nat} {cs : List Value} {p : List MemPlace} (h : DataW.trod (fun _ => ()) Tryz.prog w 0 (fun _ => true) false fuel 115 cs = some (.agg (capF.map fun p => tabData .i64 [p.1, p.2.1, p.2.2]), p)) : cs = trips capF := by
  have hn : cs.length = 21 := by
    cases fuel with
    | zero => simp [DataW.trod] at h
    | succ fuel =>
      simp only [DataW.trod, Tryz.underlying115, cThree, cCaps] at h
      split at h
      · rename_i hl
        exact hl
      · cases h
  have row : ∀ (i : Nat) (q : Int × Int × Int), capF[i]? = some q → (cs.drop (i * 3)).take 3 = [.int .i64 q.1, .int .i64 q.2.1, .int .i64 q.2.2] := fun i q hq => by
    have hi : i < 7 := by
      rcases Nat.lt_or_ge i 7 with g | g
      · exact g
      · rw [List.getElem?_eq_none (by exact g)] at hq; cases hq
    obtain ⟨fuel', d, r, hd, he⟩ := array_elem Tryz.underlying115 h i hi
    rw [List.getElem?_map, hq] at hd
    obtain rfl := Option.some.inj hd
    rw [cThree] at he
    exact cells_of_tab Tryz.underlying114 Tryz.underlying3 cInt cThree he
  have r0 := row 0 _ rfl
  have r1 := row 1 _ rfl
  have r2 := row 2 _ rfl
  have r3 := row 3 _ rfl
  have r4 := row 4 _ rfl
  have r5 := row 5 _ rfl
  have r6 := row 6 _ rfl
  have cut : ∀ k, cs.drop k = (cs.drop k).take 3 ++ cs.drop (k + 3) := fun k => by
    rw [← List.drop_drop, List.take_append_drop]
  have e := cut 0
  rw [cut 3, cut 6, cut 9, cut 12, cut 15, cut 18, List.drop_of_length_le (show cs.length ≤ 18 + 3 by omega), List.drop_zero] at e
  rw [List.drop_zero] at r0
  rw [e, r0, r1, r2, r3, r4, r5, r6]
  rfl
theorem gr_of {W : World} (h : laidMetH Tryz.prog laidL W) (hs : W.ShapedOpen Tryz.prog) : G15 W := by
  rw [laid_plain] at h
  have hu := utf8Tabs_of_reads Tryz.lays260 extra8 (first_eq ▸ laidMet.reads h (.tail _ (.tail _ (.head _)))) (accept_eq ▸ laidMet.reads h (.head _))
  refine ⟨⟨hu, Tryz.laysM143.s1_3 W hs⟩, hu, ?_⟩
  obtain ⟨g, t, cs, fuel, p, hg, hty, hvar, hd⟩ := laidMet.reads h (.tail _ (.head _))
  obtain rfl := Option.some.inj (gCaps.symm.trans hg)
  obtain rfl := Option.some.inj (tCaps.symm.trans hty)
  rw [caps_eq] at hd
  have hcs := caps_cells hd
  unfold World.var? at hvar
  rw [gCaps, Option.bind_some] at hvar
  cases hb : W.heap[(3 : Nat)]? with
  | none => rw [hb] at hvar; cases hvar
  | some o =>
    rw [hb] at hvar
    cases o with
    | cells c2 T fz =>
      obtain rfl := Option.some.inj hvar
      exact ⟨T, fz, by rw [← hcs]⟩
    | _ => cases hvar
end Go.Proofs.YtaeaomlhbdbbfaaGreatDoor
