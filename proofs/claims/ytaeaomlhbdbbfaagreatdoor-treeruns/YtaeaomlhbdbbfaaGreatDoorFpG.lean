/- Layer 14, the program: what must stand in memory (Go's own tables, the ranges), the small letter, the table handed out. -/
import Derived.Test.YtaeaomlhbdbbfaaGreatDoorFdV
import Derived.Test.YtaeaomlhbdbbfaaGreatDoorTShelfB
namespace Go.Proofs.YtaeaomlhbdbbfaaGreatDoor
open Go.RowKit

/-- The ranges: the first, the last, how much more. -/
def capF : List (Int × Int × Int) := [(65, 90, 32), (192, 214, 32), (216, 222, 32), (913, 929, 32), (931, 937, 32), (1024, 1039, 80), (1040, 1071, 32)]
/-- Go's own variables and the program's stand as they were laid. -/
def GrF (w : World) : Prop := Lib.Utf8Tabs 0 1 w ∧ ∃ T fz, w.heap[(3 : Nat)]? = some (.cells (trips capF).toArray T fz)
theorem GrF.keep {w w' : World} (h : GrF w) (k : Only (fun _ => False) w w') : GrF w' := by
  obtain ⟨⟨h1, h2⟩, T, fz, h3⟩ := h
  exact ⟨⟨fun c hc => only_cell (h1 c hc) k, fun i hi => ⟨only_cell (h2 i hi).1 k, only_cell (h2 i hi).2 k⟩⟩, T, fz, (k.block _ (block_lt h3) (fun f => f)).trans h3⟩
theorem only_of_belowF {w w' : World} (h : Below w.heap.size w w') : Only (fun _ => False) w w' := ⟨h.os, h.tape, h.output, h.size, fun i hi _ => h.block i hi⟩

theorem infoCaps : (Tryz.prog.info? 115).map (·.size) = some (trips capF).toArray.size := by kernel_rfl
theorem infoThree : (Tryz.prog.info? 114).map (·.size) = some 3 := by kernel_rfl
theorem infoThree2 : (Tryz.prog.info? 114).map (fun i => (i.zero, i.size, i.bytes)) = some (some (.agg #[.int .i64 0, .int .i64 0, .int .i64 0]), 3, 24) := by kernel_rfl
theorem zeroThree : (Value.agg #[.int .i64 0, .int .i64 0, .int .i64 0]).cells.size = 3 := by simp [Value.cells]
/-- The small letter of a number that is in none of the first ranges .. -/
def outF (c : Int) (k : Nat) : Prop := ∀ p ∈ capF.take k, ¬ (p.1 ≤ c ∧ c ≤ p.2.1)
theorem out_next {c : Int} {k : Nat} {p : Int × Int × Int} (h : outF c k) (hp : capF[k]? = some p) (hn : ¬ (p.1 ≤ c ∧ c ≤ p.2.1)) : outF c (k + 1) := by
  intro q hq
  rw [List.take_add_one, hp, Option.toList, List.mem_append] at hq
  rcases hq with hq | hq
  · exact h q hq
  · rw [List.mem_singleton] at hq
    rw [hq]
    exact hn
theorem out_all {c : Int} (h : outF c 7) : smallI c = c := by
  have a := fun p hp => h p hp
  simp only [capF, List.take_succ_cons, List.take_zero, List.mem_cons, List.not_mem_nil, or_false, forall_eq_or_imp, forall_eq] at a
  unfold smallI
  rw [if_neg (by omega), if_neg (by omega)]
theorem in_one {c : Int} {k : Nat} {p : Int × Int × Int} (hp : capF[k]? = some p) (hi : p.1 ≤ c ∧ c ≤ p.2.1) : smallI c = c + p.2.2 := by
  have hk : k < 7 := by
    rcases Nat.lt_or_ge k 7 with g | g
    · exact g
    · rw [List.getElem?_eq_none (by exact g)] at hp; cases hp
  obtain rfl | rfl | rfl | rfl | rfl | rfl | rfl : k = 0 ∨ k = 1 ∨ k = 2 ∨ k = 3 ∨ k = 4 ∨ k = 5 ∨ k = 6 := by omega
  all_goals
    obtain rfl := Option.some.inj hp
    simp only at hi
    unfold smallI
  · rw [if_pos (by omega)]
  · rw [if_pos (by omega)]
  · rw [if_pos (by omega)]
  · rw [if_pos (by omega)]
  · rw [if_pos (by omega)]
  · rw [if_neg (by omega), if_pos (by omega)]
  · rw [if_pos (by omega)]
set_option maxRecDepth 20000 in
/-- The k-th range out of the ranges by value. -/
theorem index7 (k : Nat) (p : Int × Int × Int) (hp : capF[k]? = some p) (W : World) : (Instr.index 115 (.agg (trips capF).toArray) (.int .i64 (k : Int))).run Tryz.prog W = .ok (.agg #[.int .i64 p.1, .int .i64 p.2.1, .int .i64 p.2.2]) W := by
  have hk : k < 7 := by
    rcases Nat.lt_or_ge k 7 with g | g
    · exact g
    · rw [List.getElem?_eq_none (by exact g)] at hp; cases hp
  obtain rfl | rfl | rfl | rfl | rfl | rfl | rfl : k = 0 ∨ k = 1 ∨ k = 2 ∨ k = 3 ∨ k = 4 ∨ k = 5 ∨ k = 6 := by omega
  all_goals
    cases hp
    first | rfl | (show _ = _; kernel_rfl)
theorem cap_get (k : Nat) (h : k < 7) : ∃ p, capF[k]? = some p ∧ 0 ≤ p.1 ∧ p.1 ≤ 2000 ∧ 0 ≤ p.2.1 ∧ p.2.1 ≤ 2000 ∧ 0 ≤ p.2.2 ∧ p.2.2 ≤ 100 := by
  obtain rfl | rfl | rfl | rfl | rfl | rfl | rfl : k = 0 ∨ k = 1 ∨ k = 2 ∨ k = 3 ∨ k = 4 ∨ k = 5 ∨ k = 6 := by omega
  all_goals exact ⟨_, rfl, by decide, by decide, by decide, by decide, by decide, by decide⟩
set_option maxRecDepth 20000 in
set_option maxHeartbeats 2000000 in
theorem psmall (c : Int) (w : World) (hg : GrF w) (h0 : -9223372036854775808 ≤ c) (h1 : c ≤ 9223372036854775807) : Calls Tryz.prog 74 #[.int .i64 c] w fun e w' => e = .returned (.int .i64 (smallI c)) ∧ Only (fun _ => False) w w' := by
  obtain ⟨T, fz, hcap⟩ := hg.2
  have HC := Lib.hid hcap
  clear hg hcap
  go_enter Tryz.func74, Tryz.ntmps74
  go_wp2_with ((with_reducible show wpList _ _ _ (Oper.mk _ (Op.load _ _) _ _ _ _ :: _) _ _); refine wpList_load_row rfl 115 (.global 3) rfl 3 rfl T _ fz _ HC.out Tryz.underlying115 rfl infoCaps ?_)
  go_loopg [6] 7 (fun gk u wx => ∃ (i : Nat), u = .int .i64 i ∧ i + gk = 7 ∧ Hid (outF c i) ∧ Hid (Only (fun _ => False) w wx))
  case atStart => exact ⟨0, rfl, by omega, Lib.hid (fun p hp => by cases hp), Lib.hid (Only.refl _ w)⟩
  case round =>
    obtain ⟨i, rfl, hi, HO, HW⟩ := hrel
    by_cases hlt : i < 7
    · obtain ⟨⟨lo, up, mo⟩, hp, hp1, hp2, hp3, hp4, hp5, hp6⟩ := cap_get i hlt
      have hx := index7 i (lo, up, mo) hp
      simp only at hx hp1 hp2 hp3 hp4 hp5 hp6
      have HP := Lib.hid hp
      have hii : (i : Int) < 7 := by omega
      clear hp
      by_cases c1 : lo ≤ c
      · by_cases c2 : c ≤ up
        · have HS : Hid (smallI c = c + mo) := Lib.hid (in_one HP.out ⟨c1, c2⟩)
          go_wp2_with ((with_reducible show wpList _ _ _ (Oper.mk _ (Op.store _ _ _) _ _ _ _ :: _) _ _)
                       refine wpList_store_is rfl 114 (.tmp 4) (.tmp 8) rfl wr.heap.size [.int .i64 lo, .int .i64 up, .int .i64 mo] rfl rfl 114 [.int .i64 0, .int .i64 0, .int .i64 0] (Is.new wr _ _) infoThree rfl (by simp [Value.oneCell']) ?_
                       intro w5 i5 o5
                       have d0 := i5.cell 0 rfl
                       have d1 := i5.cell 1 rfl
                       have d2 := i5.cell 2 rfl
                       have H5 : Hid (Only (fun _ => False) w w5) := Lib.hid ((HW.out.alloc _).andThen o5 (by intro j hj; right; rw [hj]; exact HW.out.size))
                       clear i5 o5)
          go_ret
          rw [HS.out]
          exact ⟨rfl, H5.out⟩
        · have HO2 : Hid (outF c (i + 1)) := Lib.hid (out_next HO.out HP.out (fun h => c2 h.2))
          go_wp2_with ((with_reducible show wpList _ _ _ (Oper.mk _ (Op.store _ _ _) _ _ _ _ :: _) _ _)
                       refine wpList_store_is rfl 114 (.tmp 4) (.tmp 8) rfl wr.heap.size [.int .i64 lo, .int .i64 up, .int .i64 mo] rfl rfl 114 [.int .i64 0, .int .i64 0, .int .i64 0] (Is.new wr _ _) infoThree rfl (by simp [Value.oneCell']) ?_
                       intro w5 i5 o5
                       have d0 := i5.cell 0 rfl
                       have d1 := i5.cell 1 rfl
                       have d2 := i5.cell 2 rfl
                       have H5 : Hid (Only (fun _ => False) w w5) := Lib.hid ((HW.out.alloc _).andThen o5 (by intro j hj; right; rw [hj]; exact HW.out.size))
                       clear i5 o5)
          go_roundg (gk - 1)
          case measure => omega
          case rel => exact ⟨i + 1, by go_num, by omega, HO2, H5⟩
      · have HO2 : Hid (outF c (i + 1)) := Lib.hid (out_next HO.out HP.out (fun h => c1 h.1))
        go_wp2_with ((with_reducible show wpList _ _ _ (Oper.mk _ (Op.store _ _ _) _ _ _ _ :: _) _ _)
                     refine wpList_store_is rfl 114 (.tmp 4) (.tmp 8) rfl wr.heap.size [.int .i64 lo, .int .i64 up, .int .i64 mo] rfl rfl 114 [.int .i64 0, .int .i64 0, .int .i64 0] (Is.new wr _ _) infoThree rfl (by simp [Value.oneCell']) ?_
                     intro w5 i5 o5
                     have d0 := i5.cell 0 rfl
                     have d1 := i5.cell 1 rfl
                     have d2 := i5.cell 2 rfl
                     have H5 : Hid (Only (fun _ => False) w w5) := Lib.hid ((HW.out.alloc _).andThen o5 (by intro j hj; right; rw [hj]; exact HW.out.size))
                     clear i5 o5)
        go_roundg (gk - 1)
        case measure => omega
        case rel => exact ⟨i + 1, by go_num, by omega, HO2, H5⟩
    · have h7 : i = 7 := by omega
      subst h7
      have HS : Hid (smallI c = c) := Lib.hid (out_all HO.out)
      go_wp2
      go_ret
      rw [HS.out]
      exact ⟨rfl, HW.out⟩
theorem trips_snoc (ps : List (Int × Int × Int)) (p : Int × Int × Int) : trips (ps ++ [p]) = trips ps ++ [.int .i64 p.1, .int .i64 p.2.1, .int .i64 p.2.2] := by
  induction ps with
  | nil => rfl
  | cons q r ih => rw [List.cons_append, trips, trips, ih]; rfl
/-- A row of ranges of the call's own, laid since w. -/
def TMade (w : World) (A : Option Addr) (n c : Nat) (ps : List (Int × Int × Int)) (wx : World) : Prop := Rs 114 3 wx A n c (trips ps) ∧ Only (fun _ => False) w wx ∧ ∀ j, Lies A j → w.heap.size ≤ j
theorem TMade.nil (w : World) : TMade w none 0 0 [] w := ⟨Rs.nil _ 3 w, Only.refl _ w, by rintro j ⟨ad, e, _⟩; cases e⟩
theorem TMade.later {w wx wy : World} {A : Option Addr} {n c : Nat} {l : List (Int × Int × Int)} (h : TMade w A n c l wx) (o : Only (fun _ => False) wx wy) : TMade w A n c l wy := ⟨h.1.only o fun _ _ f => f, h.2.1.trans o, h.2.2⟩
theorem TMade.append {w wx wy : World} {A A' : Option Addr} {n c n' c' : Nat} {l l' : List (Int × Int × Int)} (h : TMade w A n c l wx) (hr : Rs 114 3 wy A' n' c' (trips l')) (ho : Only (Lies A) wx wy) (ha : A' = A ∨ A' = some ⟨wx.heap.size, 0, none⟩) : TMade w A' n' c' l' wy := by
  refine ⟨hr, h.2.1.andThen ho fun j hj => .inr (h.2.2 j hj), fun j hj => ?_⟩
  rcases ha with e | e
  · exact h.2.2 j (e ▸ hj)
  · obtain ⟨ad, e1, e2⟩ := hj
    rw [e] at e1
    obtain rfl := Option.some.inj e1
    rw [← e2]
    exact h.2.1.size
theorem cap_snoc (k : Nat) (p : Int × Int × Int) (hp : capF[k]? = some p) : capF.take (k + 1) = capF.take k ++ [p] := by
  rw [List.take_add_one, hp]
  rfl
theorem scan_ok (x : Int) : scanT x capF (-1) 0 = some (smallI x - x) := by
  simp only [capF, scanT]
  unfold smallI
  simp (config := { decide := true }) only [if_false]
  repeat' split
  all_goals first | (congr 1; omega) | omega
end Go.Proofs.YtaeaomlhbdbbfaaGreatDoor
