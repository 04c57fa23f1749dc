/- Layer 15, the document: may a node be; do nodes make a tree. -/
import Derived.Test.YtaeaomlhbdbbfaaGreatDoorTnG
import Derived.Test.YtaeaomlhbdbbfaaGreatDoorGSteps
namespace Go.Proofs.YtaeaomlhbdbbfaaGreatDoor
open Go.RowKit

section
variable {P : Program} {ops : Array Oper} {Q : Exit → Act → World → Prop} {S : World → Prop}
/-- One that is taken first, guarded or not. -/
theorem Steps.wanted {i : Nat} {l : List (Bool × Nat)} {a : Act} {w : World} {d : Option Tmp} {op : Op} {ty : TypeId} {pos : String} {af : Array Edge} {gd : Option (Nat × Bool)} (v : Value) (ho : ops[i]? = some ⟨d, op, ty, pos, af, gd⟩) (hw : Region.wanted ⟨d, op, ty, pos, af, gd⟩ (yielded ops a.tmps) = true) (hS : S w)
    (hy : ∀ W, S W → (execOp a.eval ⟨d, op, ty, pos, af, gd⟩).run P W = .ok (.value v) W) (h : Steps P ops Q S l (a.put d v) w) : Steps P ops Q S ((true, i) :: l) a w := ⟨hS, _, v, ho, .inl ⟨hw, hy⟩, h⟩
/-- One that its guard shuts out. -/
theorem Steps.unwanted {i : Nat} {l : List (Bool × Nat)} {a : Act} {w : World} {d : Option Tmp} {op : Op} {ty : TypeId} {pos : String} {af : Array Edge} {gd : Option (Nat × Bool)} (ho : ops[i]? = some ⟨d, op, ty, pos, af, gd⟩) (hw : Region.wanted ⟨d, op, ty, pos, af, gd⟩ (yielded ops a.tmps) = false) (hS : S w)
    (h : Steps P ops Q S l (a.put d undef) w) : Steps P ops Q S ((true, i) :: l) a w := ⟨hS, _, undef, ho, .inr ⟨hw, rfl⟩, h⟩
end
set_option maxRecDepth 20000 in
set_option maxHeartbeats 16000000 in
theorem mayW (pa : List UInt8) (di : Bool) (da : List UInt8) (mo ti : Int) (w : World) (h2 : pa.length ≤ 2000) :
    Calls Tryz.prog 34 #[.agg #[.string (tx pa), .bool di, .string (tx da), .int .i64 mo, .int .i64 ti]] w fun e w' => e = .returned (.tuple #[.bool (rightF pa), .bool (decide (0 ≤ mo) && (decide (mo ≤ 511) && (decide (0 ≤ ti) && (decide (ti ≤ 4294967295) && (!di || decide (da = []))))))]) ∧ Only (fun _ => False) w w' := by
  have HR : Hid (∀ w1, Calls Tryz.prog 55 #[.string (tx pa)] w1 fun e w' => e = .returned (.bool (rightF pa)) ∧ Only (fun _ => False) w1 w') := Lib.hid fun w1 => rright pa w1 (by omega)
  obtain ⟨MR, hMR⟩ : ∃ MR, (decide (0 ≤ mo) && (decide (mo ≤ 511) && (decide (0 ≤ ti) && (decide (ti ≤ 4294967295) && (!di || decide (da = [])))))) = MR := ⟨_, rfl⟩
  have HM : Hid (MR = (decide (0 ≤ mo) && (decide (mo ≤ 511) && (decide (0 ≤ ti) && (decide (ti ≤ 4294967295) && (!di || decide (da = []))))))) := Lib.hid hMR.symm
  rw [hMR]
  clear hMR
  generalize rightF pa = MP at HR ⊢
  obtain ⟨X, hX⟩ : ∃ X, w.heap.size = X := ⟨_, rfl⟩
  obtain ⟨w0, hw0⟩ : ∃ w0, w.alloc (.cells #[.string (tx pa), .bool di, .string (tx da), .int .i64 mo, .int .i64 ti] 29) = w0 := ⟨_, rfl⟩
  have HI : Hid (Is w0 X 29 [.string (tx pa), .bool di, .string (tx da), .int .i64 mo, .int .i64 ti]) := Lib.hid (by
    rw [← hw0, ← hX]
    exact Is.new w _ _)
  have HFR : Hid (Only (fun _ => False) w w0) := Lib.hid (by
    rw [← hw0]
    exact (Only.refl _ w).alloc _)
  have x0 := HI.out.cell 0 rfl
  have x1 := HI.out.cell 1 rfl
  have x2 := HI.out.cell 2 rfl
  have x3 := HI.out.cell 3 rfl
  have x4 := HI.out.cell 4 rfl
  have td := tx_toList da
  by_cases c1 : 0 ≤ mo
  · have k1 : decide (0 ≤ mo) = true := decide_eq_true c1
    by_cases c2 : mo ≤ 511
    · have k2 : decide (mo ≤ 511) = true := decide_eq_true c2
      by_cases c3 : 0 ≤ ti
      · have k3 : decide (0 ≤ ti) = true := decide_eq_true c3
        by_cases c4 : ti ≤ 4294967295
        · have k4 : decide (ti ≤ 4294967295) = true := decide_eq_true c4
          cases di with
          | false =>
            have HB : Hid (decide (0 ≤ mo) = true ∧ decide (mo ≤ 511) = true ∧ decide (0 ≤ ti) = true ∧ decide (ti ≤ 4294967295) = true) := Lib.hid ⟨k1, k2, k3, k4⟩
            clear c1 c2 c3 c4
            go_enter Tryz.func34, Tryz.ntmps34
            go_upto_region 1 with fail
            refine Steps.region (fun W => W.cell? ⟨X, 0, none⟩ = some (.string (tx pa)) ∧ W.cell? ⟨X, 1, none⟩ = some (.bool false) ∧ W.cell? ⟨X, 2, none⟩ = some (.string (tx da)) ∧ W.cell? ⟨X, 3, none⟩ = some (.int .i64 mo) ∧ W.cell? ⟨X, 4, none⟩ = some (.int .i64 ti)) [(true, 0), (true, 1), (true, 3), (true, 4), (true, 5), (false, 2), (true, 6), (true, 7), (true, 8), (true, 9), (true, 10), (true, 11), (true, 12), (true, 13), (true, 14), (true, 15), (true, 16), (true, 17), (true, 18), (true, 19), (true, 20), (true, 21), (true, 22), (true, 23), (true, 24), (true, 25), (true, 26), (true, 27), (true, 28), (true, 29), (true, 30), (true, 31), (true, 32)] (by kernel_rfl) (by kernel_rfl) rfl (by kernel_rfl) (fun _ _ d _ _ h => by cases d <;> exact h) ?_
            have HSW : Hid (w0.drew.cell? ⟨X, 0, none⟩ = some (.string (tx pa)) ∧ w0.drew.cell? ⟨X, 1, none⟩ = some (.bool false) ∧ w0.drew.cell? ⟨X, 2, none⟩ = some (.string (tx da)) ∧ w0.drew.cell? ⟨X, 3, none⟩ = some (.int .i64 mo) ∧ w0.drew.cell? ⟨X, 4, none⟩ = some (.int .i64 ti)) := Lib.hid ⟨x0, x1, x2, x3, x4⟩
            refine Steps.wanted (.pointer (some ⟨X, 0, none⟩)) rfl (by rfl) HSW.out (fun W hW => by kernel_rfl) ?_
            simp only [Act.put, List.setIfInBounds_toArray, List.set_cons_succ, List.set_cons_zero]
            refine Steps.wanted (.string (tx pa)) rfl (by rfl) HSW.out (fun W hW => by have c := hW.1; go_simp) ?_
            simp only [Act.put, List.setIfInBounds_toArray, List.set_cons_succ, List.set_cons_zero]
            refine Steps.wanted (.pointer (some ⟨X, 3, none⟩)) rfl (by rfl) HSW.out (fun W hW => by kernel_rfl) ?_
            simp only [Act.put, List.setIfInBounds_toArray, List.set_cons_succ, List.set_cons_zero]
            refine Steps.wanted (.int .i64 mo) rfl (by rfl) HSW.out (fun W hW => by have c := hW.2.2.2.1; go_simp) ?_
            simp only [Act.put, List.setIfInBounds_toArray, List.set_cons_succ, List.set_cons_zero]
            refine Steps.wanted (.bool true) rfl (by rfl) HSW.out (fun W hW => by go_simp) ?_
            simp only [Act.put, List.setIfInBounds_toArray, List.set_cons_succ, List.set_cons_zero]
            refine Steps.call 55 #[.string (tx pa)] rfl (by kernel_rfl) ((HR.out _).mono ?_)
            rintro e w2 ⟨rfl, o2⟩
            have HO2 := Lib.hid (HFR.out.drew.trans o2)
            have HSW2 := Lib.hid (And.intro (only_cell HSW.out.1 o2) (And.intro (only_cell HSW.out.2.1 o2) (And.intro (only_cell HSW.out.2.2.1 o2) (And.intro (only_cell HSW.out.2.2.2.1 o2) (only_cell HSW.out.2.2.2.2 o2)))))
            clear HSW o2
            refine ⟨_, rfl, HSW2.out, ?_⟩
            simp only [Act.put, List.setIfInBounds_toArray, List.set_cons_succ, List.set_cons_zero]
            refine Steps.wanted (.bool true) rfl (by rfl) HSW2.out (fun W hW => by kernel_rfl) ?_
            simp only [Act.put, List.setIfInBounds_toArray, List.set_cons_succ, List.set_cons_zero]
            refine Steps.wanted (.pointer (some ⟨X, 3, none⟩)) rfl (by rfl) HSW2.out (fun W hW => by kernel_rfl) ?_
            simp only [Act.put, List.setIfInBounds_toArray, List.set_cons_succ, List.set_cons_zero]
            refine Steps.wanted (.int .i64 mo) rfl (by rfl) HSW2.out (fun W hW => by have c := hW.2.2.2.1; go_simp) ?_
            simp only [Act.put, List.setIfInBounds_toArray, List.set_cons_succ, List.set_cons_zero]
            refine Steps.wanted (.bool true) rfl (by rfl) HSW2.out (fun W hW => by go_simp) ?_
            simp only [Act.put, List.setIfInBounds_toArray, List.set_cons_succ, List.set_cons_zero]
            refine Steps.wanted (.bool true) rfl (by rfl) HSW2.out (fun W hW => by kernel_rfl) ?_
            simp only [Act.put, List.setIfInBounds_toArray, List.set_cons_succ, List.set_cons_zero]
            refine Steps.wanted (.bool true) rfl (by rfl) HSW2.out (fun W hW => by kernel_rfl) ?_
            simp only [Act.put, List.setIfInBounds_toArray, List.set_cons_succ, List.set_cons_zero]
            refine Steps.wanted (.pointer (some ⟨X, 4, none⟩)) rfl (by rfl) HSW2.out (fun W hW => by kernel_rfl) ?_
            simp only [Act.put, List.setIfInBounds_toArray, List.set_cons_succ, List.set_cons_zero]
            refine Steps.wanted (.int .i64 ti) rfl (by rfl) HSW2.out (fun W hW => by have c := hW.2.2.2.2; go_simp) ?_
            simp only [Act.put, List.setIfInBounds_toArray, List.set_cons_succ, List.set_cons_zero]
            refine Steps.wanted (.bool true) rfl (by rfl) HSW2.out (fun W hW => by go_simp) ?_
            simp only [Act.put, List.setIfInBounds_toArray, List.set_cons_succ, List.set_cons_zero]
            refine Steps.wanted (.bool true) rfl (by rfl) HSW2.out (fun W hW => by kernel_rfl) ?_
            simp only [Act.put, List.setIfInBounds_toArray, List.set_cons_succ, List.set_cons_zero]
            refine Steps.wanted (.bool true) rfl (by rfl) HSW2.out (fun W hW => by kernel_rfl) ?_
            simp only [Act.put, List.setIfInBounds_toArray, List.set_cons_succ, List.set_cons_zero]
            refine Steps.wanted (.pointer (some ⟨X, 4, none⟩)) rfl (by rfl) HSW2.out (fun W hW => by kernel_rfl) ?_
            simp only [Act.put, List.setIfInBounds_toArray, List.set_cons_succ, List.set_cons_zero]
            refine Steps.wanted (.int .i64 ti) rfl (by rfl) HSW2.out (fun W hW => by have c := hW.2.2.2.2; go_simp) ?_
            simp only [Act.put, List.setIfInBounds_toArray, List.set_cons_succ, List.set_cons_zero]
            refine Steps.wanted (.bool true) rfl (by rfl) HSW2.out (fun W hW => by go_simp) ?_
            simp only [Act.put, List.setIfInBounds_toArray, List.set_cons_succ, List.set_cons_zero]
            refine Steps.wanted (.bool true) rfl (by rfl) HSW2.out (fun W hW => by kernel_rfl) ?_
            simp only [Act.put, List.setIfInBounds_toArray, List.set_cons_succ, List.set_cons_zero]
            refine Steps.wanted (.bool true) rfl (by rfl) HSW2.out (fun W hW => by kernel_rfl) ?_
            simp only [Act.put, List.setIfInBounds_toArray, List.set_cons_succ, List.set_cons_zero]
            refine Steps.wanted (.pointer (some ⟨X, 1, none⟩)) rfl (by rfl) HSW2.out (fun W hW => by kernel_rfl) ?_
            simp only [Act.put, List.setIfInBounds_toArray, List.set_cons_succ, List.set_cons_zero]
            refine Steps.wanted (.bool false) rfl (by rfl) HSW2.out (fun W hW => by have c := hW.2.1; go_simp) ?_
            simp only [Act.put, List.setIfInBounds_toArray, List.set_cons_succ, List.set_cons_zero]
            refine Steps.wanted (.bool true) rfl (by rfl) HSW2.out (fun W hW => by kernel_rfl) ?_
            simp only [Act.put, List.setIfInBounds_toArray, List.set_cons_succ, List.set_cons_zero]
            refine Steps.wanted (.bool true) rfl (by rfl) HSW2.out (fun W hW => by kernel_rfl) ?_
            simp only [Act.put, List.setIfInBounds_toArray, List.set_cons_succ, List.set_cons_zero]
            refine Steps.unwanted rfl (by rfl) HSW2.out ?_
            simp only [Act.put, List.setIfInBounds_toArray, List.set_cons_succ, List.set_cons_zero]
            refine Steps.unwanted rfl (by rfl) HSW2.out ?_
            simp only [Act.put, List.setIfInBounds_toArray, List.set_cons_succ, List.set_cons_zero]
            refine Steps.unwanted rfl (by rfl) HSW2.out ?_
            simp only [Act.put, List.setIfInBounds_toArray, List.set_cons_succ, List.set_cons_zero]
            refine Steps.wanted (.bool true) rfl (by rfl) HSW2.out (fun W hW => by kernel_rfl) ?_
            simp only [Act.put, List.setIfInBounds_toArray, List.set_cons_succ, List.set_cons_zero]
            refine Steps.wanted (.bool true) rfl (by rfl) HSW2.out (fun W hW => by kernel_rfl) ?_
            simp only [Act.put, List.setIfInBounds_toArray, List.set_cons_succ, List.set_cons_zero]
            refine Steps.wanted (.bool MP) rfl (by rfl) HSW2.out (fun W hW => by kernel_rfl) ?_
            simp only [Act.put, List.setIfInBounds_toArray, List.set_cons_succ, List.set_cons_zero]
            refine Steps.wanted (.bool true) rfl (by rfl) HSW2.out (fun W hW => by kernel_rfl) ?_
            simp only [Act.put, List.setIfInBounds_toArray, List.set_cons_succ, List.set_cons_zero]
            show wpList _ _ _ _ _ _
            go_wp2
            go_ret2
            have HE : Hid (MR = true) := Lib.hid (by rw [HM.out]; simp [HB.out])
            rw [HE.out]
            exact ⟨rfl, HO2.out⟩
          | true =>
            by_cases c5 : da = []
            · have k5 : da.isEmpty = true := by rw [c5]; rfl
              have HB : Hid (decide (0 ≤ mo) = true ∧ decide (mo ≤ 511) = true ∧ decide (0 ≤ ti) = true ∧ decide (ti ≤ 4294967295) = true ∧ decide (da = []) = true) := Lib.hid ⟨k1, k2, k3, k4, decide_eq_true c5⟩
              clear c1 c2 c3 c4 c5
              go_enter Tryz.func34, Tryz.ntmps34
              go_upto_region 1 with fail
              refine Steps.region (fun W => W.cell? ⟨X, 0, none⟩ = some (.string (tx pa)) ∧ W.cell? ⟨X, 1, none⟩ = some (.bool true) ∧ W.cell? ⟨X, 2, none⟩ = some (.string (tx da)) ∧ W.cell? ⟨X, 3, none⟩ = some (.int .i64 mo) ∧ W.cell? ⟨X, 4, none⟩ = some (.int .i64 ti)) [(true, 0), (true, 1), (true, 3), (true, 4), (true, 5), (false, 2), (true, 6), (true, 7), (true, 8), (true, 9), (true, 10), (true, 11), (true, 12), (true, 13), (true, 14), (true, 15), (true, 16), (true, 17), (true, 18), (true, 19), (true, 20), (true, 21), (true, 22), (true, 23), (true, 24), (true, 25), (true, 26), (true, 27), (true, 28), (true, 29), (true, 30), (true, 31), (true, 32)] (by kernel_rfl) (by kernel_rfl) rfl (by kernel_rfl) (fun _ _ d _ _ h => by cases d <;> exact h) ?_
              have HSW : Hid (w0.drew.cell? ⟨X, 0, none⟩ = some (.string (tx pa)) ∧ w0.drew.cell? ⟨X, 1, none⟩ = some (.bool true) ∧ w0.drew.cell? ⟨X, 2, none⟩ = some (.string (tx da)) ∧ w0.drew.cell? ⟨X, 3, none⟩ = some (.int .i64 mo) ∧ w0.drew.cell? ⟨X, 4, none⟩ = some (.int .i64 ti)) := Lib.hid ⟨x0, x1, x2, x3, x4⟩
              refine Steps.wanted (.pointer (some ⟨X, 0, none⟩)) rfl (by rfl) HSW.out (fun W hW => by kernel_rfl) ?_
              simp only [Act.put, List.setIfInBounds_toArray, List.set_cons_succ, List.set_cons_zero]
              refine Steps.wanted (.string (tx pa)) rfl (by rfl) HSW.out (fun W hW => by have c := hW.1; go_simp) ?_
              simp only [Act.put, List.setIfInBounds_toArray, List.set_cons_succ, List.set_cons_zero]
              refine Steps.wanted (.pointer (some ⟨X, 3, none⟩)) rfl (by rfl) HSW.out (fun W hW => by kernel_rfl) ?_
              simp only [Act.put, List.setIfInBounds_toArray, List.set_cons_succ, List.set_cons_zero]
              refine Steps.wanted (.int .i64 mo) rfl (by rfl) HSW.out (fun W hW => by have c := hW.2.2.2.1; go_simp) ?_
              simp only [Act.put, List.setIfInBounds_toArray, List.set_cons_succ, List.set_cons_zero]
              refine Steps.wanted (.bool true) rfl (by rfl) HSW.out (fun W hW => by go_simp) ?_
              simp only [Act.put, List.setIfInBounds_toArray, List.set_cons_succ, List.set_cons_zero]
              refine Steps.call 55 #[.string (tx pa)] rfl (by kernel_rfl) ((HR.out _).mono ?_)
              rintro e w2 ⟨rfl, o2⟩
              have HO2 := Lib.hid (HFR.out.drew.trans o2)
              have HSW2 := Lib.hid (And.intro (only_cell HSW.out.1 o2) (And.intro (only_cell HSW.out.2.1 o2) (And.intro (only_cell HSW.out.2.2.1 o2) (And.intro (only_cell HSW.out.2.2.2.1 o2) (only_cell HSW.out.2.2.2.2 o2)))))
              clear HSW o2
              refine ⟨_, rfl, HSW2.out, ?_⟩
              simp only [Act.put, List.setIfInBounds_toArray, List.set_cons_succ, List.set_cons_zero]
              refine Steps.wanted (.bool true) rfl (by rfl) HSW2.out (fun W hW => by kernel_rfl) ?_
              simp only [Act.put, List.setIfInBounds_toArray, List.set_cons_succ, List.set_cons_zero]
              refine Steps.wanted (.pointer (some ⟨X, 3, none⟩)) rfl (by rfl) HSW2.out (fun W hW => by kernel_rfl) ?_
              simp only [Act.put, List.setIfInBounds_toArray, List.set_cons_succ, List.set_cons_zero]
              refine Steps.wanted (.int .i64 mo) rfl (by rfl) HSW2.out (fun W hW => by have c := hW.2.2.2.1; go_simp) ?_
              simp only [Act.put, List.setIfInBounds_toArray, List.set_cons_succ, List.set_cons_zero]
              refine Steps.wanted (.bool true) rfl (by rfl) HSW2.out (fun W hW => by go_simp) ?_
              simp only [Act.put, List.setIfInBounds_toArray, List.set_cons_succ, List.set_cons_zero]
              refine Steps.wanted (.bool true) rfl (by rfl) HSW2.out (fun W hW => by kernel_rfl) ?_
              simp only [Act.put, List.setIfInBounds_toArray, List.set_cons_succ, List.set_cons_zero]
              refine Steps.wanted (.bool true) rfl (by rfl) HSW2.out (fun W hW => by kernel_rfl) ?_
              simp only [Act.put, List.setIfInBounds_toArray, List.set_cons_succ, List.set_cons_zero]
              refine Steps.wanted (.pointer (some ⟨X, 4, none⟩)) rfl (by rfl) HSW2.out (fun W hW => by kernel_rfl) ?_
              simp only [Act.put, List.setIfInBounds_toArray, List.set_cons_succ, List.set_cons_zero]
              refine Steps.wanted (.int .i64 ti) rfl (by rfl) HSW2.out (fun W hW => by have c := hW.2.2.2.2; go_simp) ?_
              simp only [Act.put, List.setIfInBounds_toArray, List.set_cons_succ, List.set_cons_zero]
              refine Steps.wanted (.bool true) rfl (by rfl) HSW2.out (fun W hW => by go_simp) ?_
              simp only [Act.put, List.setIfInBounds_toArray, List.set_cons_succ, List.set_cons_zero]
              refine Steps.wanted (.bool true) rfl (by rfl) HSW2.out (fun W hW => by kernel_rfl) ?_
              simp only [Act.put, List.setIfInBounds_toArray, List.set_cons_succ, List.set_cons_zero]
              refine Steps.wanted (.bool true) rfl (by rfl) HSW2.out (fun W hW => by kernel_rfl) ?_
              simp only [Act.put, List.setIfInBounds_toArray, List.set_cons_succ, List.set_cons_zero]
              refine Steps.wanted (.pointer (some ⟨X, 4, none⟩)) rfl (by rfl) HSW2.out (fun W hW => by kernel_rfl) ?_
              simp only [Act.put, List.setIfInBounds_toArray, List.set_cons_succ, List.set_cons_zero]
              refine Steps.wanted (.int .i64 ti) rfl (by rfl) HSW2.out (fun W hW => by have c := hW.2.2.2.2; go_simp) ?_
              simp only [Act.put, List.setIfInBounds_toArray, List.set_cons_succ, List.set_cons_zero]
              refine Steps.wanted (.bool true) rfl (by rfl) HSW2.out (fun W hW => by go_simp) ?_
              simp only [Act.put, List.setIfInBounds_toArray, List.set_cons_succ, List.set_cons_zero]
              refine Steps.wanted (.bool true) rfl (by rfl) HSW2.out (fun W hW => by kernel_rfl) ?_
              simp only [Act.put, List.setIfInBounds_toArray, List.set_cons_succ, List.set_cons_zero]
              refine Steps.wanted (.bool true) rfl (by rfl) HSW2.out (fun W hW => by kernel_rfl) ?_
              simp only [Act.put, List.setIfInBounds_toArray, List.set_cons_succ, List.set_cons_zero]
              refine Steps.wanted (.pointer (some ⟨X, 1, none⟩)) rfl (by rfl) HSW2.out (fun W hW => by kernel_rfl) ?_
              simp only [Act.put, List.setIfInBounds_toArray, List.set_cons_succ, List.set_cons_zero]
              refine Steps.wanted (.bool true) rfl (by rfl) HSW2.out (fun W hW => by have c := hW.2.1; go_simp) ?_
              simp only [Act.put, List.setIfInBounds_toArray, List.set_cons_succ, List.set_cons_zero]
              refine Steps.wanted (.bool false) rfl (by rfl) HSW2.out (fun W hW => by kernel_rfl) ?_
              simp only [Act.put, List.setIfInBounds_toArray, List.set_cons_succ, List.set_cons_zero]
              refine Steps.wanted (.bool false) rfl (by rfl) HSW2.out (fun W hW => by kernel_rfl) ?_
              simp only [Act.put, List.setIfInBounds_toArray, List.set_cons_succ, List.set_cons_zero]
              refine Steps.wanted (.pointer (some ⟨X, 2, none⟩)) rfl (by rfl) HSW2.out (fun W hW => by kernel_rfl) ?_
              simp only [Act.put, List.setIfInBounds_toArray, List.set_cons_succ, List.set_cons_zero]
              refine Steps.wanted (.string (tx da)) rfl (by rfl) HSW2.out (fun W hW => by have c := hW.2.2.1; go_simp) ?_
              simp only [Act.put, List.setIfInBounds_toArray, List.set_cons_succ, List.set_cons_zero]
              refine Steps.wanted (.bool true) rfl (by rfl) HSW2.out (fun W hW => by go_simp) ?_
              simp only [Act.put, List.setIfInBounds_toArray, List.set_cons_succ, List.set_cons_zero]
              refine Steps.wanted (.bool true) rfl (by rfl) HSW2.out (fun W hW => by kernel_rfl) ?_
              simp only [Act.put, List.setIfInBounds_toArray, List.set_cons_succ, List.set_cons_zero]
              refine Steps.wanted (.bool true) rfl (by rfl) HSW2.out (fun W hW => by kernel_rfl) ?_
              simp only [Act.put, List.setIfInBounds_toArray, List.set_cons_succ, List.set_cons_zero]
              refine Steps.wanted (.bool MP) rfl (by rfl) HSW2.out (fun W hW => by kernel_rfl) ?_
              simp only [Act.put, List.setIfInBounds_toArray, List.set_cons_succ, List.set_cons_zero]
              refine Steps.wanted (.bool true) rfl (by rfl) HSW2.out (fun W hW => by kernel_rfl) ?_
              simp only [Act.put, List.setIfInBounds_toArray, List.set_cons_succ, List.set_cons_zero]
              show wpList _ _ _ _ _ _
              go_wp2
              go_ret2
              have HE : Hid (MR = true) := Lib.hid (by rw [HM.out]; simp [HB.out])
              rw [HE.out]
              exact ⟨rfl, HO2.out⟩
            · have k5 : da.isEmpty = false := by rw [List.isEmpty_eq_false_iff]; exact c5
              have HB : Hid (decide (0 ≤ mo) = true ∧ decide (mo ≤ 511) = true ∧ decide (0 ≤ ti) = true ∧ decide (ti ≤ 4294967295) = true ∧ decide (da = []) = false) := Lib.hid ⟨k1, k2, k3, k4, decide_eq_false c5⟩
              clear c1 c2 c3 c4 c5
              go_enter Tryz.func34, Tryz.ntmps34
              go_upto_region 1 with fail
              refine Steps.region (fun W => W.cell? ⟨X, 0, none⟩ = some (.string (tx pa)) ∧ W.cell? ⟨X, 1, none⟩ = some (.bool true) ∧ W.cell? ⟨X, 2, none⟩ = some (.string (tx da)) ∧ W.cell? ⟨X, 3, none⟩ = some (.int .i64 mo) ∧ W.cell? ⟨X, 4, none⟩ = some (.int .i64 ti)) [(true, 0), (true, 1), (true, 3), (true, 4), (true, 5), (false, 2), (true, 6), (true, 7), (true, 8), (true, 9), (true, 10), (true, 11), (true, 12), (true, 13), (true, 14), (true, 15), (true, 16), (true, 17), (true, 18), (true, 19), (true, 20), (true, 21), (true, 22), (true, 23), (true, 24), (true, 25), (true, 26), (true, 27), (true, 28), (true, 29), (true, 30), (true, 31), (true, 32)] (by kernel_rfl) (by kernel_rfl) rfl (by kernel_rfl) (fun _ _ d _ _ h => by cases d <;> exact h) ?_
              have HSW : Hid (w0.drew.cell? ⟨X, 0, none⟩ = some (.string (tx pa)) ∧ w0.drew.cell? ⟨X, 1, none⟩ = some (.bool true) ∧ w0.drew.cell? ⟨X, 2, none⟩ = some (.string (tx da)) ∧ w0.drew.cell? ⟨X, 3, none⟩ = some (.int .i64 mo) ∧ w0.drew.cell? ⟨X, 4, none⟩ = some (.int .i64 ti)) := Lib.hid ⟨x0, x1, x2, x3, x4⟩
              refine Steps.wanted (.pointer (some ⟨X, 0, none⟩)) rfl (by rfl) HSW.out (fun W hW => by kernel_rfl) ?_
              simp only [Act.put, List.setIfInBounds_toArray, List.set_cons_succ, List.set_cons_zero]
              refine Steps.wanted (.string (tx pa)) rfl (by rfl) HSW.out (fun W hW => by have c := hW.1; go_simp) ?_
              simp only [Act.put, List.setIfInBounds_toArray, List.set_cons_succ, List.set_cons_zero]
              refine Steps.wanted (.pointer (some ⟨X, 3, none⟩)) rfl (by rfl) HSW.out (fun W hW => by kernel_rfl) ?_
              simp only [Act.put, List.setIfInBounds_toArray, List.set_cons_succ, List.set_cons_zero]
              refine Steps.wanted (.int .i64 mo) rfl (by rfl) HSW.out (fun W hW => by have c := hW.2.2.2.1; go_simp) ?_
              simp only [Act.put, List.setIfInBounds_toArray, List.set_cons_succ, List.set_cons_zero]
              refine Steps.wanted (.bool true) rfl (by rfl) HSW.out (fun W hW => by go_simp) ?_
              simp only [Act.put, List.setIfInBounds_toArray, List.set_cons_succ, List.set_cons_zero]
              refine Steps.call 55 #[.string (tx pa)] rfl (by kernel_rfl) ((HR.out _).mono ?_)
              rintro e w2 ⟨rfl, o2⟩
              have HO2 := Lib.hid (HFR.out.drew.trans o2)
              have HSW2 := Lib.hid (And.intro (only_cell HSW.out.1 o2) (And.intro (only_cell HSW.out.2.1 o2) (And.intro (only_cell HSW.out.2.2.1 o2) (And.intro (only_cell HSW.out.2.2.2.1 o2) (only_cell HSW.out.2.2.2.2 o2)))))
              clear HSW o2
              refine ⟨_, rfl, HSW2.out, ?_⟩
              simp only [Act.put, List.setIfInBounds_toArray, List.set_cons_succ, List.set_cons_zero]
              refine Steps.wanted (.bool true) rfl (by rfl) HSW2.out (fun W hW => by kernel_rfl) ?_
              simp only [Act.put, List.setIfInBounds_toArray, List.set_cons_succ, List.set_cons_zero]
              refine Steps.wanted (.pointer (some ⟨X, 3, none⟩)) rfl (by rfl) HSW2.out (fun W hW => by kernel_rfl) ?_
              simp only [Act.put, List.setIfInBounds_toArray, List.set_cons_succ, List.set_cons_zero]
              refine Steps.wanted (.int .i64 mo) rfl (by rfl) HSW2.out (fun W hW => by have c := hW.2.2.2.1; go_simp) ?_
              simp only [Act.put, List.setIfInBounds_toArray, List.set_cons_succ, List.set_cons_zero]
              refine Steps.wanted (.bool true) rfl (by rfl) HSW2.out (fun W hW => by go_simp) ?_
              simp only [Act.put, List.setIfInBounds_toArray, List.set_cons_succ, List.set_cons_zero]
              refine Steps.wanted (.bool true) rfl (by rfl) HSW2.out (fun W hW => by kernel_rfl) ?_
              simp only [Act.put, List.setIfInBounds_toArray, List.set_cons_succ, List.set_cons_zero]
              refine Steps.wanted (.bool true) rfl (by rfl) HSW2.out (fun W hW => by kernel_rfl) ?_
              simp only [Act.put, List.setIfInBounds_toArray, List.set_cons_succ, List.set_cons_zero]
              refine Steps.wanted (.pointer (some ⟨X, 4, none⟩)) rfl (by rfl) HSW2.out (fun W hW => by kernel_rfl) ?_
              simp only [Act.put, List.setIfInBounds_toArray, List.set_cons_succ, List.set_cons_zero]
              refine Steps.wanted (.int .i64 ti) rfl (by rfl) HSW2.out (fun W hW => by have c := hW.2.2.2.2; go_simp) ?_
              simp only [Act.put, List.setIfInBounds_toArray, List.set_cons_succ, List.set_cons_zero]
              refine Steps.wanted (.bool true) rfl (by rfl) HSW2.out (fun W hW => by go_simp) ?_
              simp only [Act.put, List.setIfInBounds_toArray, List.set_cons_succ, List.set_cons_zero]
              refine Steps.wanted (.bool true) rfl (by rfl) HSW2.out (fun W hW => by kernel_rfl) ?_
              simp only [Act.put, List.setIfInBounds_toArray, List.set_cons_succ, List.set_cons_zero]
              refine Steps.wanted (.bool true) rfl (by rfl) HSW2.out (fun W hW => by kernel_rfl) ?_
              simp only [Act.put, List.setIfInBounds_toArray, List.set_cons_succ, List.set_cons_zero]
              refine Steps.wanted (.pointer (some ⟨X, 4, none⟩)) rfl (by rfl) HSW2.out (fun W hW => by kernel_rfl) ?_
              simp only [Act.put, List.setIfInBounds_toArray, List.set_cons_succ, List.set_cons_zero]
              refine Steps.wanted (.int .i64 ti) rfl (by rfl) HSW2.out (fun W hW => by have c := hW.2.2.2.2; go_simp) ?_
              simp only [Act.put, List.setIfInBounds_toArray, List.set_cons_succ, List.set_cons_zero]
              refine Steps.wanted (.bool true) rfl (by rfl) HSW2.out (fun W hW => by go_simp) ?_
              simp only [Act.put, List.setIfInBounds_toArray, List.set_cons_succ, List.set_cons_zero]
              refine Steps.wanted (.bool true) rfl (by rfl) HSW2.out (fun W hW => by kernel_rfl) ?_
              simp only [Act.put, List.setIfInBounds_toArray, List.set_cons_succ, List.set_cons_zero]
              refine Steps.wanted (.bool true) rfl (by rfl) HSW2.out (fun W hW => by kernel_rfl) ?_
              simp only [Act.put, List.setIfInBounds_toArray, List.set_cons_succ, List.set_cons_zero]
              refine Steps.wanted (.pointer (some ⟨X, 1, none⟩)) rfl (by rfl) HSW2.out (fun W hW => by kernel_rfl) ?_
              simp only [Act.put, List.setIfInBounds_toArray, List.set_cons_succ, List.set_cons_zero]
              refine Steps.wanted (.bool true) rfl (by rfl) HSW2.out (fun W hW => by have c := hW.2.1; go_simp) ?_
              simp only [Act.put, List.setIfInBounds_toArray, List.set_cons_succ, List.set_cons_zero]
              refine Steps.wanted (.bool false) rfl (by rfl) HSW2.out (fun W hW => by kernel_rfl) ?_
              simp only [Act.put, List.setIfInBounds_toArray, List.set_cons_succ, List.set_cons_zero]
              refine Steps.wanted (.bool false) rfl (by rfl) HSW2.out (fun W hW => by kernel_rfl) ?_
              simp only [Act.put, List.setIfInBounds_toArray, List.set_cons_succ, List.set_cons_zero]
              refine Steps.wanted (.pointer (some ⟨X, 2, none⟩)) rfl (by rfl) HSW2.out (fun W hW => by kernel_rfl) ?_
              simp only [Act.put, List.setIfInBounds_toArray, List.set_cons_succ, List.set_cons_zero]
              refine Steps.wanted (.string (tx da)) rfl (by rfl) HSW2.out (fun W hW => by have c := hW.2.2.1; go_simp) ?_
              simp only [Act.put, List.setIfInBounds_toArray, List.set_cons_succ, List.set_cons_zero]
              refine Steps.wanted (.bool false) rfl (by rfl) HSW2.out (fun W hW => by go_simp) ?_
              simp only [Act.put, List.setIfInBounds_toArray, List.set_cons_succ, List.set_cons_zero]
              refine Steps.wanted (.bool false) rfl (by rfl) HSW2.out (fun W hW => by kernel_rfl) ?_
              simp only [Act.put, List.setIfInBounds_toArray, List.set_cons_succ, List.set_cons_zero]
              refine Steps.wanted (.bool false) rfl (by rfl) HSW2.out (fun W hW => by kernel_rfl) ?_
              simp only [Act.put, List.setIfInBounds_toArray, List.set_cons_succ, List.set_cons_zero]
              refine Steps.wanted (.bool MP) rfl (by rfl) HSW2.out (fun W hW => by kernel_rfl) ?_
              simp only [Act.put, List.setIfInBounds_toArray, List.set_cons_succ, List.set_cons_zero]
              refine Steps.wanted (.bool false) rfl (by rfl) HSW2.out (fun W hW => by kernel_rfl) ?_
              simp only [Act.put, List.setIfInBounds_toArray, List.set_cons_succ, List.set_cons_zero]
              show wpList _ _ _ _ _ _
              go_wp2
              go_ret2
              have HE : Hid (MR = false) := Lib.hid (by rw [HM.out]; simp [HB.out])
              rw [HE.out]
              exact ⟨rfl, HO2.out⟩
        · have k4 : decide (ti ≤ 4294967295) = false := decide_eq_false c4
          have HB : Hid (decide (ti ≤ 4294967295) = false) := Lib.hid k4
          clear c1 c2 c3 c4
          go_enter Tryz.func34, Tryz.ntmps34
          go_upto_region 1 with fail
          refine Steps.region (fun W => W.cell? ⟨X, 0, none⟩ = some (.string (tx pa)) ∧ W.cell? ⟨X, 1, none⟩ = some (.bool di) ∧ W.cell? ⟨X, 2, none⟩ = some (.string (tx da)) ∧ W.cell? ⟨X, 3, none⟩ = some (.int .i64 mo) ∧ W.cell? ⟨X, 4, none⟩ = some (.int .i64 ti)) [(true, 0), (true, 1), (true, 3), (true, 4), (true, 5), (false, 2), (true, 6), (true, 7), (true, 8), (true, 9), (true, 10), (true, 11), (true, 12), (true, 13), (true, 14), (true, 15), (true, 16), (true, 17), (true, 18), (true, 19), (true, 20), (true, 21), (true, 22), (true, 23), (true, 24), (true, 25), (true, 26), (true, 27), (true, 28), (true, 29), (true, 30), (true, 31), (true, 32)] (by kernel_rfl) (by kernel_rfl) rfl (by kernel_rfl) (fun _ _ d _ _ h => by cases d <;> exact h) ?_
          have HSW : Hid (w0.drew.cell? ⟨X, 0, none⟩ = some (.string (tx pa)) ∧ w0.drew.cell? ⟨X, 1, none⟩ = some (.bool di) ∧ w0.drew.cell? ⟨X, 2, none⟩ = some (.string (tx da)) ∧ w0.drew.cell? ⟨X, 3, none⟩ = some (.int .i64 mo) ∧ w0.drew.cell? ⟨X, 4, none⟩ = some (.int .i64 ti)) := Lib.hid ⟨x0, x1, x2, x3, x4⟩
          refine Steps.wanted (.pointer (some ⟨X, 0, none⟩)) rfl (by rfl) HSW.out (fun W hW => by kernel_rfl) ?_
          simp only [Act.put, List.setIfInBounds_toArray, List.set_cons_succ, List.set_cons_zero]
          refine Steps.wanted (.string (tx pa)) rfl (by rfl) HSW.out (fun W hW => by have c := hW.1; go_simp) ?_
          simp only [Act.put, List.setIfInBounds_toArray, List.set_cons_succ, List.set_cons_zero]
          refine Steps.wanted (.pointer (some ⟨X, 3, none⟩)) rfl (by rfl) HSW.out (fun W hW => by kernel_rfl) ?_
          simp only [Act.put, List.setIfInBounds_toArray, List.set_cons_succ, List.set_cons_zero]
          refine Steps.wanted (.int .i64 mo) rfl (by rfl) HSW.out (fun W hW => by have c := hW.2.2.2.1; go_simp) ?_
          simp only [Act.put, List.setIfInBounds_toArray, List.set_cons_succ, List.set_cons_zero]
          refine Steps.wanted (.bool true) rfl (by rfl) HSW.out (fun W hW => by go_simp) ?_
          simp only [Act.put, List.setIfInBounds_toArray, List.set_cons_succ, List.set_cons_zero]
          refine Steps.call 55 #[.string (tx pa)] rfl (by kernel_rfl) ((HR.out _).mono ?_)
          rintro e w2 ⟨rfl, o2⟩
          have HO2 := Lib.hid (HFR.out.drew.trans o2)
          have HSW2 := Lib.hid (And.intro (only_cell HSW.out.1 o2) (And.intro (only_cell HSW.out.2.1 o2) (And.intro (only_cell HSW.out.2.2.1 o2) (And.intro (only_cell HSW.out.2.2.2.1 o2) (only_cell HSW.out.2.2.2.2 o2)))))
          clear HSW o2
          refine ⟨_, rfl, HSW2.out, ?_⟩
          simp only [Act.put, List.setIfInBounds_toArray, List.set_cons_succ, List.set_cons_zero]
          refine Steps.wanted (.bool true) rfl (by rfl) HSW2.out (fun W hW => by kernel_rfl) ?_
          simp only [Act.put, List.setIfInBounds_toArray, List.set_cons_succ, List.set_cons_zero]
          refine Steps.wanted (.pointer (some ⟨X, 3, none⟩)) rfl (by rfl) HSW2.out (fun W hW => by kernel_rfl) ?_
          simp only [Act.put, List.setIfInBounds_toArray, List.set_cons_succ, List.set_cons_zero]
          refine Steps.wanted (.int .i64 mo) rfl (by rfl) HSW2.out (fun W hW => by have c := hW.2.2.2.1; go_simp) ?_
          simp only [Act.put, List.setIfInBounds_toArray, List.set_cons_succ, List.set_cons_zero]
          refine Steps.wanted (.bool true) rfl (by rfl) HSW2.out (fun W hW => by go_simp) ?_
          simp only [Act.put, List.setIfInBounds_toArray, List.set_cons_succ, List.set_cons_zero]
          refine Steps.wanted (.bool true) rfl (by rfl) HSW2.out (fun W hW => by kernel_rfl) ?_
          simp only [Act.put, List.setIfInBounds_toArray, List.set_cons_succ, List.set_cons_zero]
          refine Steps.wanted (.bool true) rfl (by rfl) HSW2.out (fun W hW => by kernel_rfl) ?_
          simp only [Act.put, List.setIfInBounds_toArray, List.set_cons_succ, List.set_cons_zero]
          refine Steps.wanted (.pointer (some ⟨X, 4, none⟩)) rfl (by rfl) HSW2.out (fun W hW => by kernel_rfl) ?_
          simp only [Act.put, List.setIfInBounds_toArray, List.set_cons_succ, List.set_cons_zero]
          refine Steps.wanted (.int .i64 ti) rfl (by rfl) HSW2.out (fun W hW => by have c := hW.2.2.2.2; go_simp) ?_
          simp only [Act.put, List.setIfInBounds_toArray, List.set_cons_succ, List.set_cons_zero]
          refine Steps.wanted (.bool true) rfl (by rfl) HSW2.out (fun W hW => by go_simp) ?_
          simp only [Act.put, List.setIfInBounds_toArray, List.set_cons_succ, List.set_cons_zero]
          refine Steps.wanted (.bool true) rfl (by rfl) HSW2.out (fun W hW => by kernel_rfl) ?_
          simp only [Act.put, List.setIfInBounds_toArray, List.set_cons_succ, List.set_cons_zero]
          refine Steps.wanted (.bool true) rfl (by rfl) HSW2.out (fun W hW => by kernel_rfl) ?_
          simp only [Act.put, List.setIfInBounds_toArray, List.set_cons_succ, List.set_cons_zero]
          refine Steps.wanted (.pointer (some ⟨X, 4, none⟩)) rfl (by rfl) HSW2.out (fun W hW => by kernel_rfl) ?_
          simp only [Act.put, List.setIfInBounds_toArray, List.set_cons_succ, List.set_cons_zero]
          refine Steps.wanted (.int .i64 ti) rfl (by rfl) HSW2.out (fun W hW => by have c := hW.2.2.2.2; go_simp) ?_
          simp only [Act.put, List.setIfInBounds_toArray, List.set_cons_succ, List.set_cons_zero]
          refine Steps.wanted (.bool false) rfl (by rfl) HSW2.out (fun W hW => by go_simp) ?_
          simp only [Act.put, List.setIfInBounds_toArray, List.set_cons_succ, List.set_cons_zero]
          refine Steps.wanted (.bool false) rfl (by rfl) HSW2.out (fun W hW => by kernel_rfl) ?_
          simp only [Act.put, List.setIfInBounds_toArray, List.set_cons_succ, List.set_cons_zero]
          refine Steps.wanted (.bool false) rfl (by rfl) HSW2.out (fun W hW => by kernel_rfl) ?_
          simp only [Act.put, List.setIfInBounds_toArray, List.set_cons_succ, List.set_cons_zero]
          refine Steps.unwanted rfl (by rfl) HSW2.out ?_
          simp only [Act.put, List.setIfInBounds_toArray, List.set_cons_succ, List.set_cons_zero]
          refine Steps.unwanted rfl (by rfl) HSW2.out ?_
          simp only [Act.put, List.setIfInBounds_toArray, List.set_cons_succ, List.set_cons_zero]
          refine Steps.unwanted rfl (by rfl) HSW2.out ?_
          simp only [Act.put, List.setIfInBounds_toArray, List.set_cons_succ, List.set_cons_zero]
          refine Steps.unwanted rfl (by rfl) HSW2.out ?_
          simp only [Act.put, List.setIfInBounds_toArray, List.set_cons_succ, List.set_cons_zero]
          refine Steps.unwanted rfl (by rfl) HSW2.out ?_
          simp only [Act.put, List.setIfInBounds_toArray, List.set_cons_succ, List.set_cons_zero]
          refine Steps.unwanted rfl (by rfl) HSW2.out ?_
          simp only [Act.put, List.setIfInBounds_toArray, List.set_cons_succ, List.set_cons_zero]
          refine Steps.unwanted rfl (by rfl) HSW2.out ?_
          simp only [Act.put, List.setIfInBounds_toArray, List.set_cons_succ, List.set_cons_zero]
          refine Steps.unwanted rfl (by rfl) HSW2.out ?_
          simp only [Act.put, List.setIfInBounds_toArray, List.set_cons_succ, List.set_cons_zero]
          refine Steps.wanted (.bool false) rfl (by rfl) HSW2.out (fun W hW => by kernel_rfl) ?_
          simp only [Act.put, List.setIfInBounds_toArray, List.set_cons_succ, List.set_cons_zero]
          refine Steps.wanted (.bool MP) rfl (by rfl) HSW2.out (fun W hW => by kernel_rfl) ?_
          simp only [Act.put, List.setIfInBounds_toArray, List.set_cons_succ, List.set_cons_zero]
          refine Steps.wanted (.bool false) rfl (by rfl) HSW2.out (fun W hW => by kernel_rfl) ?_
          simp only [Act.put, List.setIfInBounds_toArray, List.set_cons_succ, List.set_cons_zero]
          show wpList _ _ _ _ _ _
          go_wp2
          go_ret2
          have HE : Hid (MR = false) := Lib.hid (by rw [HM.out]; simp [HB.out])
          rw [HE.out]
          exact ⟨rfl, HO2.out⟩
      · have k3 : decide (0 ≤ ti) = false := decide_eq_false c3
        have HB : Hid (decide (0 ≤ ti) = false) := Lib.hid k3
        clear c1 c2 c3
        go_enter Tryz.func34, Tryz.ntmps34
        go_upto_region 1 with fail
        refine Steps.region (fun W => W.cell? ⟨X, 0, none⟩ = some (.string (tx pa)) ∧ W.cell? ⟨X, 1, none⟩ = some (.bool di) ∧ W.cell? ⟨X, 2, none⟩ = some (.string (tx da)) ∧ W.cell? ⟨X, 3, none⟩ = some (.int .i64 mo) ∧ W.cell? ⟨X, 4, none⟩ = some (.int .i64 ti)) [(true, 0), (true, 1), (true, 3), (true, 4), (true, 5), (false, 2), (true, 6), (true, 7), (true, 8), (true, 9), (true, 10), (true, 11), (true, 12), (true, 13), (true, 14), (true, 15), (true, 16), (true, 17), (true, 18), (true, 19), (true, 20), (true, 21), (true, 22), (true, 23), (true, 24), (true, 25), (true, 26), (true, 27), (true, 28), (true, 29), (true, 30), (true, 31), (true, 32)] (by kernel_rfl) (by kernel_rfl) rfl (by kernel_rfl) (fun _ _ d _ _ h => by cases d <;> exact h) ?_
        have HSW : Hid (w0.drew.cell? ⟨X, 0, none⟩ = some (.string (tx pa)) ∧ w0.drew.cell? ⟨X, 1, none⟩ = some (.bool di) ∧ w0.drew.cell? ⟨X, 2, none⟩ = some (.string (tx da)) ∧ w0.drew.cell? ⟨X, 3, none⟩ = some (.int .i64 mo) ∧ w0.drew.cell? ⟨X, 4, none⟩ = some (.int .i64 ti)) := Lib.hid ⟨x0, x1, x2, x3, x4⟩
        refine Steps.wanted (.pointer (some ⟨X, 0, none⟩)) rfl (by rfl) HSW.out (fun W hW => by kernel_rfl) ?_
        simp only [Act.put, List.setIfInBounds_toArray, List.set_cons_succ, List.set_cons_zero]
        refine Steps.wanted (.string (tx pa)) rfl (by rfl) HSW.out (fun W hW => by have c := hW.1; go_simp) ?_
        simp only [Act.put, List.setIfInBounds_toArray, List.set_cons_succ, List.set_cons_zero]
        refine Steps.wanted (.pointer (some ⟨X, 3, none⟩)) rfl (by rfl) HSW.out (fun W hW => by kernel_rfl) ?_
        simp only [Act.put, List.setIfInBounds_toArray, List.set_cons_succ, List.set_cons_zero]
        refine Steps.wanted (.int .i64 mo) rfl (by rfl) HSW.out (fun W hW => by have c := hW.2.2.2.1; go_simp) ?_
        simp only [Act.put, List.setIfInBounds_toArray, List.set_cons_succ, List.set_cons_zero]
        refine Steps.wanted (.bool true) rfl (by rfl) HSW.out (fun W hW => by go_simp) ?_
        simp only [Act.put, List.setIfInBounds_toArray, List.set_cons_succ, List.set_cons_zero]
        refine Steps.call 55 #[.string (tx pa)] rfl (by kernel_rfl) ((HR.out _).mono ?_)
        rintro e w2 ⟨rfl, o2⟩
        have HO2 := Lib.hid (HFR.out.drew.trans o2)
        have HSW2 := Lib.hid (And.intro (only_cell HSW.out.1 o2) (And.intro (only_cell HSW.out.2.1 o2) (And.intro (only_cell HSW.out.2.2.1 o2) (And.intro (only_cell HSW.out.2.2.2.1 o2) (only_cell HSW.out.2.2.2.2 o2)))))
        clear HSW o2
        refine ⟨_, rfl, HSW2.out, ?_⟩
        simp only [Act.put, List.setIfInBounds_toArray, List.set_cons_succ, List.set_cons_zero]
        refine Steps.wanted (.bool true) rfl (by rfl) HSW2.out (fun W hW => by kernel_rfl) ?_
        simp only [Act.put, List.setIfInBounds_toArray, List.set_cons_succ, List.set_cons_zero]
        refine Steps.wanted (.pointer (some ⟨X, 3, none⟩)) rfl (by rfl) HSW2.out (fun W hW => by kernel_rfl) ?_
        simp only [Act.put, List.setIfInBounds_toArray, List.set_cons_succ, List.set_cons_zero]
        refine Steps.wanted (.int .i64 mo) rfl (by rfl) HSW2.out (fun W hW => by have c := hW.2.2.2.1; go_simp) ?_
        simp only [Act.put, List.setIfInBounds_toArray, List.set_cons_succ, List.set_cons_zero]
        refine Steps.wanted (.bool true) rfl (by rfl) HSW2.out (fun W hW => by go_simp) ?_
        simp only [Act.put, List.setIfInBounds_toArray, List.set_cons_succ, List.set_cons_zero]
        refine Steps.wanted (.bool true) rfl (by rfl) HSW2.out (fun W hW => by kernel_rfl) ?_
        simp only [Act.put, List.setIfInBounds_toArray, List.set_cons_succ, List.set_cons_zero]
        refine Steps.wanted (.bool true) rfl (by rfl) HSW2.out (fun W hW => by kernel_rfl) ?_
        simp only [Act.put, List.setIfInBounds_toArray, List.set_cons_succ, List.set_cons_zero]
        refine Steps.wanted (.pointer (some ⟨X, 4, none⟩)) rfl (by rfl) HSW2.out (fun W hW => by kernel_rfl) ?_
        simp only [Act.put, List.setIfInBounds_toArray, List.set_cons_succ, List.set_cons_zero]
        refine Steps.wanted (.int .i64 ti) rfl (by rfl) HSW2.out (fun W hW => by have c := hW.2.2.2.2; go_simp) ?_
        simp only [Act.put, List.setIfInBounds_toArray, List.set_cons_succ, List.set_cons_zero]
        refine Steps.wanted (.bool false) rfl (by rfl) HSW2.out (fun W hW => by go_simp) ?_
        simp only [Act.put, List.setIfInBounds_toArray, List.set_cons_succ, List.set_cons_zero]
        refine Steps.wanted (.bool false) rfl (by rfl) HSW2.out (fun W hW => by kernel_rfl) ?_
        simp only [Act.put, List.setIfInBounds_toArray, List.set_cons_succ, List.set_cons_zero]
        refine Steps.wanted (.bool false) rfl (by rfl) HSW2.out (fun W hW => by kernel_rfl) ?_
        simp only [Act.put, List.setIfInBounds_toArray, List.set_cons_succ, List.set_cons_zero]
        refine Steps.unwanted rfl (by rfl) HSW2.out ?_
        simp only [Act.put, List.setIfInBounds_toArray, List.set_cons_succ, List.set_cons_zero]
        refine Steps.unwanted rfl (by rfl) HSW2.out ?_
        simp only [Act.put, List.setIfInBounds_toArray, List.set_cons_succ, List.set_cons_zero]
        refine Steps.unwanted rfl (by rfl) HSW2.out ?_
        simp only [Act.put, List.setIfInBounds_toArray, List.set_cons_succ, List.set_cons_zero]
        refine Steps.wanted (.bool false) rfl (by rfl) HSW2.out (fun W hW => by kernel_rfl) ?_
        simp only [Act.put, List.setIfInBounds_toArray, List.set_cons_succ, List.set_cons_zero]
        refine Steps.wanted (.bool false) rfl (by rfl) HSW2.out (fun W hW => by kernel_rfl) ?_
        simp only [Act.put, List.setIfInBounds_toArray, List.set_cons_succ, List.set_cons_zero]
        refine Steps.unwanted rfl (by rfl) HSW2.out ?_
        simp only [Act.put, List.setIfInBounds_toArray, List.set_cons_succ, List.set_cons_zero]
        refine Steps.unwanted rfl (by rfl) HSW2.out ?_
        simp only [Act.put, List.setIfInBounds_toArray, List.set_cons_succ, List.set_cons_zero]
        refine Steps.unwanted rfl (by rfl) HSW2.out ?_
        simp only [Act.put, List.setIfInBounds_toArray, List.set_cons_succ, List.set_cons_zero]
        refine Steps.unwanted rfl (by rfl) HSW2.out ?_
        simp only [Act.put, List.setIfInBounds_toArray, List.set_cons_succ, List.set_cons_zero]
        refine Steps.unwanted rfl (by rfl) HSW2.out ?_
        simp only [Act.put, List.setIfInBounds_toArray, List.set_cons_succ, List.set_cons_zero]
        refine Steps.unwanted rfl (by rfl) HSW2.out ?_
        simp only [Act.put, List.setIfInBounds_toArray, List.set_cons_succ, List.set_cons_zero]
        refine Steps.unwanted rfl (by rfl) HSW2.out ?_
        simp only [Act.put, List.setIfInBounds_toArray, List.set_cons_succ, List.set_cons_zero]
        refine Steps.unwanted rfl (by rfl) HSW2.out ?_
        simp only [Act.put, List.setIfInBounds_toArray, List.set_cons_succ, List.set_cons_zero]
        refine Steps.wanted (.bool false) rfl (by rfl) HSW2.out (fun W hW => by kernel_rfl) ?_
        simp only [Act.put, List.setIfInBounds_toArray, List.set_cons_succ, List.set_cons_zero]
        refine Steps.wanted (.bool MP) rfl (by rfl) HSW2.out (fun W hW => by kernel_rfl) ?_
        simp only [Act.put, List.setIfInBounds_toArray, List.set_cons_succ, List.set_cons_zero]
        refine Steps.wanted (.bool false) rfl (by rfl) HSW2.out (fun W hW => by kernel_rfl) ?_
        simp only [Act.put, List.setIfInBounds_toArray, List.set_cons_succ, List.set_cons_zero]
        show wpList _ _ _ _ _ _
        go_wp2
        go_ret2
        have HE : Hid (MR = false) := Lib.hid (by rw [HM.out]; simp [HB.out])
        rw [HE.out]
        exact ⟨rfl, HO2.out⟩
    · have k2 : decide (mo ≤ 511) = false := decide_eq_false c2
      have HB : Hid (decide (mo ≤ 511) = false) := Lib.hid k2
      clear c1 c2
      go_enter Tryz.func34, Tryz.ntmps34
      go_upto_region 1 with fail
      refine Steps.region (fun W => W.cell? ⟨X, 0, none⟩ = some (.string (tx pa)) ∧ W.cell? ⟨X, 1, none⟩ = some (.bool di) ∧ W.cell? ⟨X, 2, none⟩ = some (.string (tx da)) ∧ W.cell? ⟨X, 3, none⟩ = some (.int .i64 mo) ∧ W.cell? ⟨X, 4, none⟩ = some (.int .i64 ti)) [(true, 0), (true, 1), (true, 3), (true, 4), (true, 5), (false, 2), (true, 6), (true, 7), (true, 8), (true, 9), (true, 10), (true, 11), (true, 12), (true, 13), (true, 14), (true, 15), (true, 16), (true, 17), (true, 18), (true, 19), (true, 20), (true, 21), (true, 22), (true, 23), (true, 24), (true, 25), (true, 26), (true, 27), (true, 28), (true, 29), (true, 30), (true, 31), (true, 32)] (by kernel_rfl) (by kernel_rfl) rfl (by kernel_rfl) (fun _ _ d _ _ h => by cases d <;> exact h) ?_
      have HSW : Hid (w0.drew.cell? ⟨X, 0, none⟩ = some (.string (tx pa)) ∧ w0.drew.cell? ⟨X, 1, none⟩ = some (.bool di) ∧ w0.drew.cell? ⟨X, 2, none⟩ = some (.string (tx da)) ∧ w0.drew.cell? ⟨X, 3, none⟩ = some (.int .i64 mo) ∧ w0.drew.cell? ⟨X, 4, none⟩ = some (.int .i64 ti)) := Lib.hid ⟨x0, x1, x2, x3, x4⟩
      refine Steps.wanted (.pointer (some ⟨X, 0, none⟩)) rfl (by rfl) HSW.out (fun W hW => by kernel_rfl) ?_
      simp only [Act.put, List.setIfInBounds_toArray, List.set_cons_succ, List.set_cons_zero]
      refine Steps.wanted (.string (tx pa)) rfl (by rfl) HSW.out (fun W hW => by have c := hW.1; go_simp) ?_
      simp only [Act.put, List.setIfInBounds_toArray, List.set_cons_succ, List.set_cons_zero]
      refine Steps.wanted (.pointer (some ⟨X, 3, none⟩)) rfl (by rfl) HSW.out (fun W hW => by kernel_rfl) ?_
      simp only [Act.put, List.setIfInBounds_toArray, List.set_cons_succ, List.set_cons_zero]
      refine Steps.wanted (.int .i64 mo) rfl (by rfl) HSW.out (fun W hW => by have c := hW.2.2.2.1; go_simp) ?_
      simp only [Act.put, List.setIfInBounds_toArray, List.set_cons_succ, List.set_cons_zero]
      refine Steps.wanted (.bool true) rfl (by rfl) HSW.out (fun W hW => by go_simp) ?_
      simp only [Act.put, List.setIfInBounds_toArray, List.set_cons_succ, List.set_cons_zero]
      refine Steps.call 55 #[.string (tx pa)] rfl (by kernel_rfl) ((HR.out _).mono ?_)
      rintro e w2 ⟨rfl, o2⟩
      have HO2 := Lib.hid (HFR.out.drew.trans o2)
      have HSW2 := Lib.hid (And.intro (only_cell HSW.out.1 o2) (And.intro (only_cell HSW.out.2.1 o2) (And.intro (only_cell HSW.out.2.2.1 o2) (And.intro (only_cell HSW.out.2.2.2.1 o2) (only_cell HSW.out.2.2.2.2 o2)))))
      clear HSW o2
      refine ⟨_, rfl, HSW2.out, ?_⟩
      simp only [Act.put, List.setIfInBounds_toArray, List.set_cons_succ, List.set_cons_zero]
      refine Steps.wanted (.bool true) rfl (by rfl) HSW2.out (fun W hW => by kernel_rfl) ?_
      simp only [Act.put, List.setIfInBounds_toArray, List.set_cons_succ, List.set_cons_zero]
      refine Steps.wanted (.pointer (some ⟨X, 3, none⟩)) rfl (by rfl) HSW2.out (fun W hW => by kernel_rfl) ?_
      simp only [Act.put, List.setIfInBounds_toArray, List.set_cons_succ, List.set_cons_zero]
      refine Steps.wanted (.int .i64 mo) rfl (by rfl) HSW2.out (fun W hW => by have c := hW.2.2.2.1; go_simp) ?_
      simp only [Act.put, List.setIfInBounds_toArray, List.set_cons_succ, List.set_cons_zero]
      refine Steps.wanted (.bool false) rfl (by rfl) HSW2.out (fun W hW => by go_simp) ?_
      simp only [Act.put, List.setIfInBounds_toArray, List.set_cons_succ, List.set_cons_zero]
      refine Steps.wanted (.bool false) rfl (by rfl) HSW2.out (fun W hW => by kernel_rfl) ?_
      simp only [Act.put, List.setIfInBounds_toArray, List.set_cons_succ, List.set_cons_zero]
      refine Steps.wanted (.bool false) rfl (by rfl) HSW2.out (fun W hW => by kernel_rfl) ?_
      simp only [Act.put, List.setIfInBounds_toArray, List.set_cons_succ, List.set_cons_zero]
      refine Steps.unwanted rfl (by rfl) HSW2.out ?_
      simp only [Act.put, List.setIfInBounds_toArray, List.set_cons_succ, List.set_cons_zero]
      refine Steps.unwanted rfl (by rfl) HSW2.out ?_
      simp only [Act.put, List.setIfInBounds_toArray, List.set_cons_succ, List.set_cons_zero]
      refine Steps.unwanted rfl (by rfl) HSW2.out ?_
      simp only [Act.put, List.setIfInBounds_toArray, List.set_cons_succ, List.set_cons_zero]
      refine Steps.wanted (.bool false) rfl (by rfl) HSW2.out (fun W hW => by kernel_rfl) ?_
      simp only [Act.put, List.setIfInBounds_toArray, List.set_cons_succ, List.set_cons_zero]
      refine Steps.wanted (.bool false) rfl (by rfl) HSW2.out (fun W hW => by kernel_rfl) ?_
      simp only [Act.put, List.setIfInBounds_toArray, List.set_cons_succ, List.set_cons_zero]
      refine Steps.unwanted rfl (by rfl) HSW2.out ?_
      simp only [Act.put, List.setIfInBounds_toArray, List.set_cons_succ, List.set_cons_zero]
      refine Steps.unwanted rfl (by rfl) HSW2.out ?_
      simp only [Act.put, List.setIfInBounds_toArray, List.set_cons_succ, List.set_cons_zero]
      refine Steps.unwanted rfl (by rfl) HSW2.out ?_
      simp only [Act.put, List.setIfInBounds_toArray, List.set_cons_succ, List.set_cons_zero]
      refine Steps.wanted (.bool false) rfl (by rfl) HSW2.out (fun W hW => by kernel_rfl) ?_
      simp only [Act.put, List.setIfInBounds_toArray, List.set_cons_succ, List.set_cons_zero]
      refine Steps.wanted (.bool false) rfl (by rfl) HSW2.out (fun W hW => by kernel_rfl) ?_
      simp only [Act.put, List.setIfInBounds_toArray, List.set_cons_succ, List.set_cons_zero]
      refine Steps.unwanted rfl (by rfl) HSW2.out ?_
      simp only [Act.put, List.setIfInBounds_toArray, List.set_cons_succ, List.set_cons_zero]
      refine Steps.unwanted rfl (by rfl) HSW2.out ?_
      simp only [Act.put, List.setIfInBounds_toArray, List.set_cons_succ, List.set_cons_zero]
      refine Steps.unwanted rfl (by rfl) HSW2.out ?_
      simp only [Act.put, List.setIfInBounds_toArray, List.set_cons_succ, List.set_cons_zero]
      refine Steps.unwanted rfl (by rfl) HSW2.out ?_
      simp only [Act.put, List.setIfInBounds_toArray, List.set_cons_succ, List.set_cons_zero]
      refine Steps.unwanted rfl (by rfl) HSW2.out ?_
      simp only [Act.put, List.setIfInBounds_toArray, List.set_cons_succ, List.set_cons_zero]
      refine Steps.unwanted rfl (by rfl) HSW2.out ?_
      simp only [Act.put, List.setIfInBounds_toArray, List.set_cons_succ, List.set_cons_zero]
      refine Steps.unwanted rfl (by rfl) HSW2.out ?_
      simp only [Act.put, List.setIfInBounds_toArray, List.set_cons_succ, List.set_cons_zero]
      refine Steps.unwanted rfl (by rfl) HSW2.out ?_
      simp only [Act.put, List.setIfInBounds_toArray, List.set_cons_succ, List.set_cons_zero]
      refine Steps.wanted (.bool false) rfl (by rfl) HSW2.out (fun W hW => by kernel_rfl) ?_
      simp only [Act.put, List.setIfInBounds_toArray, List.set_cons_succ, List.set_cons_zero]
      refine Steps.wanted (.bool MP) rfl (by rfl) HSW2.out (fun W hW => by kernel_rfl) ?_
      simp only [Act.put, List.setIfInBounds_toArray, List.set_cons_succ, List.set_cons_zero]
      refine Steps.wanted (.bool false) rfl (by rfl) HSW2.out (fun W hW => by kernel_rfl) ?_
      simp only [Act.put, List.setIfInBounds_toArray, List.set_cons_succ, List.set_cons_zero]
      show wpList _ _ _ _ _ _
      go_wp2
      go_ret2
      have HE : Hid (MR = false) := Lib.hid (by rw [HM.out]; simp [HB.out])
      rw [HE.out]
      exact ⟨rfl, HO2.out⟩
  · have k1 : decide (0 ≤ mo) = false := decide_eq_false c1
    have HB : Hid (decide (0 ≤ mo) = false) := Lib.hid k1
    clear c1
    go_enter Tryz.func34, Tryz.ntmps34
    go_upto_region 1 with fail
    refine Steps.region (fun W => W.cell? ⟨X, 0, none⟩ = some (.string (tx pa)) ∧ W.cell? ⟨X, 1, none⟩ = some (.bool di) ∧ W.cell? ⟨X, 2, none⟩ = some (.string (tx da)) ∧ W.cell? ⟨X, 3, none⟩ = some (.int .i64 mo) ∧ W.cell? ⟨X, 4, none⟩ = some (.int .i64 ti)) [(true, 0), (true, 1), (true, 3), (true, 4), (true, 5), (false, 2), (true, 6), (true, 7), (true, 8), (true, 9), (true, 10), (true, 11), (true, 12), (true, 13), (true, 14), (true, 15), (true, 16), (true, 17), (true, 18), (true, 19), (true, 20), (true, 21), (true, 22), (true, 23), (true, 24), (true, 25), (true, 26), (true, 27), (true, 28), (true, 29), (true, 30), (true, 31), (true, 32)] (by kernel_rfl) (by kernel_rfl) rfl (by kernel_rfl) (fun _ _ d _ _ h => by cases d <;> exact h) ?_
    have HSW : Hid (w0.drew.cell? ⟨X, 0, none⟩ = some (.string (tx pa)) ∧ w0.drew.cell? ⟨X, 1, none⟩ = some (.bool di) ∧ w0.drew.cell? ⟨X, 2, none⟩ = some (.string (tx da)) ∧ w0.drew.cell? ⟨X, 3, none⟩ = some (.int .i64 mo) ∧ w0.drew.cell? ⟨X, 4, none⟩ = some (.int .i64 ti)) := Lib.hid ⟨x0, x1, x2, x3, x4⟩
    refine Steps.wanted (.pointer (some ⟨X, 0, none⟩)) rfl (by rfl) HSW.out (fun W hW => by kernel_rfl) ?_
    simp only [Act.put, List.setIfInBounds_toArray, List.set_cons_succ, List.set_cons_zero]
    refine Steps.wanted (.string (tx pa)) rfl (by rfl) HSW.out (fun W hW => by have c := hW.1; go_simp) ?_
    simp only [Act.put, List.setIfInBounds_toArray, List.set_cons_succ, List.set_cons_zero]
    refine Steps.wanted (.pointer (some ⟨X, 3, none⟩)) rfl (by rfl) HSW.out (fun W hW => by kernel_rfl) ?_
    simp only [Act.put, List.setIfInBounds_toArray, List.set_cons_succ, List.set_cons_zero]
    refine Steps.wanted (.int .i64 mo) rfl (by rfl) HSW.out (fun W hW => by have c := hW.2.2.2.1; go_simp) ?_
    simp only [Act.put, List.setIfInBounds_toArray, List.set_cons_succ, List.set_cons_zero]
    refine Steps.wanted (.bool false) rfl (by rfl) HSW.out (fun W hW => by go_simp) ?_
    simp only [Act.put, List.setIfInBounds_toArray, List.set_cons_succ, List.set_cons_zero]
    refine Steps.call 55 #[.string (tx pa)] rfl (by kernel_rfl) ((HR.out _).mono ?_)
    rintro e w2 ⟨rfl, o2⟩
    have HO2 := Lib.hid (HFR.out.drew.trans o2)
    have HSW2 := Lib.hid (And.intro (only_cell HSW.out.1 o2) (And.intro (only_cell HSW.out.2.1 o2) (And.intro (only_cell HSW.out.2.2.1 o2) (And.intro (only_cell HSW.out.2.2.2.1 o2) (only_cell HSW.out.2.2.2.2 o2)))))
    clear HSW o2
    refine ⟨_, rfl, HSW2.out, ?_⟩
    simp only [Act.put, List.setIfInBounds_toArray, List.set_cons_succ, List.set_cons_zero]
    refine Steps.wanted (.bool false) rfl (by rfl) HSW2.out (fun W hW => by kernel_rfl) ?_
    simp only [Act.put, List.setIfInBounds_toArray, List.set_cons_succ, List.set_cons_zero]
    refine Steps.unwanted rfl (by rfl) HSW2.out ?_
    simp only [Act.put, List.setIfInBounds_toArray, List.set_cons_succ, List.set_cons_zero]
    refine Steps.unwanted rfl (by rfl) HSW2.out ?_
    simp only [Act.put, List.setIfInBounds_toArray, List.set_cons_succ, List.set_cons_zero]
    refine Steps.unwanted rfl (by rfl) HSW2.out ?_
    simp only [Act.put, List.setIfInBounds_toArray, List.set_cons_succ, List.set_cons_zero]
    refine Steps.wanted (.bool false) rfl (by rfl) HSW2.out (fun W hW => by kernel_rfl) ?_
    simp only [Act.put, List.setIfInBounds_toArray, List.set_cons_succ, List.set_cons_zero]
    refine Steps.wanted (.bool false) rfl (by rfl) HSW2.out (fun W hW => by kernel_rfl) ?_
    simp only [Act.put, List.setIfInBounds_toArray, List.set_cons_succ, List.set_cons_zero]
    refine Steps.unwanted rfl (by rfl) HSW2.out ?_
    simp only [Act.put, List.setIfInBounds_toArray, List.set_cons_succ, List.set_cons_zero]
    refine Steps.unwanted rfl (by rfl) HSW2.out ?_
    simp only [Act.put, List.setIfInBounds_toArray, List.set_cons_succ, List.set_cons_zero]
    refine Steps.unwanted rfl (by rfl) HSW2.out ?_
    simp only [Act.put, List.setIfInBounds_toArray, List.set_cons_succ, List.set_cons_zero]
    refine Steps.wanted (.bool false) rfl (by rfl) HSW2.out (fun W hW => by kernel_rfl) ?_
    simp only [Act.put, List.setIfInBounds_toArray, List.set_cons_succ, List.set_cons_zero]
    refine Steps.wanted (.bool false) rfl (by rfl) HSW2.out (fun W hW => by kernel_rfl) ?_
    simp only [Act.put, List.setIfInBounds_toArray, List.set_cons_succ, List.set_cons_zero]
    refine Steps.unwanted rfl (by rfl) HSW2.out ?_
    simp only [Act.put, List.setIfInBounds_toArray, List.set_cons_succ, List.set_cons_zero]
    refine Steps.unwanted rfl (by rfl) HSW2.out ?_
    simp only [Act.put, List.setIfInBounds_toArray, List.set_cons_succ, List.set_cons_zero]
    refine Steps.unwanted rfl (by rfl) HSW2.out ?_
    simp only [Act.put, List.setIfInBounds_toArray, List.set_cons_succ, List.set_cons_zero]
    refine Steps.wanted (.bool false) rfl (by rfl) HSW2.out (fun W hW => by kernel_rfl) ?_
    simp only [Act.put, List.setIfInBounds_toArray, List.set_cons_succ, List.set_cons_zero]
    refine Steps.wanted (.bool false) rfl (by rfl) HSW2.out (fun W hW => by kernel_rfl) ?_
    simp only [Act.put, List.setIfInBounds_toArray, List.set_cons_succ, List.set_cons_zero]
    refine Steps.unwanted rfl (by rfl) HSW2.out ?_
    simp only [Act.put, List.setIfInBounds_toArray, List.set_cons_succ, List.set_cons_zero]
    refine Steps.unwanted rfl (by rfl) HSW2.out ?_
    simp only [Act.put, List.setIfInBounds_toArray, List.set_cons_succ, List.set_cons_zero]
    refine Steps.unwanted rfl (by rfl) HSW2.out ?_
    simp only [Act.put, List.setIfInBounds_toArray, List.set_cons_succ, List.set_cons_zero]
    refine Steps.unwanted rfl (by rfl) HSW2.out ?_
    simp only [Act.put, List.setIfInBounds_toArray, List.set_cons_succ, List.set_cons_zero]
    refine Steps.unwanted rfl (by rfl) HSW2.out ?_
    simp only [Act.put, List.setIfInBounds_toArray, List.set_cons_succ, List.set_cons_zero]
    refine Steps.unwanted rfl (by rfl) HSW2.out ?_
    simp only [Act.put, List.setIfInBounds_toArray, List.set_cons_succ, List.set_cons_zero]
    refine Steps.unwanted rfl (by rfl) HSW2.out ?_
    simp only [Act.put, List.setIfInBounds_toArray, List.set_cons_succ, List.set_cons_zero]
    refine Steps.unwanted rfl (by rfl) HSW2.out ?_
    simp only [Act.put, List.setIfInBounds_toArray, List.set_cons_succ, List.set_cons_zero]
    refine Steps.wanted (.bool false) rfl (by rfl) HSW2.out (fun W hW => by kernel_rfl) ?_
    simp only [Act.put, List.setIfInBounds_toArray, List.set_cons_succ, List.set_cons_zero]
    refine Steps.wanted (.bool MP) rfl (by rfl) HSW2.out (fun W hW => by kernel_rfl) ?_
    simp only [Act.put, List.setIfInBounds_toArray, List.set_cons_succ, List.set_cons_zero]
    refine Steps.wanted (.bool false) rfl (by rfl) HSW2.out (fun W hW => by kernel_rfl) ?_
    simp only [Act.put, List.setIfInBounds_toArray, List.set_cons_succ, List.set_cons_zero]
    show wpList _ _ _ _ _ _
    go_wp2
    go_ret2
    have HE : Hid (MR = false) := Lib.hid (by rw [HM.out]; simp [HB.out])
    rw [HE.out]
    exact ⟨rfl, HO2.out⟩
theorem rmay (n : Nd) (w : World) (hn : NdIn n) : Calls Tryz.prog 34 #[ndV n] w fun e w' => e = .returned (.tuple #[.bool (mayPath n), .bool (mayRest n)]) ∧ Only (fun _ => False) w w' :=
  mayW n.path n.dir n.data n.mode n.time w hn.1
end Go.Proofs.YtaeaomlhbdbbfaaGreatDoor
