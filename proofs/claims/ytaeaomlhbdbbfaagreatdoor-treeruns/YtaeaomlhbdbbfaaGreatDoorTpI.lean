/- Layer 15, the landed program: may a node be. -/
import Derived.Test.YtaeaomlhbdbbfaaGreatDoorTpH
namespace Go.Proofs.YtaeaomlhbdbbfaaGreatDoor
open Go.RowKit

/-- What is wrong with a node: 5 its path, 1 the rest, 0 nothing. -/
def nodeZ (n : Nd) : Int := if rightF n.path = true then (if mayRest n = true then 0 else 1) else 5
set_option maxRecDepth 20000 in
set_option maxHeartbeats 8000000 in
theorem pnode (n : Nd) (w : World) (hg : Gr w) (hn : n.path.length ≤ 2000) : Calls Tryz.prog 25 #[ndV n] w fun e w' => e = .returned (.int .i64 (nodeZ n)) ∧ Only (fun _ => False) w w' := by
  obtain ⟨pa, di, da, mo, ti⟩ := n
  obtain ⟨Z, hZ⟩ : ∃ Z, nodeZ ⟨pa, di, da, mo, ti⟩ = Z := ⟨_, rfl⟩
  have HZ : Hid (Z = if rightF pa = true then (if (decide (0 ≤ mo) && (decide (mo ≤ 511) && (decide (0 ≤ ti) && (decide (ti ≤ 4294967295) && (!di || decide (da = [])))))) = true then 0 else 1) else 5) := Lib.hid hZ.symm
  rw [hZ]
  clear hZ
  have HR : Hid (∀ w1, Only (fun _ => False) w w1 → Calls Tryz.prog 30 #[.string (tx pa)] w1 fun e w' => e = .returned (.int .i64 (if rightF pa = true then 0 else 5)) ∧ Only (fun _ => False) w1 w') := Lib.hid fun w1 o => pcheck pa w1 (hg.keep o) (by have : pa.length ≤ 2000 := hn; omega)
  clear hg hn
  obtain ⟨X, hX⟩ : ∃ X, w.heap.size = X := ⟨_, rfl⟩
  obtain ⟨w0, hw0⟩ : ∃ w0, w.alloc (.cells #[.string (tx pa), .bool di, .string (tx da), .int .i64 mo, .int .i64 ti] 29) = w0 := ⟨_, rfl⟩
  have HI : Hid (Is w0 X 29 [.string (tx pa), .bool di, .string (tx da), .int .i64 mo, .int .i64 ti]) := Lib.hid (by
    rw [← hw0, ← hX]
    exact Is.new w _ _)
  have HFR : Hid (Only (fun _ => False) w w0) := Lib.hid (by
    rw [← hw0]
    exact (Only.refl _ w).alloc _)
  have x0 := HI.out.cell 0 rfl
  have td := tx_toList da
  cases hr : rightF pa with
  | false =>
    rw [hr] at HR HZ
    clear hr
    have HZ2 : Hid (Z = 5) := Lib.hid (by rw [HZ.out]; rfl)
    clear HZ
    go_enter Tryz.func25, Tryz.ntmps25
    go_wp2_with (go_at_call 30; refine (HR.out _ HFR.out).mono ?_; rintro e w2 ⟨rfl, o2⟩; have HO := Lib.hid (HFR.out.trans o2); have I2 := HI.out.only o2 (fun f => f); have y0 := I2.cell 0 rfl; have y1 := I2.cell 1 rfl; have y2 := I2.cell 2 rfl; have y3 := I2.cell 3 rfl; have y4 := I2.cell 4 rfl; clear o2 I2)
    go_ret
    rw [HZ2.out]
    exact ⟨rfl, HO.out⟩
  | true =>
    rw [hr] at HR HZ
    clear hr
    by_cases c1 : 0 ≤ mo
    · have q1 : decide (mo < 0) = false := decide_eq_false (by omega)
      by_cases c2 : mo ≤ 511
      · have q2 : decide (511 < mo) = false := decide_eq_false (by omega)
        by_cases c3 : 0 ≤ ti
        · have q3 : decide (ti < 0) = false := decide_eq_false (by omega)
          by_cases c4 : ti ≤ 4294967295
          · have q4 : decide (4294967295 < ti) = false := decide_eq_false (by omega)
            cases di with
            | false =>
              have HZ2 : Hid (Z = 0) := Lib.hid (by rw [HZ.out]; simp [c1, c2, c3, c4])
              clear HZ
              go_enter Tryz.func25, Tryz.ntmps25
              go_wp2_with (go_at_call 30; refine (HR.out _ HFR.out).mono ?_; rintro e w2 ⟨rfl, o2⟩; have HO := Lib.hid (HFR.out.trans o2); have I2 := HI.out.only o2 (fun f => f); have y0 := I2.cell 0 rfl; have y1 := I2.cell 1 rfl; have y2 := I2.cell 2 rfl; have y3 := I2.cell 3 rfl; have y4 := I2.cell 4 rfl; clear o2 I2)
              go_ret
              rw [HZ2.out]
              exact ⟨rfl, HO.out⟩
            | true =>
              by_cases c5 : da = []
              · have q5 : da.isEmpty = true := by rw [c5]; rfl
                have HZ2 : Hid (Z = 0) := Lib.hid (by rw [HZ.out]; simp [c1, c2, c3, c4, c5])
                clear HZ c5
                go_enter Tryz.func25, Tryz.ntmps25
                go_wp2_with (go_at_call 30; refine (HR.out _ HFR.out).mono ?_; rintro e w2 ⟨rfl, o2⟩; have HO := Lib.hid (HFR.out.trans o2); have I2 := HI.out.only o2 (fun f => f); have y0 := I2.cell 0 rfl; have y1 := I2.cell 1 rfl; have y2 := I2.cell 2 rfl; have y3 := I2.cell 3 rfl; have y4 := I2.cell 4 rfl; clear o2 I2)
                go_ret
                rw [HZ2.out]
                exact ⟨rfl, HO.out⟩
              · have q5 : da.isEmpty = false := by rw [List.isEmpty_eq_false_iff]; exact c5
                have HZ2 : Hid (Z = 1) := Lib.hid (by rw [HZ.out]; simp [c1, c2, c3, c4, c5])
                clear HZ c5
                go_enter Tryz.func25, Tryz.ntmps25
                go_wp2_with (go_at_call 30; refine (HR.out _ HFR.out).mono ?_; rintro e w2 ⟨rfl, o2⟩; have HO := Lib.hid (HFR.out.trans o2); have I2 := HI.out.only o2 (fun f => f); have y0 := I2.cell 0 rfl; have y1 := I2.cell 1 rfl; have y2 := I2.cell 2 rfl; have y3 := I2.cell 3 rfl; have y4 := I2.cell 4 rfl; clear o2 I2)
                go_ret
                rw [HZ2.out]
                exact ⟨rfl, HO.out⟩
          · have q4 : decide (4294967295 < ti) = true := decide_eq_true (by omega)
            have HZ2 : Hid (Z = 1) := Lib.hid (by rw [HZ.out]; simp [c4])
            clear HZ
            go_enter Tryz.func25, Tryz.ntmps25
            go_wp2_with (go_at_call 30; refine (HR.out _ HFR.out).mono ?_; rintro e w2 ⟨rfl, o2⟩; have HO := Lib.hid (HFR.out.trans o2); have I2 := HI.out.only o2 (fun f => f); have y0 := I2.cell 0 rfl; have y1 := I2.cell 1 rfl; have y2 := I2.cell 2 rfl; have y3 := I2.cell 3 rfl; have y4 := I2.cell 4 rfl; clear o2 I2)
            go_ret
            rw [HZ2.out]
            exact ⟨rfl, HO.out⟩
        · have q3 : decide (ti < 0) = true := decide_eq_true (by omega)
          have HZ2 : Hid (Z = 1) := Lib.hid (by rw [HZ.out]; simp [c3])
          clear HZ
          go_enter Tryz.func25, Tryz.ntmps25
          go_wp2_with (go_at_call 30; refine (HR.out _ HFR.out).mono ?_; rintro e w2 ⟨rfl, o2⟩; have HO := Lib.hid (HFR.out.trans o2); have I2 := HI.out.only o2 (fun f => f); have y0 := I2.cell 0 rfl; have y1 := I2.cell 1 rfl; have y2 := I2.cell 2 rfl; have y3 := I2.cell 3 rfl; have y4 := I2.cell 4 rfl; clear o2 I2)
          go_ret
          rw [HZ2.out]
          exact ⟨rfl, HO.out⟩
      · have q2 : decide (511 < mo) = true := decide_eq_true (by omega)
        have HZ2 : Hid (Z = 1) := Lib.hid (by rw [HZ.out]; simp [c2])
        clear HZ
        go_enter Tryz.func25, Tryz.ntmps25
        go_wp2_with (go_at_call 30; refine (HR.out _ HFR.out).mono ?_; rintro e w2 ⟨rfl, o2⟩; have HO := Lib.hid (HFR.out.trans o2); have I2 := HI.out.only o2 (fun f => f); have y0 := I2.cell 0 rfl; have y1 := I2.cell 1 rfl; have y2 := I2.cell 2 rfl; have y3 := I2.cell 3 rfl; have y4 := I2.cell 4 rfl; clear o2 I2)
        go_ret
        rw [HZ2.out]
        exact ⟨rfl, HO.out⟩
    · have q1 : decide (mo < 0) = true := decide_eq_true (by omega)
      have HZ2 : Hid (Z = 1) := Lib.hid (by rw [HZ.out]; simp [c1])
      clear HZ
      go_enter Tryz.func25, Tryz.ntmps25
      go_wp2_with (go_at_call 30; refine (HR.out _ HFR.out).mono ?_; rintro e w2 ⟨rfl, o2⟩; have HO := Lib.hid (HFR.out.trans o2); have I2 := HI.out.only o2 (fun f => f); have y0 := I2.cell 0 rfl; have y1 := I2.cell 1 rfl; have y2 := I2.cell 2 rfl; have y3 := I2.cell 3 rfl; have y4 := I2.cell 4 rfl; clear o2 I2)
      go_ret
      rw [HZ2.out]
      exact ⟨rfl, HO.out⟩
theorem nodeZ_ok (n : Nd) : nodeZ n = 0 ↔ mayPath n = true ∧ mayRest n = true := by
  unfold nodeZ mayPath
  cases rightF n.path <;> cases mayRest n <;> simp
end Go.Proofs.YtaeaomlhbdbbfaaGreatDoor
