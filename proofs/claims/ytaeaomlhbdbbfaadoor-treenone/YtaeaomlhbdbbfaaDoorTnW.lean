/- Layer 15, the laws: of a tree that is none nothing is told. -/
import Derived.Test.YtaeaomlhbdbbfaaDoorTnU
namespace Go.Proofs.YtaeaomlhbdbbfaaDoor
open Go.RowKit
variable {G : World → Prop} {T : Value → List Nd → (Nat → Prop) → World → Prop}

set_option maxRecDepth 100000 in
set_option maxHeartbeats 8000000 in
theorem treeNoneWalk (C : TrC G T) (pa : List UInt8) (di : Bool) (da : List UInt8) (mo ti : Int) (w : World) (hg : G w) : Calls Tryd.prog 5 #[.agg #[.string (tx pa), .bool di, .string (tx da), .int .i64 mo, .int .i64 ti]] w fun e w' => e = .returned (.bool true) ∧ Only (fun _ => False) w w' := by
  obtain ⟨X, hX⟩ : ∃ X, w.heap.size = X := ⟨_, rfl⟩
  obtain ⟨w0, hw0⟩ : ∃ w0, w.alloc (.cells #[.string (tx pa), .bool di, .string (tx da), .int .i64 mo, .int .i64 ti] 25) = w0 := ⟨_, rfl⟩
  have HI : Hid (Is w0 X 25 [.string (tx pa), .bool di, .string (tx da), .int .i64 mo, .int .i64 ti]) := Lib.hid (by
    rw [← hw0, ← hX]
    exact Is.new w _ _)
  have HFR : Hid (Only (fun _ => False) w w0) := Lib.hid (by
    rw [← hw0]
    exact (Only.refl _ w).alloc _)
  have HAW := Lib.hid (awake15 C w0 (C.keep _ _ hg HFR.out))
  have HK : Hid (∀ w', Only (fun _ => False) w w' → G w') := Lib.hid fun w' k => C.keep w w' hg k
  have HC := Lib.hid C
  clear C hg
  go_enter Tryd.func5, Tryd.ntmps5
  go_wp2_with fail
  refine HAW.out.mono ?_
  rintro e w1 ⟨rfl, o1⟩
  have HI1 := Lib.hid (HI.out.only o1 fun f => f)
  have HO1 := Lib.hid (HFR.out.trans o1)
  clear HAW HI HFR o1 hw0 hX
  have y0 := HI1.out.cell 0 rfl
  have H2 : Hid (Calls Tryd.prog 21 #[.pointer none, .string (tx pa)] w1 fun e w' => e = .returned (.tuple #[.agg #[.string ⟨#[]⟩, .bool false, .string ⟨#[]⟩, .int .i64 0, .int .i64 0], .bool false]) ∧ Only (fun _ => False) w1 w') := Lib.hid (HC.out.nget pa w1 (HK.out _ HO1.out))
  go_wp2_with fail
  refine H2.out.mono ?_
  rintro e w2 ⟨rfl, o2⟩
  have HI2 := Lib.hid (HI1.out.only o2 fun f => f)
  have HO2 := Lib.hid (HO1.out.trans o2)
  clear H2 HI1 HO1 o2 y0
  obtain ⟨Y, hY⟩ : ∃ Y, w2.heap.size = Y := ⟨_, rfl⟩
  have HJ3 : Hid (Is (w2.alloc (.cells #[.string ⟨#[]⟩, .bool false, .string ⟨#[]⟩, .int .i64 0, .int .i64 0] 25)) Y 25 [.string ⟨#[]⟩, .bool false, .string ⟨#[]⟩, .int .i64 0, .int .i64 0]) := Lib.hid (by
    rw [← hY]
    exact Is.new w2 _ _)
  have HO3 : Hid (∀ x, Only (fun _ => False) w2 (w2.alloc x)) := Lib.hid fun x => (Only.refl _ w2).alloc x
  have H4 := Lib.hid fun x => HC.out.ncoll (w2.alloc x) (HK.out _ (HO2.out.trans (HO3.out x)))
  go_wp2_with fail
  refine (H4.out _).mono ?_
  rintro e w4 ⟨rfl, o4⟩
  have HI4 := Lib.hid (HI2.out.only ((HO3.out _).trans o4) fun f => f)
  have HJ4 := Lib.hid (HJ3.out.only o4 fun f => f)
  have HO4 := Lib.hid (HO2.out.trans ((HO3.out _).trans o4))
  clear H4 HI2 HJ3 HO2 HO3 o4 hY
  have x0 := HI4.out.cell 0 rfl
  have x1 := HI4.out.cell 1 rfl
  have x2 := HI4.out.cell 2 rfl
  have x3 := HI4.out.cell 3 rfl
  have x4 := HI4.out.cell 4 rfl
  have y0 := HJ4.out.cell 0 rfl
  have y1 := HJ4.out.cell 1 rfl
  have y2 := HJ4.out.cell 2 rfl
  have y3 := HJ4.out.cell 3 rfl
  have y4 := HJ4.out.cell 4 rfl
  have H5 : Hid (Calls Tryd.prog 16 #[.pointer none, .agg #[.string (tx pa), .bool di, .string (tx da), .int .i64 mo, .int .i64 ti]] w4 fun e w' => e = .returned (.int .i64 1) ∧ Only (fun _ => False) w4 w') := Lib.hid (HC.out.nput ⟨pa, di, da, mo, ti⟩ w4 (HK.out _ HO4.out))
  go_wp2_with fail
  refine H5.out.mono ?_
  rintro e w5 ⟨rfl, o5⟩
  have HI5 := Lib.hid (HI4.out.only o5 fun f => f)
  have HJ5 := Lib.hid (HJ4.out.only o5 fun f => f)
  have HO5 := Lib.hid (HO4.out.trans o5)
  clear H5 HI4 HJ4 HO4 o5 x0 x1 x2 x3 x4 y0 y1 y2 y3 y4
  have x0 := HI5.out.cell 0 rfl
  have x1 := HI5.out.cell 1 rfl
  have x2 := HI5.out.cell 2 rfl
  have x3 := HI5.out.cell 3 rfl
  have x4 := HI5.out.cell 4 rfl
  have y0 := HJ5.out.cell 0 rfl
  have y1 := HJ5.out.cell 1 rfl
  have y2 := HJ5.out.cell 2 rfl
  have y3 := HJ5.out.cell 3 rfl
  have y4 := HJ5.out.cell 4 rfl
  have H6 : Hid (Calls Tryd.prog 17 #[.pointer none, .string (tx pa)] w5 fun e w' => e = .returned (.int .i64 1) ∧ Only (fun _ => False) w5 w') := Lib.hid (HC.out.nensure pa w5 (HK.out _ HO5.out))
  go_wp2_with fail
  refine H6.out.mono ?_
  rintro e w6 ⟨rfl, o6⟩
  have HI6 := Lib.hid (HI5.out.only o6 fun f => f)
  have HJ6 := Lib.hid (HJ5.out.only o6 fun f => f)
  have HO6 := Lib.hid (HO5.out.trans o6)
  clear H6 HI5 HJ5 HO5 o6 x0 x1 x2 x3 x4 y0 y1 y2 y3 y4
  have x0 := HI6.out.cell 0 rfl
  have x1 := HI6.out.cell 1 rfl
  have x2 := HI6.out.cell 2 rfl
  have x3 := HI6.out.cell 3 rfl
  have x4 := HI6.out.cell 4 rfl
  have y0 := HJ6.out.cell 0 rfl
  have y1 := HJ6.out.cell 1 rfl
  have y2 := HJ6.out.cell 2 rfl
  have y3 := HJ6.out.cell 3 rfl
  have y4 := HJ6.out.cell 4 rfl
  have H7 : Hid (Calls Tryd.prog 18 #[.pointer none, .string (tx pa)] w6 fun e w' => e = .returned (.int .i64 0) ∧ Only (fun _ => False) w6 w') := Lib.hid (HC.out.nremove pa w6 (HK.out _ HO6.out))
  go_wp2_with fail
  refine H7.out.mono ?_
  rintro e w7 ⟨rfl, o7⟩
  have HI7 := Lib.hid (HI6.out.only o7 fun f => f)
  have HJ7 := Lib.hid (HJ6.out.only o7 fun f => f)
  have HO7 := Lib.hid (HO6.out.trans o7)
  clear H7 HI6 HJ6 HO6 o7 x0 x1 x2 x3 x4 y0 y1 y2 y3 y4
  have x0 := HI7.out.cell 0 rfl
  have x1 := HI7.out.cell 1 rfl
  have x2 := HI7.out.cell 2 rfl
  have x3 := HI7.out.cell 3 rfl
  have x4 := HI7.out.cell 4 rfl
  have y0 := HJ7.out.cell 0 rfl
  have y1 := HJ7.out.cell 1 rfl
  have y2 := HJ7.out.cell 2 rfl
  have y3 := HJ7.out.cell 3 rfl
  have y4 := HJ7.out.cell 4 rfl
  have H8 : Hid (Calls Tryd.prog 19 #[.pointer none, .string (tx pa)] w7 fun e w' => e = .returned (.int .i64 0) ∧ Only (fun _ => False) w7 w') := Lib.hid (HC.out.nclear pa w7 (HK.out _ HO7.out))
  go_wp2_with fail
  refine H8.out.mono ?_
  rintro e w8 ⟨rfl, o8⟩
  have HI8 := Lib.hid (HI7.out.only o8 fun f => f)
  have HJ8 := Lib.hid (HJ7.out.only o8 fun f => f)
  have HO8 := Lib.hid (HO7.out.trans o8)
  clear H8 HI7 HJ7 HO7 o8 x0 x1 x2 x3 x4 y0 y1 y2 y3 y4
  have x0 := HI8.out.cell 0 rfl
  have x1 := HI8.out.cell 1 rfl
  have x2 := HI8.out.cell 2 rfl
  have x3 := HI8.out.cell 3 rfl
  have x4 := HI8.out.cell 4 rfl
  have y0 := HJ8.out.cell 0 rfl
  have y1 := HJ8.out.cell 1 rfl
  have y2 := HJ8.out.cell 2 rfl
  have y3 := HJ8.out.cell 3 rfl
  have y4 := HJ8.out.cell 4 rfl
  have H9 : Hid (Calls Tryd.prog 22 #[.pointer none, .string (tx pa)] w8 fun e w' => (∃ A c, e = .returned (.slice A 0 c)) ∧ Only (fun _ => False) w8 w') := Lib.hid (HC.out.nlist pa w8 (HK.out _ HO8.out))
  go_wp2_with fail
  refine H9.out.mono ?_
  rintro e w9 ⟨⟨A9, c9, rfl⟩, o9⟩
  have HI9 := Lib.hid (HI8.out.only o9 fun f => f)
  have HJ9 := Lib.hid (HJ8.out.only o9 fun f => f)
  have HO9 := Lib.hid (HO8.out.trans o9)
  clear H9 HI8 HJ8 HO8 o9 x0 x1 x2 x3 x4 y0 y1 y2 y3 y4
  have x0 := HI9.out.cell 0 rfl
  have x1 := HI9.out.cell 1 rfl
  have x2 := HI9.out.cell 2 rfl
  have x3 := HI9.out.cell 3 rfl
  have x4 := HI9.out.cell 4 rfl
  have y0 := HJ9.out.cell 0 rfl
  have y1 := HJ9.out.cell 1 rfl
  have y2 := HJ9.out.cell 2 rfl
  have y3 := HJ9.out.cell 3 rfl
  have y4 := HJ9.out.cell 4 rfl
  have H10 : Hid (Calls Tryd.prog 13 #[.pointer none] w9 fun e w' => (∃ A c, e = .returned (.slice A 0 c)) ∧ Only (fun _ => False) w9 w') := Lib.hid (HC.out.nall w9 (HK.out _ HO9.out))
  go_wp2_with fail
  refine H10.out.mono ?_
  rintro e w10 ⟨⟨A10, c10, rfl⟩, o10⟩
  have HI10 := Lib.hid (HI9.out.only o10 fun f => f)
  have HJ10 := Lib.hid (HJ9.out.only o10 fun f => f)
  have HO10 := Lib.hid (HO9.out.trans o10)
  clear H10 HI9 HJ9 HO9 o10 x0 x1 x2 x3 x4 y0 y1 y2 y3 y4
  have x0 := HI10.out.cell 0 rfl
  have x1 := HI10.out.cell 1 rfl
  have x2 := HI10.out.cell 2 rfl
  have x3 := HI10.out.cell 3 rfl
  have x4 := HI10.out.cell 4 rfl
  have y0 := HJ10.out.cell 0 rfl
  have y1 := HJ10.out.cell 1 rfl
  have y2 := HJ10.out.cell 2 rfl
  have y3 := HJ10.out.cell 3 rfl
  have y4 := HJ10.out.cell 4 rfl
  have H11 : Hid (Calls Tryd.prog 23 #[.pointer none] w10 fun e w' => e = .returned (.int .i64 0) ∧ Only (fun _ => False) w10 w') := Lib.hid (HC.out.nlen w10 (HK.out _ HO10.out))
  go_wp2_with fail
  refine H11.out.mono ?_
  rintro e w11 ⟨rfl, o11⟩
  have HI11 := Lib.hid (HI10.out.only o11 fun f => f)
  have HJ11 := Lib.hid (HJ10.out.only o11 fun f => f)
  have HO11 := Lib.hid (HO10.out.trans o11)
  clear H11 HI10 HJ10 HO10 o11 x0 x1 x2 x3 x4 y0 y1 y2 y3 y4
  have x0 := HI11.out.cell 0 rfl
  have x1 := HI11.out.cell 1 rfl
  have x2 := HI11.out.cell 2 rfl
  have x3 := HI11.out.cell 3 rfl
  have x4 := HI11.out.cell 4 rfl
  have y0 := HJ11.out.cell 0 rfl
  have y1 := HJ11.out.cell 1 rfl
  have y2 := HJ11.out.cell 2 rfl
  have y3 := HJ11.out.cell 3 rfl
  have y4 := HJ11.out.cell 4 rfl
  have H12 : Hid (Calls Tryd.prog 24 #[.pointer none] w11 fun e w' => e = .returned (.int .i64 0) ∧ Only (fun _ => False) w11 w') := Lib.hid (HC.out.nbytes w11 (HK.out _ HO11.out))
  go_wp2_with fail
  refine H12.out.mono ?_
  rintro e w12 ⟨rfl, o12⟩
  have HI12 := Lib.hid (HI11.out.only o12 fun f => f)
  have HJ12 := Lib.hid (HJ11.out.only o12 fun f => f)
  have HO12 := Lib.hid (HO11.out.trans o12)
  clear H12 HI11 HJ11 HO11 o12 x0 x1 x2 x3 x4 y0 y1 y2 y3 y4
  go_wp2
  go_ret
  exact ⟨rfl, HO12.out⟩
end Go.Proofs.YtaeaomlhbdbbfaaDoor
