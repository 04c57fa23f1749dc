/- Layer 15, the laws: a file below a directory. -/
import Derived.Test.YtaeaomlhbdbbfaaGreatDoorTnS
namespace Go.Proofs.YtaeaomlhbdbbfaaGreatDoor
open Go.RowKit
variable {G : World → Prop} {T : Value → List Nd → (Nat → Prop) → World → Prop}

def ab15 : Nd := ⟨[97, 47, 98], false, [120], 420, 0⟩
def a15 : Nd := ⟨[97], false, [], 0, 0⟩
def two15 : List Nd := [⟨[97], true, [], 493, 0⟩, ab15]
theorem ab15_sm : NdSm ab15 := by
  unfold NdSm NdIn ab15
  simp
theorem a15_sm : NdSm a15 := by
  unfold NdSm NdIn a15
  simp
theorem few_nil : Few [] := ⟨Form.nil, fun n h => (by cases h), Nat.zero_le _⟩
theorem few_done {ps : List Nd} (h : Few ps) (d : Dd) (hd : NdSm d.n) (hl : ps.length ≤ 1938) : Few (doneT ps d).1 := ⟨done_form h.1 d, done_sm h.2.1 d hd, by
  have := done_len ps d hd.2.1 fun n hn => (h.2.1 n hn).1
  omega⟩
theorem aw15_put : doneT [] ⟨0, ab15⟩ = (two15, 0) := by decide +kernel
theorem aw15_get : gotT two15 [97] = (⟨[97], true, [], 493, 0⟩, true) := by decide +kernel
theorem aw15_check : checkT two15 = 0 := by decide +kernel
theorem aw15_remove : doneT two15 ⟨3, a15⟩ = ([], 2) := by decide +kernel
theorem few_two : Few two15 := by
  have := few_done few_nil ⟨0, ab15⟩ ab15_sm (Nat.zero_le _)
  rw [aw15_put] at this
  exact this
set_option maxRecDepth 100000 in
set_option maxHeartbeats 8000000 in
theorem awake15 (C : TrC G T) (w : World) (hg : G w) : Calls Tryz.prog 4 #[] w fun e w' => e = .returned (.bool true) ∧ Only (fun _ => False) w w' := by
  have HST := Lib.hid (TAt.start C w hg w (Only.refl _ w))
  have HC := Lib.hid C
  have HGG := Lib.hid hg
  clear C hg
  go_enter Tryz.func4, Tryz.ntmps4
  go_wp2_with fail
  refine HST.out.mono ?_
  rintro e w1 ⟨v, rfl, t1, _⟩
  have H1 := t1.doPut HC.out HGG.out (fun _ h => h.elim) few_nil ab15 ab15_sm
  rw [aw15_put] at H1
  have H2 : Hid (Calls Tryz.prog 7 #[v, .agg #[.string ⟨#[97, 47, 98]⟩, .bool false, .string ⟨#[120]⟩, .int .i64 420, .int .i64 0]] w1 (TPut T w v (two15, 0) (fun _ => False) w1)) := Lib.hid H1
  clear H1 t1 HST
  go_wp2_with fail
  refine H2.out.mono ?_
  rintro e w2 ⟨he, t2, _⟩
  replace he : e = .returned (.int .i64 0) := he
  subst he
  have HT2 : Hid (TAt T w v two15 (fun _ => False) w2) := Lib.hid t2
  have H3 := HT2.out.get HC.out HGG.out few_two [97] (by decide)
  rw [aw15_get] at H3
  have H4 : Hid (Calls Tryz.prog 17 #[v, .string ⟨#[97]⟩] w2 fun e w' => e = .returned (.tuple #[.agg #[.string ⟨#[97]⟩, .bool true, .string ⟨#[]⟩, .int .i64 493, .int .i64 0], .bool true]) ∧ Only (fun _ => False) w2 w') := Lib.hid H3
  clear H3 t2 H2
  go_wp2_with fail
  refine H4.out.mono ?_
  rintro e w3 ⟨rfl, o3⟩
  have HT3 := Lib.hid (HT2.out.new HC.out o3)
  clear H4 HT2 o3
  obtain ⟨X, hX⟩ : ∃ X, w3.heap.size = X := ⟨_, rfl⟩
  have HI4 : Hid (Is (w3.alloc (.cells #[.string ⟨#[97]⟩, .bool true, .string ⟨#[]⟩, .int .i64 493, .int .i64 0] 29)) X 29 [.string ⟨#[97]⟩, .bool true, .string ⟨#[]⟩, .int .i64 493, .int .i64 0]) := Lib.hid (by
    rw [← hX]
    exact Is.new w3 _ _)
  have HT4 : Hid (TAt T w v two15 (fun _ => False) (w3.alloc (.cells #[.string ⟨#[97]⟩, .bool true, .string ⟨#[]⟩, .int .i64 493, .int .i64 0] 29))) := Lib.hid (HT3.out.new HC.out ((Only.refl _ w3).alloc _))
  have H5 := Lib.hid (HT4.out.all HC.out HGG.out few_two.2.1 few_two.2.2)
  clear HT3
  go_wp2_with fail
  refine H5.out.mono ?_
  rintro e w5 ⟨A, c, B, he, s1, s2, o5, _⟩
  replace he : e = .returned (.slice A 2 c) := he
  subst he
  have HT5 := Lib.hid (HT4.out.new HC.out o5)
  have HI5 := Lib.hid (HI4.out.only o5 fun f => f)
  have HS5 := Lib.hid s1
  have HC5 : Hid (2 ≤ c) := Lib.hid s2
  clear H5 HT4 HI4 hX s1 s2 o5
  have y0 := HI5.out.cell 0 rfl
  have y1 := HI5.out.cell 1 rfl
  have y2 := HI5.out.cell 2 rfl
  have y3 := HI5.out.cell 3 rfl
  have y4 := HI5.out.cell 4 rfl
  have H6 := Lib.hid (HT5.out.len HC.out HGG.out few_two)
  have H6' : Hid (Calls Tryz.prog 14 #[v] w5 fun e w' => e = .returned (.int .i64 2) ∧ Only (fun _ => False) w5 w') := H6
  clear H6
  go_wp2_with fail
  refine H6'.out.mono ?_
  rintro e w6 ⟨rfl, o6⟩
  have HT6 := Lib.hid (HT5.out.new HC.out o6)
  have HS6 := Lib.hid (HS5.out.new o6)
  clear H6' HT5 HS5 HI5 o6 y0 y1 y2 y3 y4
  have H7 := Lib.hid (HT6.out.bytes HC.out HGG.out few_two)
  have H7' : Hid (Calls Tryz.prog 15 #[v] w6 fun e w' => e = .returned (.int .i64 1) ∧ Only (fun _ => False) w6 w') := H7
  clear H7
  go_wp2_with fail
  refine H7'.out.mono ?_
  rintro e w7 ⟨rfl, o7⟩
  have HT7 := Lib.hid (HT6.out.new HC.out o7)
  have HS7 := Lib.hid (HS6.out.new o7)
  clear H7' HT6 HS6 o7
  have H8 := HC.out.check A 2 c _ two15 w7 (HC.out.keep _ _ HGG.out HT7.out.only) HS7.out rfl HC5.out (by decide) few_two.2.1
  rw [aw15_check] at H8
  have H8' := Lib.hid H8
  clear H8
  go_wp2_with fail
  refine H8'.out.mono ?_
  rintro e w8 ⟨rfl, o8⟩
  have HT8 := Lib.hid (HT7.out.new HC.out o8)
  clear H8' HT7 HS7 o8
  have H9 := HT8.out.doRemove HC.out HGG.out (fun _ h => h.elim) few_two a15 a15_sm
  rw [aw15_remove] at H9
  have H9' : Hid (Calls Tryz.prog 9 #[v, .string ⟨#[97]⟩] w8 (TPut T w v ([], 2) (fun _ => False) w8)) := Lib.hid H9
  clear H9
  go_wp2_with fail
  refine H9'.out.mono ?_
  rintro e w9 ⟨he, t9, _⟩
  replace he : e = .returned (.int .i64 2) := he
  subst he
  have HT9 : Hid (TAt T w v [] (fun _ => False) w9) := Lib.hid t9
  clear t9 H9' HT8
  have H10 := Lib.hid (HT9.out.len HC.out HGG.out few_nil)
  have H10' : Hid (Calls Tryz.prog 14 #[v] w9 fun e w' => e = .returned (.int .i64 0) ∧ Only (fun _ => False) w9 w') := H10
  clear H10
  go_wp2_with fail
  refine H10'.out.mono ?_
  rintro e w10 ⟨rfl, o10⟩
  have HO := Lib.hid (HT9.out.only.trans o10)
  clear H10' HT9 o10
  go_wp2
  go_ret
  exact ⟨rfl, HO.out⟩
end Go.Proofs.YtaeaomlhbdbbfaaGreatDoor
