/- Layer 7: a number taken apart into its symbol and the bits behind it, and joined again, in the program. -/
import Derived.Test.YtackcgiokkbhdaaDoorView
import Derived.Test.YtackcgiokkbhdaaDoorTShelf
import Derived.Laws.BitsLemmas
import Derived.OwnWalk
namespace Go.Proofs.YtackcgiokkbhdaaDoor
open Go.RowKit

def SplitPost (w : World) (i v m : Nat) (e : Ending) (w' : World) : Prop := e = .returned (.tuple #[.int .i64 (i : Nat), .int .i64 (v : Nat), .int .i64 (m : Nat)]) ∧ Only (fun _ => False) w w'

theorem pow_le (v : Nat) (h : v ≤ 15) : 2 ^ v ≤ 32768 := Nat.pow_le_pow_right (n := 2) (j := 15) (by decide) h
theorem in64 (n : Nat) (h : n ≤ 1000000) : wrap64 (n : Int) = (n : Int) := IntWalk.wrap64_in _ (by omega)
theorem low_bits (x v : Nat) (hx : x ≤ 32767) (hv : v ≤ 15) : bits BinOp.and IntKind.i64 (x : Int) (wrap64 (wrap64 (2 ^ v) - 1)) = ((x % 2 ^ v : Nat) : Int) := by
  have h1 := pow_le v hv
  have h2 : 0 < 2 ^ v := Nat.pow_pos (by decide)
  have e : ((2 : Int) ^ v) = ((2 ^ v : Nat) : Int) := by simp
  have e63 : (2 : Int) ^ 63 = 9223372036854775808 := by decide
  have h := bits_mask .i64 63 (by decide) (fun n h0 h1 => IntWalk.i64_in _ (by omega)) v (by omega) (x : Int) (by omega) (by omega)
  rw [e] at h ⊢
  generalize 2 ^ v = p at h h1 h2 ⊢
  rw [in64 p (by omega), show ((p : Int) - 1) = ((p - 1 : Nat) : Int) from by omega, in64 _ (by omega), show ((p - 1 : Nat) : Int) = (p : Int) - 1 from by omega, h]
  simp
theorem split_sum (x v G : Nat) (hx : x ≤ 32767) (hv : v ≤ 15) (hG : G ≤ 2) : wrap64 (wrap64 ((v : Int) * 2 ^ G) + (x : Int) / 2 ^ v) = ((v * 2 ^ G + x / 2 ^ v : Nat) : Int) := by
  have h1 : 2 ^ G ≤ 4 := Nat.pow_le_pow_right (n := 2) (j := 2) (by decide) hG
  have h3 : v * 2 ^ G ≤ 15 * 4 := Nat.mul_le_mul hv h1
  have h4 : x / 2 ^ v ≤ x := Nat.div_le_self _ _
  have e1 : ((v : Int) * 2 ^ G) = ((v * 2 ^ G : Nat) : Int) := by simp
  have e2 : ((x : Int) / 2 ^ v) = ((x / 2 ^ v : Nat) : Int) := by simp
  rw [e1, e2]
  generalize v * 2 ^ G = p at h3 ⊢
  generalize x / 2 ^ v = q at h4 ⊢
  rw [in64 p (by omega), show (p : Int) + (q : Int) = ((p + q : Nat) : Int) from by omega, in64 _ (by omega)]

set_option maxHeartbeats 2000000 in
theorem split (x G L v : Nat) (w : World) (hx : x ≤ 32767) (hL : Lib.bitLen x = L) (h15 : L ≤ 15) (hG : G ≤ 2) (hv : L - (G + 1) = v) : Calls Tryd.prog 98 #[.int .i64 x, .int .i64 G] w (SplitPost w (v * 2 ^ G + x / 2 ^ v) v (x % 2 ^ v)) := by
  have HL := Lib.hid hL
  have e : max (0 : Int) ((L : Int) - (G : Int) - 1) = (v : Int) := by omega
  have hv13 : v ≤ 15 := by omega
  clear hL hv
  have E1 := Lib.hid (split_sum x v G hx hv13 hG)
  have E2 := Lib.hid (low_bits x v hx hv13)
  obtain ⟨a, ha⟩ : ∃ a, v * 2 ^ G + x / 2 ^ v = a := ⟨_, rfl⟩
  obtain ⟨m, hm⟩ : ∃ m, x % 2 ^ v = m := ⟨_, rfl⟩
  rw [ha] at E1
  rw [hm] at E2
  rw [ha, hm]
  clear ha hm
  go_enter Tryd.func98, Tryd.ntmps98
  go_wp2_with (go_at_call 104; refine (Tryd.bits_Len _ _ ?_ ?_).mono ?_; omega; omega; rintro e w' ⟨rfl, rfl⟩; rw [Int.toNat_natCast, HL.out])
  try rw [e]
  clear e
  go_quiet (fail)
  rw [E1.out, E2.out]
  go_wp2
  go_ret3
  exact ⟨rfl, (Only.refl _ _).drewN _⟩

def JoinPost (w : World) (r : Int) (ok : Bool) (e : Ending) (w' : World) : Prop := e = .returned (.tuple #[.int .i64 r, .bool ok]) ∧ w' = w

/-- The numbers on joining's way. -/
structure JoinNums (i G v P Q D T : Nat) : Prop where
  w : max (0 : Int) (wrap64 ((i : Int) / 2 ^ G - 1)) = (v : Int)
  p : wrap64 ((2 : Int) ^ v) = (P : Int)
  q : wrap64 ((v : Int) * 2 ^ G) = (Q : Int)
  d : (i : Int) - (Q : Int) = (D : Int)
  t : wrap64 ((D : Int) * 2 ^ v) = (T : Int)
  p2 : P = 2 ^ v
  t2 : T = (i - v * 2 ^ G) * 2 ^ v
  v15 : v ≤ 15
  p15 : P ≤ 32768
  q60 : Q ≤ 60
  t60 : T ≤ 950272
theorem join_nums (i G v : Nat) (hi : i ≤ 29) (hG : G ≤ 2) (hv : i / 2 ^ G - 1 = v) (hv15 : v ≤ 15) : JoinNums i G v (2 ^ v) (v * 2 ^ G) (i - v * 2 ^ G) ((i - v * 2 ^ G) * 2 ^ v) := by
  have h1 : 2 ^ G ≤ 4 := Nat.pow_le_pow_right (n := 2) (j := 2) (by decide) hG
  have h2 := pow_le v hv15
  have h3 : v * 2 ^ G ≤ 15 * 4 := Nat.mul_le_mul hv15 h1
  have h4 : v * 2 ^ G ≤ i := Nat.le_trans (Nat.mul_le_mul_right _ (hv ▸ Nat.sub_le _ _ : v ≤ i / 2 ^ G)) (Nat.div_mul_le_self i (2 ^ G))
  have h5 : (i - v * 2 ^ G) * 2 ^ v ≤ 29 * 32768 := Nat.mul_le_mul (by omega) h2
  have h6 : i / 2 ^ G ≤ i := Nat.div_le_self _ _
  have e0 : ((i : Int) / 2 ^ G) = ((i / 2 ^ G : Nat) : Int) := by simp
  have e1 : ((v : Int) * 2 ^ G) = ((v * 2 ^ G : Nat) : Int) := by simp
  have e2 : ((i - v * 2 ^ G : Nat) : Int) * 2 ^ v = (((i - v * 2 ^ G) * 2 ^ v : Nat) : Int) := by simp
  have e3 : ((2 : Int) ^ v) = ((2 ^ v : Nat) : Int) := by simp
  refine ⟨?_, ?_, ?_, ?_, ?_, rfl, rfl, hv15, h2, h3, h5⟩
  · rw [e0]
    clear h4 h5 e0 e1 e2 e3
    generalize i / 2 ^ G = d at hv h6 ⊢
    rw [IntWalk.wrap64_in _ (by omega)]
    omega
  · rw [e3, in64 _ (by omega)]
  · rw [e1, in64 _ (by omega)]
  · clear e0 e1 e2 e3
    generalize v * 2 ^ G = d at h4 ⊢
    omega
  · rw [e2, in64 _ (by omega)]

set_option maxHeartbeats 2000000 in
theorem joined_yes (i G v m : Nat) (w : World) (hi : i ≤ 29) (hG : G ≤ 2) (hv : i / 2 ^ G - 1 = v) (hv15 : v ≤ 15) (hm : m < 2 ^ v) : Calls Tryd.prog 96 #[.int .i64 i, .int .i64 m, .int .i64 G] w (JoinPost w (((i - v * 2 ^ G) * 2 ^ v + m : Nat) : Int) true) := by
  obtain ⟨P, Q, D, T, h⟩ : ∃ P Q D T, JoinNums i G v P Q D T := ⟨_, _, _, _, join_nums i G v hi hG hv hv15⟩
  rw [← h.t2]
  have hm2 : m < P := by rw [h.p2]; exact hm
  have h1 := h.w
  have h2 := h.p
  have h3 := h.q
  have h4 := h.d
  have h5 := h.t
  have h6 := h.p15
  have h7 := h.q60
  have h8 := h.t60
  clear h hv hm
  go_enter Tryd.func96, Tryd.ntmps96
  go_wp2
  go_ret2
  exact ⟨by simp, rfl⟩

set_option maxHeartbeats 2000000 in
theorem joined_no (i G v : Nat) (m : Int) (w : World) (hi : i ≤ 29) (hG : G ≤ 2) (hv : i / 2 ^ G - 1 = v) (hv15 : v ≤ 15) (hm : m < 0 ∨ (2 ^ v : Nat) ≤ m) : Calls Tryd.prog 96 #[.int .i64 i, .int .i64 m, .int .i64 G] w (JoinPost w 0 false) := by
  obtain ⟨P, Q, D, T, h⟩ : ∃ P Q D T, JoinNums i G v P Q D T := ⟨_, _, _, _, join_nums i G v hi hG hv hv15⟩
  rw [← h.p2] at hm
  have h1 := h.w
  have h2 := h.p
  have h6 := h.p15
  clear h hv
  rcases hm with hm | hm
  · go_enter Tryd.func96, Tryd.ntmps96
    go_wp2
    go_ret2
    exact ⟨rfl, rfl⟩
  · have hm0 : ¬ m < 0 := by omega
    go_enter Tryd.func96, Tryd.ntmps96
    go_wp2
    go_ret2
    exact ⟨rfl, rfl⟩
end Go.Proofs.YtackcgiokkbhdaaDoor
