/- Layer 7: what symbols say, in the program. -/
import Derived.Test.YtackcgiokkbhdaaDoorTLen
namespace Go.Proofs.YtackcgiokkbhdaaDoor
open Go.RowKit

set_option maxRecDepth 20000 in
set_option maxHeartbeats 2000000 in
theorem lengthOf_out (a c : Int) (w : World) (h : a < 257 ∨ 285 < a) : Calls Tryd.prog 81 #[.int .i64 a, .int .i64 c] w (TwoPost w 0 false) := by
  rcases h with h | h
  · go_enter Tryd.func81, Tryd.ntmps81
    go_wp2_with fail
    go_ret2
    exact ⟨rfl, Only.refl _ _⟩
  · have h2 : ¬ a < 257 := by omega
    go_enter Tryd.func81, Tryd.ntmps81
    go_wp2_with fail
    go_ret2
    exact ⟨rfl, Only.refl _ _⟩
set_option maxRecDepth 20000 in
set_option maxHeartbeats 2000000 in
theorem lengthOf_last (w : World) : Calls Tryd.prog 81 #[.int .i64 285, .int .i64 0] w (TwoPost w 258 true) := by
  go_enter Tryd.func81, Tryd.ntmps81
  go_wp2_with fail
  go_ret2
  exact ⟨rfl, Only.refl _ _⟩
set_option maxRecDepth 20000 in
set_option maxHeartbeats 2000000 in
theorem lengthOf_lastNo (c : Int) (w : World) (h : c ≠ 0) : Calls Tryd.prog 81 #[.int .i64 285, .int .i64 c] w (TwoPost w 0 false) := by
  go_enter Tryd.func81, Tryd.ntmps81
  go_wp2_with fail
  go_ret2
  exact ⟨rfl, Only.refl _ _⟩
set_option maxRecDepth 20000 in
set_option maxHeartbeats 2000000 in
theorem lengthOf_row (S s m T : Nat) (w : World) (hS : 257 + s = S) (hs : s < 28) (hT : T ≤ 254) (hj : ∀ w, Calls Tryd.prog 96 #[.int .i64 s, .int .i64 m, .int .i64 2] w (JoinPost w (T : Nat) true)) : Calls Tryd.prog 81 #[.int .i64 S, .int .i64 m] w (TwoPost w ((3 + T : Nat) : Int) true) := by
  have e : (S : Int) - 257 = (s : Int) := by omega
  have h1 : ((S : Int) == 285) = false := by simp; omega
  have h2 : ¬ (S : Int) = 285 := by omega
  have h3 : ((3 : Int) + (T : Int) == 258) = false := by simp; omega
  go_enter Tryd.func81, Tryd.ntmps81
  go_wp2_with (go_at_call 96; refine (hj _).mono ?_; rintro e w2 ⟨rfl, rfl⟩)
  go_ret2
  exact ⟨by simp, Only.refl _ _⟩
set_option maxRecDepth 20000 in
set_option maxHeartbeats 2000000 in
theorem lengthOf_rowNo (S s : Nat) (m : Int) (w : World) (hS : 257 + s = S) (hs : s < 28) (hj : ∀ w, Calls Tryd.prog 96 #[.int .i64 s, .int .i64 m, .int .i64 2] w (JoinPost w 0 false)) : Calls Tryd.prog 81 #[.int .i64 S, .int .i64 m] w (TwoPost w 0 false) := by
  have e : (S : Int) - 257 = (s : Int) := by omega
  have h1 : ((S : Int) == 285) = false := by simp; omega
  have h2 : ¬ (S : Int) = 285 := by omega
  go_enter Tryd.func81, Tryd.ntmps81
  go_wp2_with (go_at_call 96; refine (hj _).mono ?_; rintro e w2 ⟨rfl, rfl⟩)
  go_ret2
  exact ⟨rfl, Only.refl _ _⟩
set_option maxRecDepth 20000 in
set_option maxHeartbeats 2000000 in
theorem lengthOf_284 (w : World) : Calls Tryd.prog 81 #[.int .i64 284, .int .i64 31] w (TwoPost w 0 false) := by
  have hj : ∀ w, Calls Tryd.prog 96 #[.int .i64 27, .int .i64 31, .int .i64 2] w (JoinPost w 255 true) := fun w => joined_yes 27 2 5 31 w (by decide) (by decide) rfl (by decide) (by decide)
  go_enter Tryd.func81, Tryd.ntmps81
  go_wp2_with (go_at_call 96; refine (hj _).mono ?_; rintro e w2 ⟨rfl, rfl⟩)
  go_ret2
  exact ⟨rfl, Only.refl _ _⟩
theorem lengthOf (a c n : Int) (ok : Bool) (w : World) (h : LofIs a c n ok) : Calls Tryd.prog 81 #[.int .i64 a, .int .i64 c] w (TwoPost w n ok) := by
  cases h with
  | out _ _ h => exact lengthOf_out a c w h
  | last => exact lengthOf_last w
  | lastNo _ h => exact lengthOf_lastNo c w h
  | row s m hs hm h =>
    obtain ⟨k, hr, hf⟩ := lrowIs s hs
    have hv : lb s ≤ 15 := by unfold lb; split <;> omega
    have e : s - lb s * 2 ^ 2 = k := by have := hr.sym; omega
    have := lengthOf_row (257 + s) s m (k * 2 ^ lb s + m) w rfl hs (by omega) fun w => by
      have := joined_yes s 2 (lb s) m w (by omega) (by decide) hr.width hv hm
      rw [e] at this
      exact this
    rw [show 3 + (k * 2 ^ lb s + m) = lf s + m from by omega] at this
    exact this
  | rowNo s _ hs h =>
    obtain ⟨k, hr, hf⟩ := lrowIs s hs
    have hv : lb s ≤ 15 := by unfold lb; split <;> omega
    exact lengthOf_rowNo (257 + s) s c w rfl hs fun w => joined_no s 2 (lb s) c w (by omega) (by decide) hr.width hv h
  | row284 => exact lengthOf_284 w

set_option maxHeartbeats 2000000 in
theorem distanceOf_out (a c : Int) (w : World) (h : a < 0 ∨ 29 < a) : Calls Tryd.prog 84 #[.int .i64 a, .int .i64 c] w (TwoPost w 0 false) := by
  rcases h with h | h
  · go_enter Tryd.func84, Tryd.ntmps84
    go_wp2_with fail
    go_ret2
    exact ⟨rfl, Only.refl _ _⟩
  · have h2 : ¬ a < 0 := by omega
    have h3 : 30 ≤ a := by omega
    go_enter Tryd.func84, Tryd.ntmps84
    go_wp2_with fail
    go_ret2
    exact ⟨rfl, Only.refl _ _⟩
set_option maxHeartbeats 2000000 in
theorem distanceOf_row (s m T : Nat) (w : World) (hs : s < 30) (hT : T ≤ 32767) (hj : ∀ w, Calls Tryd.prog 96 #[.int .i64 s, .int .i64 m, .int .i64 1] w (JoinPost w (T : Nat) true)) : Calls Tryd.prog 84 #[.int .i64 s, .int .i64 m] w (TwoPost w ((1 + T : Nat) : Int) true) := by
  go_enter Tryd.func84, Tryd.ntmps84
  go_wp2_with (go_at_call 96; refine (hj _).mono ?_; rintro e w2 ⟨rfl, rfl⟩)
  go_ret2
  exact ⟨by simp, Only.refl _ _⟩
set_option maxHeartbeats 2000000 in
theorem distanceOf_rowNo (s : Nat) (m : Int) (w : World) (hs : s < 30) (hj : ∀ w, Calls Tryd.prog 96 #[.int .i64 s, .int .i64 m, .int .i64 1] w (JoinPost w 0 false)) : Calls Tryd.prog 84 #[.int .i64 s, .int .i64 m] w (TwoPost w 0 false) := by
  go_enter Tryd.func84, Tryd.ntmps84
  go_wp2_with (go_at_call 96; refine (hj _).mono ?_; rintro e w2 ⟨rfl, rfl⟩)
  go_ret2
  exact ⟨rfl, Only.refl _ _⟩
theorem distanceOf (a c n : Int) (ok : Bool) (w : World) (h : DofIs a c n ok) : Calls Tryd.prog 84 #[.int .i64 a, .int .i64 c] w (TwoPost w n ok) := by
  cases h with
  | out _ _ h => exact distanceOf_out a c w h
  | row s m hs hm =>
    obtain ⟨k, hr, hf⟩ := drowIs s hs
    have hv : db s ≤ 15 := by unfold db; split <;> omega
    have ht := df_top ⟨s, hs⟩
    simp only at ht
    have e : s - db s * 2 ^ 1 = k := by have := hr.sym; omega
    have := distanceOf_row s m (k * 2 ^ db s + m) w hs (by omega) fun w => by
      have := joined_yes s 1 (db s) m w (by omega) (by decide) hr.width hv hm
      rw [e] at this
      exact this
    rw [show 1 + (k * 2 ^ db s + m) = df s + m from by omega] at this
    exact this
  | rowNo s _ hs h =>
    obtain ⟨k, hr, hf⟩ := drowIs s hs
    have hv : db s ≤ 15 := by unfold db; split <;> omega
    exact distanceOf_rowNo s c w hs fun w => joined_no s 1 (db s) c w (by omega) (by decide) hr.width hv h
end Go.Proofs.YtackcgiokkbhdaaDoor
