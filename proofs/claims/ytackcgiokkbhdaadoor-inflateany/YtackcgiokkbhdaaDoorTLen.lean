/- Layer 7: the symbols of lengths and distances, and what they say, in the program. -/
import Derived.Test.YtackcgiokkbhdaaDoorTMay
import Derived.Test.YtackcgiokkbhdaaDoorTSplit
import Derived.Test.YtackcgiokkbhdaaDoorSay
namespace Go.Proofs.YtackcgiokkbhdaaDoor
open Go.RowKit

def FourPost (w : World) (a b c : Int) (ok : Bool) (e : Ending) (w' : World) : Prop := e = .returned (.tuple #[.int .i64 a, .int .i64 b, .int .i64 c, .bool ok]) ∧ Only (fun _ => False) w w'
def TwoPost (w : World) (r : Int) (ok : Bool) (e : Ending) (w' : World) : Prop := e = .returned (.tuple #[.int .i64 r, .bool ok]) ∧ Only (fun _ => False) w w'
/-- Results that lie in slots, however many but one. -/
theorem results_slots {P : Program} {fn : Func} {w : World} {tmps : Array Value} (ts : List Tmp) (hl : ts.length ≠ 1) (h : fn.results.toList = ts.map ResultVar.tmp) : Sem.run P (results fn tmps) w = .ok (.tuple (ts.map fun t => tmps.getD t undef).toArray) w := by
  have e : fn.results = (ts.map ResultVar.tmp).toArray := by rw [← h]
  unfold results
  rw [e, List.mapM_toArray, List.mapM_map]
  simp only [Function.comp_def, List.mapM_pure, map_pure, pure_bind, List.size_toArray, List.length_map, dif_neg hl, Sem.run_pure]

set_option maxRecDepth 20000 in
set_option maxHeartbeats 2000000 in
theorem length_no (n : Int) (w : World) (h : n < 3 ∨ 258 < n) : Calls Tryd.prog 82 #[.int .i64 n] w (FourPost w 0 0 0 false) := by
  have HL : Hid (isLen n = false) := Lib.hid (by simp [isLen]; omega)
  clear h
  go_enter Tryd.func82, Tryd.ntmps82
  go_wp2_with (go_at_call 97; refine (isLength _ _).mono ?_; rintro e w' ⟨rfl, rfl⟩; rw [HL.out])
  (try simp only [Exit.inBlock, Exit.then]); refine bodyPost_ret (results_slots [2, 3, 4, 5] (by decide) rfl) rfl ?_
  exact ⟨rfl, Only.refl _ _⟩
set_option maxRecDepth 20000 in
set_option maxHeartbeats 2000000 in
theorem length_last (w : World) : Calls Tryd.prog 82 #[.int .i64 258] w (FourPost w 285 0 0 true) := by
  have HL : Hid (isLen 258 = true) := Lib.hid rfl
  go_enter Tryd.func82, Tryd.ntmps82
  go_wp2_with (go_at_call 97; refine (isLength _ _).mono ?_; rintro e w' ⟨rfl, rfl⟩; rw [HL.out])
  (try simp only [Exit.inBlock, Exit.then]); refine bodyPost_ret (results_slots [2, 3, 4, 5] (by decide) rfl) rfl ?_
  exact ⟨rfl, Only.refl _ _⟩
set_option maxRecDepth 20000 in
set_option maxHeartbeats 2000000 in
theorem length_row (N X v i m : Nat) (w : World) (h3 : X + 3 = N) (h : N ≤ 257) (hi : i ≤ 29) (hs : ∀ w, Calls Tryd.prog 98 #[.int .i64 X, .int .i64 2] w (SplitPost w i v m)) : Calls Tryd.prog 82 #[.int .i64 N] w (FourPost w ((257 + i : Nat) : Int) (v : Nat) (m : Nat) true) := by
  have HL : Hid (isLen N = true) := Lib.hid (by simp [isLen]; omega)
  have e : (N : Int) - 3 = (X : Int) := by omega
  have hN : ((N : Int) == 258) = false := by simp; omega
  have hN2 : ¬ (N : Int) = 258 := by omega
  go_enter Tryd.func82, Tryd.ntmps82
  go_wp2_with (first
    | (go_at_call 97; refine (isLength _ _).mono ?_; rintro e w' ⟨rfl, rfl⟩; rw [HL.out])
    | (go_at_call 98; refine (hs _).mono ?_; rintro e w2 ⟨rfl, ho⟩; have HO := Lib.hid ho; clear ho))
  (try simp only [Exit.inBlock, Exit.then]); refine bodyPost_ret (results_slots [2, 3, 4, 5] (by decide) rfl) rfl ?_
  exact ⟨by simp, HO.out⟩
theorem length (n a b c : Int) (ok : Bool) (w : World) (h : LenIs n a b c ok) : Calls Tryd.prog 82 #[.int .i64 n] w (FourPost w a b c ok) := by
  cases h with
  | no _ h => exact length_no n w h
  | last => exact length_last w
  | row s m hs hm h =>
    obtain ⟨k, hr, hf⟩ := lrowIs s hs
    have hx : k * 2 ^ lb s + m ≤ 32767 := by omega
    obtain ⟨b1, b2, b3, b4⟩ := hr.bits (.inr rfl) m hm hx
    refine length_row (lf s + m) (k * 2 ^ lb s + m) (lb s) s m w (by omega) h (by omega) fun w => ?_
    have := split (k * 2 ^ lb s + m) 2 _ (lb s) w hx rfl b2 (by decide) b1
    rw [b3, b4, hr.sym] at this
    exact this

set_option maxRecDepth 20000 in
set_option maxHeartbeats 2000000 in
theorem distance_no (n : Int) (w : World) (h : n < 1 ∨ 32768 < n) : Calls Tryd.prog 85 #[.int .i64 n] w (FourPost w 0 0 0 false) := by
  have HL : Hid (isDist n = false) := Lib.hid (by simp [isDist]; omega)
  clear h
  go_enter Tryd.func85, Tryd.ntmps85
  go_wp2_with (go_at_call 99; refine (isDistance _ _).mono ?_; rintro e w' ⟨rfl, rfl⟩; rw [HL.out])
  (try simp only [Exit.inBlock, Exit.then]); refine bodyPost_ret (results_slots [2, 3, 4, 5] (by decide) rfl) rfl ?_
  exact ⟨rfl, Only.refl _ _⟩
set_option maxRecDepth 20000 in
set_option maxHeartbeats 2000000 in
theorem distance_row (N X v i m : Nat) (w : World) (h3 : X + 1 = N) (h : N ≤ 32768) (hs : ∀ w, Calls Tryd.prog 98 #[.int .i64 X, .int .i64 1] w (SplitPost w i v m)) : Calls Tryd.prog 85 #[.int .i64 N] w (FourPost w (i : Nat) (v : Nat) (m : Nat) true) := by
  have HL : Hid (isDist N = true) := Lib.hid (by simp [isDist]; omega)
  have e : (N : Int) - 1 = (X : Int) := by omega
  go_enter Tryd.func85, Tryd.ntmps85
  go_wp2_with (first
    | (go_at_call 99; refine (isDistance _ _).mono ?_; rintro e w' ⟨rfl, rfl⟩; rw [HL.out])
    | (go_at_call 98; refine (hs _).mono ?_; rintro e w2 ⟨rfl, ho⟩; have HO := Lib.hid ho; clear ho))
  (try simp only [Exit.inBlock, Exit.then]); refine bodyPost_ret (results_slots [2, 3, 4, 5] (by decide) rfl) rfl ?_
  exact ⟨by simp, HO.out⟩
theorem df_top : ∀ s : Fin 30, df s.val + 2 ^ db s.val ≤ 32769 := by decide +kernel
theorem distance (n a b c : Int) (ok : Bool) (w : World) (h : DistIs n a b c ok) : Calls Tryd.prog 85 #[.int .i64 n] w (FourPost w a b c ok) := by
  cases h with
  | no _ h => exact distance_no n w h
  | row s m hs hm =>
    obtain ⟨k, hr, hf⟩ := drowIs s hs
    have ht := df_top ⟨s, hs⟩
    simp only at ht
    have hx : k * 2 ^ db s + m ≤ 32767 := by omega
    obtain ⟨b1, b2, b3, b4⟩ := hr.bits (.inl rfl) m hm hx
    refine distance_row (df s + m) (k * 2 ^ db s + m) (db s) s m w (by omega) (by omega) fun w => ?_
    have := split (k * 2 ^ db s + m) 1 _ (db s) w hx rfl b2 (by decide) b1
    rw [b3, b4, hr.sym] at this
    exact this
end Go.Proofs.YtackcgiokkbhdaaDoor
