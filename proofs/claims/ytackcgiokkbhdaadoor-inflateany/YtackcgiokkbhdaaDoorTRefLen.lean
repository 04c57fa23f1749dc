/- Layer 7: the symbols of lengths and distances, and what they say, by the document. -/
import Derived.Test.YtackcgiokkbhdaaDoorTFind
import Derived.Test.YtackcgiokkbhdaaDoorSay
import Derived.Test.YtackcgiokkbhdaaDoorTLen
namespace Go.Proofs.YtackcgiokkbhdaaDoor
open Go.RowKit

theorem lrows_length : lrows.length = 29 := by simp [lrows]
theorem drows_length : drows.length = 30 := by simp [drows]
theorem lrows_at (s : Nat) (h : s < 28) : lrows[s]? = some (lrow s) := by
  unfold lrows
  rw [List.getElem?_append_left (by simpa using h)]
  simp [h]
theorem lrows_last : lrows[28]? = some ⟨285, 258, 0⟩ := by
  unfold lrows
  rw [List.getElem?_append_right (by simp)]
  simp
theorem drows_at (s : Nat) (h : s < 30) : drows[s]? = some (drow s) := by simp [drows, h]
theorem lrows_any (j : Nat) (q : Sy) (h : lrows[j]? = some q) : (j < 28 ∧ q = lrow j) ∨ (j = 28 ∧ q = ⟨285, 258, 0⟩) := by
  have hj : j < 29 := by
    rcases Nat.lt_or_ge j 29 with h1 | h1
    · exact h1
    · rw [List.getElem?_eq_none (by rw [lrows_length]; exact h1)] at h; cases h
  rcases Nat.lt_or_ge j 28 with h1 | h1
  · rw [lrows_at j h1] at h
    exact .inl ⟨h1, (Option.some.inj h).symm⟩
  · obtain rfl : j = 28 := by omega
    rw [lrows_last] at h
    exact .inr ⟨rfl, (Option.some.inj h).symm⟩
theorem drows_any (j : Nat) (q : Sy) (h : drows[j]? = some q) : j < 30 ∧ q = drow j := by
  have hj : j < 30 := by
    rcases Nat.lt_or_ge j 30 with h1 | h1
    · exact h1
    · rw [List.getElem?_eq_none (by rw [drows_length]; exact h1)] at h; cases h
  rw [drows_at j hj] at h
  exact ⟨hj, (Option.some.inj h).symm⟩
theorem lf_mono (s : Nat) : ∀ d, lf s ≤ lf (s + d)
  | 0 => Nat.le_refl _
  | d + 1 => Nat.le_trans (lf_mono s d) (by rw [← Nat.add_assoc, lf]; exact Nat.le_add_right _ _)
theorem df_mono (s : Nat) : ∀ d, df s ≤ df (s + d)
  | 0 => Nat.le_refl _
  | d + 1 => Nat.le_trans (df_mono s d) (by rw [← Nat.add_assoc, df]; exact Nat.le_add_right _ _)

set_option maxRecDepth 20000 in
set_option maxHeartbeats 2000000 in
theorem rlength_no (n : Int) (w : World) (h : n < 3 ∨ 258 < n) : Calls Tryd.prog 25 #[.int .i64 n] w (FourPost w 0 0 0 false) := by
  rcases h with h | h
  · go_enter Tryd.func25, Tryd.ntmps25
    go_wp2_with fail
    (try simp only [Exit.inBlock, Exit.then]); refine bodyPost_ret (results_slots [2, 3, 4, 5] (by decide) rfl) rfl ?_
    exact ⟨rfl, Only.refl _ _⟩
  · have h2 : ¬ n < 3 := by omega
    go_enter Tryd.func25, Tryd.ntmps25
    go_wp2_with fail
    (try simp only [Exit.inBlock, Exit.then]); refine bodyPost_ret (results_slots [2, 3, 4, 5] (by decide) rfl) rfl ?_
    exact ⟨rfl, Only.refl _ _⟩
set_option maxRecDepth 20000 in
set_option maxHeartbeats 2000000 in
theorem rlength_yes (n : Int) (w : World) (i0 : Nat) (r : Sy) (h1 : 3 ≤ n) (h2 : n ≤ 258) (hi : lrows[i0]? = some r) (hle : (r.f : Int) ≤ n) (hgt : ∀ (j : Nat) (q : Sy), i0 < j → lrows[j]? = some q → n < q.f) : Calls Tryd.prog 25 #[.int .i64 n] w (FourPost w (r.s : Nat) (r.b : Nat) (n - r.f) true) := by
  obtain ⟨x, hx⟩ : ∃ x, n - (r.f : Int) = x := ⟨_, rfl⟩
  have HF : Hid (∀ (A : Option Addr) (c B : Nat) (w : World), See w B A (sys lrows) → Calls Tryd.prog 35 #[.slice A 29 c, .int .i64 n] w (FindPost w r.s r.b x)) := Lib.hid fun A c B w hs => hx ▸ rfind A 29 c B lrows n w i0 r hs lrows_length (by decide) hi hle (by omega) hgt
  rw [hx]
  obtain ⟨rs, rf, rb⟩ := r
  simp only at HF ⊢
  clear hi hle hgt hx
  go_enter Tryd.func25, Tryd.ntmps25
  go_wp2_with (first
    | (go_at_call 36; refine (rlengths _).mono ?_; rintro e w2 ⟨A, c, rfl, hm⟩; have HM := Lib.hid hm; clear hm)
    | (go_at_call 35; refine (HF.out A c _ w2 HM.out.1.see).mono ?_; rintro e w3 ⟨rfl, ho⟩; have HO := Lib.hid ho; clear ho))
  (try simp only [Exit.inBlock, Exit.then]); refine bodyPost_ret (results_slots [2, 3, 4, 5] (by decide) rfl) rfl ?_
  exact ⟨rfl, HM.out.2.1.trans HO.out⟩
theorem rlength (n a b c : Int) (ok : Bool) (w : World) (h : LenIs n a b c ok) : Calls Tryd.prog 25 #[.int .i64 n] w (FourPost w a b c ok) := by
  cases h with
  | no _ h => exact rlength_no n w h
  | last =>
    exact rlength_yes 258 w 28 ⟨285, 258, 0⟩ (by decide) (by decide) lrows_last (by decide) fun j q hj hq => by
      rcases lrows_any j q hq with ⟨h1, _⟩ | ⟨h1, _⟩ <;> omega
  | row s m hs hm h =>
    have h0 : 3 ≤ lf s := by have := lf_mono 0 s; rw [Nat.zero_add] at this; exact this
    have := rlength_yes ((lf s + m : Nat) : Int) w s (lrow s) (by omega) (by omega) (lrows_at s hs) (by show (lf s : Int) ≤ _; omega) fun j q hj hq => by
      rcases lrows_any j q hq with ⟨h1, rfl⟩ | ⟨h1, rfl⟩
      · show _ < (lf j : Int)
        have h2 := lf_mono (s + 1) (j - (s + 1))
        rw [show s + 1 + (j - (s + 1)) = j from by omega, lf] at h2
        omega
      · show _ < ((258 : Nat) : Int)
        omega
    rw [show ((lf s + m : Nat) : Int) - ((lrow s).f : Int) = (m : Int) from by show ((lf s + m : Nat) : Int) - (lf s : Int) = (m : Int); omega] at this
    exact this

set_option maxRecDepth 20000 in
set_option maxHeartbeats 2000000 in
theorem rdistance_no (n : Int) (w : World) (h : n < 1 ∨ 32768 < n) : Calls Tryd.prog 26 #[.int .i64 n] w (FourPost w 0 0 0 false) := by
  rcases h with h | h
  · go_enter Tryd.func26, Tryd.ntmps26
    go_wp2_with fail
    (try simp only [Exit.inBlock, Exit.then]); refine bodyPost_ret (results_slots [2, 3, 4, 5] (by decide) rfl) rfl ?_
    exact ⟨rfl, Only.refl _ _⟩
  · have h2 : ¬ n < 1 := by omega
    go_enter Tryd.func26, Tryd.ntmps26
    go_wp2_with fail
    (try simp only [Exit.inBlock, Exit.then]); refine bodyPost_ret (results_slots [2, 3, 4, 5] (by decide) rfl) rfl ?_
    exact ⟨rfl, Only.refl _ _⟩
set_option maxRecDepth 20000 in
set_option maxHeartbeats 2000000 in
theorem rdistance_yes (n : Int) (w : World) (i0 : Nat) (r : Sy) (h1 : 1 ≤ n) (h2 : n ≤ 32768) (hi : drows[i0]? = some r) (hle : (r.f : Int) ≤ n) (hgt : ∀ (j : Nat) (q : Sy), i0 < j → drows[j]? = some q → n < q.f) : Calls Tryd.prog 26 #[.int .i64 n] w (FourPost w (r.s : Nat) (r.b : Nat) (n - r.f) true) := by
  obtain ⟨x, hx⟩ : ∃ x, n - (r.f : Int) = x := ⟨_, rfl⟩
  have HF : Hid (∀ (A : Option Addr) (c B : Nat) (w : World), See w B A (sys drows) → Calls Tryd.prog 35 #[.slice A 30 c, .int .i64 n] w (FindPost w r.s r.b x)) := Lib.hid fun A c B w hs => hx ▸ rfind A 30 c B drows n w i0 r hs drows_length (by decide) hi hle (by omega) hgt
  rw [hx]
  obtain ⟨rs, rf, rb⟩ := r
  simp only at HF ⊢
  clear hi hle hgt hx
  go_enter Tryd.func26, Tryd.ntmps26
  go_wp2_with (first
    | (go_at_call 37; refine (rdistances _).mono ?_; rintro e w2 ⟨A, c, rfl, hm⟩; have HM := Lib.hid hm; clear hm)
    | (go_at_call 35; refine (HF.out A c _ w2 HM.out.1.see).mono ?_; rintro e w3 ⟨rfl, ho⟩; have HO := Lib.hid ho; clear ho))
  (try simp only [Exit.inBlock, Exit.then]); refine bodyPost_ret (results_slots [2, 3, 4, 5] (by decide) rfl) rfl ?_
  exact ⟨rfl, HM.out.2.1.trans HO.out⟩
theorem rdistance (n a b c : Int) (ok : Bool) (w : World) (h : DistIs n a b c ok) : Calls Tryd.prog 26 #[.int .i64 n] w (FourPost w a b c ok) := by
  cases h with
  | no _ h => exact rdistance_no n w h
  | row s m hs hm =>
    have h0 : 1 ≤ df s := by have := df_mono 0 s; rw [Nat.zero_add] at this; exact this
    have ht := df_top ⟨s, hs⟩
    simp only at ht
    have := rdistance_yes ((df s + m : Nat) : Int) w s (drow s) (by omega) (by omega) (drows_at s hs) (by show (df s : Int) ≤ _; omega) fun j q hj hq => by
      obtain ⟨h1, rfl⟩ := drows_any j q hq
      show _ < (df j : Int)
      have h2 := df_mono (s + 1) (j - (s + 1))
      rw [show s + 1 + (j - (s + 1)) = j from by omega, df] at h2
      omega
    rw [show ((df s + m : Nat) : Int) - ((drow s).f : Int) = (m : Int) from by show ((df s + m : Nat) : Int) - (df s : Int) = (m : Int); omega] at this
    exact this

set_option maxRecDepth 20000 in
set_option maxHeartbeats 2000000 in
theorem rlengthOf_any (a c n : Int) (ok : Bool) (w : World) (h : ¬ (a = 284 ∧ c = 31)) (hof : ∀ (A : Option Addr) (k B : Nat) (w : World), See w B A (sys lrows) → Calls Tryd.prog 79 #[.slice A 29 k, .int .i64 a, .int .i64 c] w (SofPost w n ok)) : Calls Tryd.prog 66 #[.int .i64 a, .int .i64 c] w (TwoPost w n ok) := by
  have HF := Lib.hid hof
  clear hof
  by_cases h1 : a = 284
  · have h2 : ¬ c = 31 := fun e => h ⟨h1, e⟩
    have h3 : (c == 31) = false := by simp [h2]
    subst h1
    clear h
    go_enter Tryd.func66, Tryd.ntmps66
    go_wp2_with (first
      | (go_at_call 36; refine (rlengths _).mono ?_; rintro e w2 ⟨A, k, rfl, hm⟩; have HM := Lib.hid hm; clear hm)
      | (go_at_call 79; refine (HF.out A k _ w2 HM.out.1.see).mono ?_; rintro e w3 ⟨rfl, rfl⟩))
    go_ret2
    exact ⟨rfl, HM.out.2.1⟩
  · have h3 : (a == 284) = false := by simp [h1]
    clear h
    go_enter Tryd.func66, Tryd.ntmps66
    go_wp2_with (first
      | (go_at_call 36; refine (rlengths _).mono ?_; rintro e w2 ⟨A, k, rfl, hm⟩; have HM := Lib.hid hm; clear hm)
      | (go_at_call 79; refine (HF.out A k _ w2 HM.out.1.see).mono ?_; rintro e w3 ⟨rfl, rfl⟩))
    go_ret2
    exact ⟨rfl, HM.out.2.1⟩
set_option maxRecDepth 20000 in
set_option maxHeartbeats 2000000 in
theorem rlengthOf_284 (w : World) : Calls Tryd.prog 66 #[.int .i64 284, .int .i64 31] w (TwoPost w 0 false) := by
  go_enter Tryd.func66, Tryd.ntmps66
  go_wp2_with fail
  go_ret2
  exact ⟨rfl, Only.refl _ _⟩
theorem lb15 (s : Nat) (h : s < 28) : lb s ≤ 15 := Nat.le_trans (lb_le s h) (by decide)
theorem db15 (s : Nat) (h : s < 30) : db s ≤ 15 := Nat.le_trans (db_le s h) (by decide)
theorem lrows_bits (j : Nat) (q : Sy) (h : lrows[j]? = some q) : q.b ≤ 15 := by
  rcases lrows_any j q h with ⟨h1, rfl⟩ | ⟨h1, rfl⟩
  · exact lb15 j h1
  · exact Nat.zero_le _
theorem drows_bits (j : Nat) (q : Sy) (h : drows[j]? = some q) : q.b ≤ 15 := by
  obtain ⟨h1, rfl⟩ := drows_any j q h
  exact db15 j h1
theorem rlengthOf (a c n : Int) (ok : Bool) (w : World) (h : LofIs a c n ok) : Calls Tryd.prog 66 #[.int .i64 a, .int .i64 c] w (TwoPost w n ok) := by
  cases h with
  | out _ _ h =>
    refine rlengthOf_any a c 0 false w (by omega) fun A k B w hs => rof_no A 29 k B lrows a c w hs lrows_length (by decide) lrows_bits fun j q hq => .inl ?_
    rcases lrows_any j q hq with ⟨h1, rfl⟩ | ⟨h1, rfl⟩
    · show ((257 + j : Nat) : Int) ≠ a
      omega
    · show ((285 : Nat) : Int) ≠ a
      omega
  | last =>
    refine rlengthOf_any 285 0 258 true w (by omega) fun A k B w hs => rof_yes A 29 k B lrows 0 w 28 ⟨285, 258, 0⟩ hs lrows_length (by decide) lrows_last (by decide) (by decide) (by decide) (by decide) fun j q hj hq => ?_
    rcases lrows_any j q hq with ⟨h1, rfl⟩ | ⟨h1, rfl⟩
    · show 257 + j ≠ 285
      omega
    · omega
  | lastNo _ h =>
    refine rlengthOf_any 285 c 0 false w (by omega) fun A k B w hs => rof_no A 29 k B lrows 285 c w hs lrows_length (by decide) lrows_bits fun j q hq => ?_
    rcases lrows_any j q hq with ⟨h1, rfl⟩ | ⟨h1, rfl⟩
    · left
      show ((257 + j : Nat) : Int) ≠ 285
      omega
    · right
      show c < 0 ∨ ((2 ^ 0 : Nat) : Int) ≤ c
      omega
  | row s m hs hm h =>
    have h27 : ¬ (((257 + s : Nat) : Int) = 284 ∧ (m : Int) = 31) := by
      rintro ⟨h1, h2⟩
      obtain rfl : s = 27 := by omega
      have e : lf 27 = 227 := by decide +kernel
      omega
    refine rlengthOf_any ((257 + s : Nat) : Int) m _ true w h27 fun A k B w hS => rof_yes A 29 k B lrows m w s (lrow s) hS lrows_length (by decide) (lrows_at s hs) (lb15 s hs) (Nat.le_trans (lf_le s (by omega)) (by decide)) (by show 257 + s ≤ 1000; omega) hm fun j q hj hq => ?_
    rcases lrows_any j q hq with ⟨h1, rfl⟩ | ⟨h1, rfl⟩
    · show 257 + j ≠ 257 + s
      omega
    · omega
  | rowNo s _ hs h =>
    have h27 : ¬ (((257 + s : Nat) : Int) = 284 ∧ c = 31) := by
      rintro ⟨h1, h2⟩
      obtain rfl : s = 27 := by omega
      have e : lb 27 = 5 := by decide +kernel
      rw [e] at h
      omega
    refine rlengthOf_any ((257 + s : Nat) : Int) c 0 false w h27 fun A k B w hS => rof_no A 29 k B lrows _ c w hS lrows_length (by decide) lrows_bits fun j q hq => ?_
    rcases lrows_any j q hq with ⟨h1, rfl⟩ | ⟨h1, rfl⟩
    · by_cases e : j = s
      · subst e
        exact .inr h
      · left
        show ((257 + j : Nat) : Int) ≠ ((257 + s : Nat) : Int)
        omega
    · left
      show ((285 : Nat) : Int) ≠ ((257 + s : Nat) : Int)
      omega
  | row284 => exact rlengthOf_284 w

set_option maxHeartbeats 2000000 in
theorem rdistanceOf_any (a c n : Int) (ok : Bool) (w : World) (hof : ∀ (A : Option Addr) (k B : Nat) (w : World), See w B A (sys drows) → Calls Tryd.prog 79 #[.slice A 30 k, .int .i64 a, .int .i64 c] w (SofPost w n ok)) : Calls Tryd.prog 68 #[.int .i64 a, .int .i64 c] w (TwoPost w n ok) := by
  have HF := Lib.hid hof
  clear hof
  go_enter Tryd.func68, Tryd.ntmps68
  go_wp2_with (first
    | (go_at_call 37; refine (rdistances _).mono ?_; rintro e w2 ⟨A, k, rfl, hm⟩; have HM := Lib.hid hm; clear hm)
    | (go_at_call 79; refine (HF.out A k _ w2 HM.out.1.see).mono ?_; rintro e w3 ⟨rfl, rfl⟩))
  go_ret2
  exact ⟨rfl, HM.out.2.1⟩
theorem rdistanceOf (a c n : Int) (ok : Bool) (w : World) (h : DofIs a c n ok) : Calls Tryd.prog 68 #[.int .i64 a, .int .i64 c] w (TwoPost w n ok) := by
  cases h with
  | out _ _ h =>
    refine rdistanceOf_any a c 0 false w fun A k B w hs => rof_no A 30 k B drows a c w hs drows_length (by decide) drows_bits fun j q hq => .inl ?_
    obtain ⟨h1, rfl⟩ := drows_any j q hq
    show ((j : Nat) : Int) ≠ a
    omega
  | row s m hs hm =>
    refine rdistanceOf_any s m _ true w fun A k B w hS => rof_yes A 30 k B drows m w s (drow s) hS drows_length (by decide) (drows_at s hs) (db15 s hs) (Nat.le_trans (df_le s (by omega)) (by decide)) (by show s ≤ 1000; omega) hm fun j q hj hq => ?_
    obtain ⟨h1, rfl⟩ := drows_any j q hq
    show j ≠ s
    omega
  | rowNo s _ hs h =>
    refine rdistanceOf_any s c 0 false w fun A k B w hS => rof_no A 30 k B drows _ c w hS drows_length (by decide) drows_bits fun j q hq => ?_
    obtain ⟨h1, rfl⟩ := drows_any j q hq
    by_cases e : j = s
    · subst e
      exact .inr h
    · left
      show ((j : Nat) : Int) ≠ ((s : Nat) : Int)
      omega
end Go.Proofs.YtackcgiokkbhdaaDoor
