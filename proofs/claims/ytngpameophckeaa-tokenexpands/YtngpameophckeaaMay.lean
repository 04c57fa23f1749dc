/- Layer 7: whether a token may be, in the program and by the document. -/
import Derived.Test.YtngpameophckeaaView
namespace Go.Proofs.Ytngpameophckeaa
open Go.RowKit

theorem isLength (x : Int) (w : World) : Calls Try.prog 20 #[.int .i64 x] w fun e w' => e = .returned (.bool (isLen x)) ∧ w' = w := by
  by_cases h1 : 3 ≤ x
  · by_cases h2 : x ≤ 258
    · have hE : isLen x = true := by simp [isLen, h1, h2]
      rw [hE]
      go_enter Try.func20, Try.ntmps20
      go_wp2
      go_ret
      exact ⟨rfl, rfl⟩
    · have hE : isLen x = false := by simp [isLen, h2]
      rw [hE]
      go_enter Try.func20, Try.ntmps20
      go_wp2
      go_ret
      exact ⟨rfl, rfl⟩
  · have hE : isLen x = false := by simp [isLen, h1]
    rw [hE]
    go_enter Try.func20, Try.ntmps20
    go_wp2
    go_ret
    exact ⟨rfl, rfl⟩
theorem isDistance (x : Int) (w : World) : Calls Try.prog 21 #[.int .i64 x] w fun e w' => e = .returned (.bool (isDist x)) ∧ w' = w := by
  by_cases h1 : 1 ≤ x
  · by_cases h2 : x ≤ 32768
    · have hE : isDist x = true := by simp [isDist, h1, h2]
      rw [hE]
      go_enter Try.func21, Try.ntmps21
      go_wp2
      go_ret
      exact ⟨rfl, rfl⟩
    · have hE : isDist x = false := by simp [isDist, h2]
      rw [hE]
      go_enter Try.func21, Try.ntmps21
      go_wp2
      go_ret
      exact ⟨rfl, rfl⟩
  · have hE : isDist x = false := by simp [isDist, h1]
    rw [hE]
    go_enter Try.func21, Try.ntmps21
    go_wp2
    go_ret
    exact ⟨rfl, rfl⟩

def MayPost (t : Tk) (w : World) (e : Ending) (w' : World) : Prop := e = .returned (.bool (mayB t)) ∧ Only (fun _ => False) w w'

theorem may_n0 (b : UInt8) (n k : Int) (h : n = 0) : mayB ⟨b, n, k⟩ = decide (k = 0) := by simp [mayB, h]
theorem may_n1 (b : UInt8) (n k : Int) (h : ¬ n = 0) : mayB ⟨b, n, k⟩ = (isLen n && isDist k && decide (b.toNat = 0)) := by simp [mayB, h]

set_option maxHeartbeats 1000000 in
theorem may (t : Tk) (w : World) : Calls Try.prog 9 #[tkV t] w (MayPost t w) := by
  obtain ⟨b, n, k⟩ := t
  have h0 := may_n0 b n k
  have h1 := may_n1 b n k
  unfold MayPost tkV
  obtain ⟨r, hr⟩ : ∃ r, mayB ⟨b, n, k⟩ = r := ⟨_, rfl⟩
  obtain ⟨y, hy⟩ : ∃ y, b.toNat = y := ⟨_, rfl⟩
  simp only [hr, hy] at h0 h1 ⊢
  clear hr hy
  have HO := Lib.hid ((Only.refl (fun _ => False) w).alloc (.cells #[.int .u8 y, .int .i64 n, .int .i64 k] 30))
  by_cases hn : n = 0
  · have h2 := h0 hn
    clear h0 h1
    subst hn
    by_cases hk : k = 0
    · subst hk
      obtain rfl : r = true := by simpa using h2
      clear h2
      go_enter Try.func9, Try.ntmps9
      go_wp2
      go_ret
      exact ⟨rfl, HO.out⟩
    · obtain rfl : r = false := by simpa [hk] using h2
      clear h2
      have hk2 : (k == 0) = false := by simp [hk]
      go_enter Try.func9, Try.ntmps9
      go_wp2
      go_ret
      exact ⟨rfl, HO.out⟩
  · have h2 := h1 hn
    clear h0 h1
    obtain ⟨p, hp⟩ : ∃ p, isLen n = p := ⟨_, rfl⟩
    obtain ⟨q, hq⟩ : ∃ q, isDist k = q := ⟨_, rfl⟩
    rw [hp, hq] at h2
    have HP := Lib.hid hp
    have HQ := Lib.hid hq
    have HR := Lib.hid h2
    clear hp hq h2
    cases p with
    | false =>
      obtain rfl : r = false := by simpa using HR.out
      clear HR
      go_enter Try.func9, Try.ntmps9
      go_wp2_with (first
        | (go_at_call 20; refine (isLength _ _).mono ?_; rintro e w' ⟨rfl, rfl⟩; rw [HP.out])
        | (go_at_call 21; refine (isDistance _ _).mono ?_; rintro e w' ⟨rfl, rfl⟩; rw [HQ.out]))
      go_ret
      exact ⟨rfl, HO.out⟩
    | true =>
      cases q with
      | false =>
        obtain rfl : r = false := by simpa using HR.out
        clear HR
        go_enter Try.func9, Try.ntmps9
        go_wp2_with (first
          | (go_at_call 20; refine (isLength _ _).mono ?_; rintro e w' ⟨rfl, rfl⟩; rw [HP.out])
          | (go_at_call 21; refine (isDistance _ _).mono ?_; rintro e w' ⟨rfl, rfl⟩; rw [HQ.out]))
        go_ret
        exact ⟨rfl, HO.out⟩
      | true =>
        by_cases hy : y = 0
        · subst hy
          obtain rfl : r = true := by simpa using HR.out
          clear HR
          go_enter Try.func9, Try.ntmps9
          go_wp2_with (first
            | (go_at_call 20; refine (isLength _ _).mono ?_; rintro e w' ⟨rfl, rfl⟩; rw [HP.out])
            | (go_at_call 21; refine (isDistance _ _).mono ?_; rintro e w' ⟨rfl, rfl⟩; rw [HQ.out]))
          go_ret
          exact ⟨rfl, HO.out⟩
        · obtain rfl : r = false := by simpa [hy] using HR.out
          clear HR
          have hy2 : ((y : Int) == 0) = false := by simp; omega
          go_enter Try.func9, Try.ntmps9
          go_wp2_with (first
            | (go_at_call 20; refine (isLength _ _).mono ?_; rintro e w' ⟨rfl, rfl⟩; rw [HP.out])
            | (go_at_call 21; refine (isDistance _ _).mono ?_; rintro e w' ⟨rfl, rfl⟩; rw [HQ.out]))
          go_ret
          exact ⟨rfl, HO.out⟩

/-- The same by the document. -/
theorem rmay (t : Tk) (w : World) : Calls Try.prog 10 #[tkV t] w (MayPost t w) := by
  obtain ⟨b, n, k⟩ := t
  have h0 := may_n0 b n k
  have h1 := may_n1 b n k
  unfold MayPost tkV
  obtain ⟨r, hr⟩ : ∃ r, mayB ⟨b, n, k⟩ = r := ⟨_, rfl⟩
  obtain ⟨y, hy⟩ : ∃ y, b.toNat = y := ⟨_, rfl⟩
  simp only [hr, hy] at h0 h1 ⊢
  clear hr hy
  have HO := Lib.hid ((Only.refl (fun _ => False) w).alloc (.cells #[.int .u8 y, .int .i64 n, .int .i64 k] 30))
  by_cases hn : n = 0
  · have h2 := h0 hn
    clear h0 h1
    subst hn
    by_cases hk : k = 0
    · subst hk
      obtain rfl : r = true := by simpa using h2
      clear h2
      go_enter Try.func10, Try.ntmps10
      go_wp2
      go_ret
      exact ⟨rfl, HO.out⟩
    · obtain rfl : r = false := by simpa [hk] using h2
      clear h2
      have hk2 : (k == 0) = false := by simp [hk]
      go_enter Try.func10, Try.ntmps10
      go_wp2
      go_ret
      exact ⟨rfl, HO.out⟩
  · have h2 := h1 hn
    clear h0 h1
    have HR := Lib.hid h2
    clear h2
    by_cases g1 : 3 ≤ n
    · by_cases g2 : n ≤ 258
      · by_cases g3 : 1 ≤ k
        · by_cases g4 : k ≤ 32768
          · by_cases g5 : y = 0
            · subst g5
              obtain rfl : r = true := by simpa [isLen, isDist, g1, g2, g3, g4] using HR.out
              clear HR
              go_enter Try.func10, Try.ntmps10
              go_wp2
              go_ret
              exact ⟨rfl, HO.out⟩
            · obtain rfl : r = false := by simpa [isLen, isDist, g1, g2, g3, g4, g5] using HR.out
              clear HR
              have hy2 : ((y : Int) == 0) = false := by simp; omega
              go_enter Try.func10, Try.ntmps10
              go_wp2
              go_ret
              exact ⟨rfl, HO.out⟩
          · obtain rfl : r = false := by simpa [isLen, isDist, g1, g2, g3, g4] using HR.out
            clear HR
            go_enter Try.func10, Try.ntmps10
            go_wp2
            go_ret
            exact ⟨rfl, HO.out⟩
        · obtain rfl : r = false := by simpa [isLen, isDist, g1, g2, g3] using HR.out
          clear HR
          go_enter Try.func10, Try.ntmps10
          go_wp2
          go_ret
          exact ⟨rfl, HO.out⟩
      · obtain rfl : r = false := by simpa [isLen, isDist, g1, g2] using HR.out
        clear HR
        go_enter Try.func10, Try.ntmps10
        go_wp2
        go_ret
        exact ⟨rfl, HO.out⟩
    · obtain rfl : r = false := by simpa [isLen, isDist, g1] using HR.out
      clear HR
      go_enter Try.func10, Try.ntmps10
      go_wp2
      go_ret
      exact ⟨rfl, HO.out⟩
end Go.Proofs.Ytngpameophckeaa
