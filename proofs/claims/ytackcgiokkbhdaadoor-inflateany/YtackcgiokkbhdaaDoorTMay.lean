/- Layer 7: whether a token may be, in the program and by the document. -/
import Derived.Test.YtackcgiokkbhdaaDoorView
namespace Go.Proofs.YtackcgiokkbhdaaDoor
open Go.RowKit

theorem isLength (x : Int) (w : World) : Calls Tryd.prog 97 #[.int .i64 x] w fun e w' => e = .returned (.bool (isLen x)) ∧ w' = w := by
  by_cases h1 : 3 ≤ x
  · by_cases h2 : x ≤ 258
    · have hE : isLen x = true := by simp [isLen, h1, h2]
      rw [hE]
      go_enter Tryd.func97, Tryd.ntmps97
      go_wp2
      go_ret
      exact ⟨rfl, rfl⟩
    · have hE : isLen x = false := by simp [isLen, h2]
      rw [hE]
      go_enter Tryd.func97, Tryd.ntmps97
      go_wp2
      go_ret
      exact ⟨rfl, rfl⟩
  · have hE : isLen x = false := by simp [isLen, h1]
    rw [hE]
    go_enter Tryd.func97, Tryd.ntmps97
    go_wp2
    go_ret
    exact ⟨rfl, rfl⟩
theorem isDistance (x : Int) (w : World) : Calls Tryd.prog 99 #[.int .i64 x] w fun e w' => e = .returned (.bool (isDist x)) ∧ w' = w := by
  by_cases h1 : 1 ≤ x
  · by_cases h2 : x ≤ 32768
    · have hE : isDist x = true := by simp [isDist, h1, h2]
      rw [hE]
      go_enter Tryd.func99, Tryd.ntmps99
      go_wp2
      go_ret
      exact ⟨rfl, rfl⟩
    · have hE : isDist x = false := by simp [isDist, h2]
      rw [hE]
      go_enter Tryd.func99, Tryd.ntmps99
      go_wp2
      go_ret
      exact ⟨rfl, rfl⟩
  · have hE : isDist x = false := by simp [isDist, h1]
    rw [hE]
    go_enter Tryd.func99, Tryd.ntmps99
    go_wp2
    go_ret
    exact ⟨rfl, rfl⟩

def MayPost (t : Tk) (w : World) (e : Ending) (w' : World) : Prop := e = .returned (.bool (mayB t)) ∧ Only (fun _ => False) w w'

theorem may_n0 (b : UInt8) (n k : Int) (h : n = 0) : mayB ⟨b, n, k⟩ = decide (k = 0) := by simp [mayB, h]
theorem may_n1 (b : UInt8) (n k : Int) (h : ¬ n = 0) : mayB ⟨b, n, k⟩ = (isLen n && isDist k && decide (b.toNat = 0)) := by simp [mayB, h]

theorem rmay (t : Tk) (w : World) : Calls Tryd.prog 20 #[tkV t] w (MayPost t w) := by
  obtain ⟨b, n, k⟩ := t
  have h0 := may_n0 b n k
  have h1 := may_n1 b n k
  unfold MayPost tkV
  obtain ⟨r, hr⟩ : ∃ r, mayB ⟨b, n, k⟩ = r := ⟨_, rfl⟩
  obtain ⟨y, hy⟩ : ∃ y, b.toNat = y := ⟨_, rfl⟩
  simp only [hr, hy] at h0 h1 ⊢
  clear hr hy
  have HO := Lib.hid ((Only.refl (fun _ => False) w).alloc (.cells #[.int .u8 y, .int .i64 n, .int .i64 k] 62))
  by_cases hn : n = 0
  · have h2 := h0 hn
    clear h0 h1
    subst hn
    by_cases hk : k = 0
    · subst hk
      obtain rfl : r = true := by simpa using h2
      clear h2
      go_enter Tryd.func20, Tryd.ntmps20
      go_wp2
      go_ret
      exact ⟨rfl, HO.out⟩
    · obtain rfl : r = false := by simpa [hk] using h2
      clear h2
      have hk2 : (k == 0) = false := by simp [hk]
      go_enter Tryd.func20, Tryd.ntmps20
      go_wp2
      go_ret
      exact ⟨rfl, HO.out⟩
  · have h2 := h1 hn
    clear h0 h1
    have HR := Lib.hid h2
    clear h2
    by_cases g1 : 3 ≤ n
    · by_cases g2 : n ≤ 258
      · by_cases g3 : 1 ≤ k
        · by_cases g4 : k ≤ 32768
          · by_cases g5 : y = 0
            · subst g5
              obtain rfl : r = true := by simpa [isLen, isDist, g1, g2, g3, g4] using HR.out
              clear HR
              go_enter Tryd.func20, Tryd.ntmps20
              go_wp2
              go_ret
              exact ⟨rfl, HO.out⟩
            · obtain rfl : r = false := by simpa [isLen, isDist, g1, g2, g3, g4, g5] using HR.out
              clear HR
              have hy2 : ((y : Int) == 0) = false := by simp; omega
              go_enter Tryd.func20, Tryd.ntmps20
              go_wp2
              go_ret
              exact ⟨rfl, HO.out⟩
          · obtain rfl : r = false := by simpa [isLen, isDist, g1, g2, g3, g4] using HR.out
            clear HR
            go_enter Tryd.func20, Tryd.ntmps20
            go_wp2
            go_ret
            exact ⟨rfl, HO.out⟩
        · obtain rfl : r = false := by simpa [isLen, isDist, g1, g2, g3] using HR.out
          clear HR
          go_enter Tryd.func20, Tryd.ntmps20
          go_wp2
          go_ret
          exact ⟨rfl, HO.out⟩
      · obtain rfl : r = false := by simpa [isLen, isDist, g1, g2] using HR.out
        clear HR
        go_enter Tryd.func20, Tryd.ntmps20
        go_wp2
        go_ret
        exact ⟨rfl, HO.out⟩
    · obtain rfl : r = false := by simpa [isLen, isDist, g1] using HR.out
      clear HR
      go_enter Tryd.func20, Tryd.ntmps20
      go_wp2
      go_ret
      exact ⟨rfl, HO.out⟩
end Go.Proofs.YtackcgiokkbhdaaDoor
