/- Layer 5: the document's Check. -/
import Derived.Test.YtackcgiokkbhdaaDoorKinds
namespace Go.Proofs.YtackcgiokkbhdaaDoor
open Go.RowKit

theorem rcheck_no (A : Option Addr) (n c B : Nat) (z : List Int) (w : World) (h : See w B A (zints z)) (hn : z.length = n) (h300 : n ≤ 300) (hz : ¬ Okay z) :
    Calls Tryd.prog 44 #[.slice A n c] w fun e w' => e = .returned (.tuple #[.int .i64 0, .int .i64 1]) ∧ w = w' := by
  have HC := Lib.hid (right_no A n c B z w h hn h300 hz)
  clear h hn hz
  go_enter Tryd.func44, Tryd.ntmps44
  go_wp2_with fail
  refine HC.out.mono ?_
  rintro e w' ⟨rfl, rfl⟩
  go_wp2
  go_ret2
  exact ⟨rfl, rfl⟩

theorem one_of (l : List Nat) (hl : Low l) (h : st l 16 = 1) : 1 ≤ lst 0 l ∧ fu l 16 = 2 ^ (15 - lst 0 l) := by
  rw [st_sum l hl] at h
  have := lst_one l 0 hl h
  rw [fu_sum l hl]
  exact ⟨this.1, this.2.2⟩
theorem one_is (l : List Nat) (hl : Low l) (h : st l 16 = 1) : lst 0 l = 1 ↔ fu l 16 = 16384 := by
  obtain ⟨h1, h2⟩ := one_of l hl h
  constructor
  · intro e; rw [h2, e]
  · intro e
    rw [h2] at e
    have : 2 ^ 14 = 2 ^ (15 - lst 0 l) := by omega
    have := (Nat.pow_right_inj (a := 2) (by decide)).1 this
    omega
theorem one_not (l : List Nat) (hl : Low l) (h : st l 16 = 1) : fu l 16 ≠ 32768 := by
  obtain ⟨h1, h2⟩ := one_of l hl h
  intro e
  rw [h2] at e
  have : 2 ^ 15 = 2 ^ (15 - lst 0 l) := by omega
  have := (Nat.pow_right_inj (a := 2) (by decide)).1 this
  omega

set_option maxHeartbeats 1000000 in
theorem rcheck_yes (A : Option Addr) (n c B : Nat) (l : List Nat) (w : World) (h : See w B A (ints l)) (hn : l.length = n) (h288 : n ≤ 288) (hl : Low l) :
    Calls Tryd.prog 44 #[.slice A n c] w fun e w' => e = .returned (.tuple #[.int .i64 (kd l).1, .int .i64 (kd l).2]) ∧ w = w' := by
  have HC := Lib.hid (right_yes A n c B l w h hn h288 hl)
  have HS := Lib.hid h
  have HL := Lib.hid hl
  have HN := Lib.hid hn
  clear h hl hn
  go_enter Tryd.func44, Tryd.ntmps44
  go_wp2_with fail
  refine HC.out.mono ?_
  rintro e w' ⟨rfl, rfl⟩
  clear HC
  go_wp2_with fail
  go_loopg [4, 5, 6, 7] n (fun gk f m o i wx => ∃ k : Nat, i = .int .i64 k ∧ f = .int .i64 (sumBy wt (l.take k) : Nat) ∧ m = .int .i64 (sumBy on (l.take k) : Nat) ∧ o = .int .i64 (lst 0 (l.take k) : Nat) ∧ k + gk ≤ n ∧ n ≤ k + gk ∧ wx = w)
  case atStart => exact ⟨0, rfl, rfl, rfl, rfl, by omega, by omega, rfl⟩
  case round =>
    obtain ⟨k, rfl, rfl, rfl, rfl, hk, hk2, rfl⟩ := hrel
    by_cases hlt : k < n
    · obtain ⟨b, off, rfl, _, hc⟩ := HS.out k _ (ints_at l k (by rw [HN.out]; exact hlt))
      have hx := ln_le l k HL.out
      have e1 := sumBy_take wt l k (by rw [HN.out]; exact hlt)
      have e2 := sumBy_take on l k (by rw [HN.out]; exact hlt)
      have e3 := lst_take 0 l k (by rw [HN.out]; exact hlt)
      have b1 := sumBy_le wt 32768 wt_le (l.take k)
      have b2 := sumBy_le on 1 on_le (l.take k)
      have b3 : (l.take k).length ≤ 288 := by rw [List.length_take]; omega
      obtain ⟨x, hx1⟩ : ∃ x, ln l k = x := ⟨_, rfl⟩
      rw [hx1] at hx hc e1 e2 e3
      obtain ⟨y1, hy1⟩ : ∃ y, sumBy wt (l.take k) = y := ⟨_, rfl⟩
      obtain ⟨y2, hy2⟩ : ∃ y, sumBy on (l.take k) = y := ⟨_, rfl⟩
      obtain ⟨y3, hy3⟩ : ∃ y, lst 0 (l.take k) = y := ⟨_, rfl⟩
      rw [hy1] at e1 b1 ⊢
      rw [hy2] at e2 b2 ⊢
      rw [hy3] at e3 ⊢
      have c1 : y1 ≤ 9437184 := by omega
      have c2 : y2 ≤ 288 := by omega
      have E1 := Lib.hid e1
      have E2 := Lib.hid e2
      have E3 := Lib.hid e3
      clear hx1 hy1 hy2 hy3 e1 e2 e3 b1 b2 b3
      by_cases h0 : x = 0
      · subst h0
        go_wp2_with fail
        go_roundg (gk - 1)
        case measure => omega
        case rel => exact ⟨k + 1, by go_num, by rw [E1.out]; rfl, by rw [E2.out]; rfl, by rw [E3.out]; rfl, by omega, by omega, rfl⟩
      · have h1 : ¬ (x : Int) = 0 := by omega
        go_wp2_with fail
        go_loopg [8, 9] 15 (fun gj p j wx => ∃ q : Nat, j = .int .i64 q ∧ p = .int .i64 (2 ^ (q - x) : Nat) ∧ 15 + x ≤ q + gj ∧ x ≤ q ∧ q ≤ 15 ∧ wx = wr)
        case atStart => exact ⟨x, rfl, by simp, by omega, by omega, by omega, rfl⟩
        case round =>
          obtain ⟨q, rfl, rfl, hq, hq2, hq3, rfl⟩ := hrel
          have hp : 2 ^ (q - x) ≤ 2 ^ 15 := Nat.pow_le_pow_right (by decide) (by omega)
          have hp1 : x ≤ q → q < 15 → 2 ^ (q + 1 - x) = 2 * 2 ^ (q - x) := by
            intro h1 _
            rw [show q + 1 - x = (q - x) + 1 by omega, Nat.pow_succ, Nat.mul_comm]
          obtain ⟨p, hp2⟩ : ∃ p, 2 ^ (q - x) = p := ⟨_, rfl⟩
          rw [hp2] at hp hp1 ⊢
          have HP1 := Lib.hid hp1
          have HP2 := Lib.hid hp2
          clear hp1 hp2
          by_cases hq4 : q < 15
          · go_wp2_with fail
            go_roundg (gk - 1)
            case measure => omega
            case rel => exact ⟨q + 1, by go_num, by rw [HP1.out hq2 hq4]; go_num, by omega, by omega, by omega, rfl⟩
          · obtain rfl : q = 15 := by omega
            go_wp2_with fail
            go_roundg (n - (k + 1))
            case measure => omega
            case rel =>
              refine ⟨k + 1, by go_num, ?_, ?_, ?_, by omega, by omega, rfl⟩
              · rw [E1.out, show wt x = p by rw [← HP2.out]; simp [wt, h0]]; go_num
              · rw [E2.out, show on x = 1 by simp [on, h0]]; go_num
              · rw [E3.out, if_neg h0]
    · have ht : l.take k = l := List.take_of_length_le (by rw [HN.out]; omega)
      have hk := kd_cases l HL.out
      have a1 := one_is l HL.out
      have a2 := one_not l HL.out
      rw [ht, ← fu_sum l HL.out, ← st_sum l HL.out]
      obtain ⟨f, hf⟩ : ∃ f, fu l 16 = f := ⟨_, rfl⟩
      obtain ⟨s, hs⟩ : ∃ s, st l 16 = s := ⟨_, rfl⟩
      obtain ⟨o, ho⟩ : ∃ o, lst 0 l = o := ⟨_, rfl⟩
      rw [hf, hs] at hk a1 a2 ⊢
      rw [ho] at a1 ⊢
      clear hf hs ho ht
      rcases hk with ⟨h1, h2, h3⟩ | ⟨h1, h2, h3⟩ | ⟨h1, h2, h3⟩ | ⟨h1, h2, h4, h3⟩
      all_goals
        have H3 := Lib.hid h3
        clear h3
      · subst h1
        have h5 : ¬ s = 1 := fun h => a2 h rfl
        have h6 : ¬ (s : Int) = 1 := by omega
        have h7 : ¬ (s : Int) = 0 := by omega
        clear a1 a2
        go_wp2
        go_ret2
        exact ⟨by rw [H3.out]; rfl, rfl⟩
      · subst h1 h2
        have h5 : o = 1 := (a1 rfl).2 rfl
        subst h5
        clear a1 a2
        go_wp2
        go_ret2
        exact ⟨by rw [H3.out]; rfl, rfl⟩
      · subst h1 h2
        clear a1 a2
        go_wp2
        go_ret2
        exact ⟨by rw [H3.out]; rfl, rfl⟩
      · have h5 : ¬ (f : Int) = 32768 := by omega
        have h7 : ¬ (s : Int) = 0 := by omega
        by_cases h8 : s = 1
        · have h9 : ¬ o = 1 := fun h => h2 ⟨h8, (a1 h8).1 h⟩
          have h10 : ¬ (o : Int) = 1 := by omega
          subst h8
          clear a1 a2 h2
          go_wp2
          go_ret2
          exact ⟨by rw [H3.out]; rfl, rfl⟩
        · have h6 : ¬ (s : Int) = 1 := by omega
          clear a1 a2 h2
          go_wp2
          go_ret2
          exact ⟨by rw [H3.out]; rfl, rfl⟩
end Go.Proofs.YtackcgiokkbhdaaDoor
