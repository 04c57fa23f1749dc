/- Layer 6: what lengths without a limit cost at least, in the document. -/
import Derived.Test.YtjbohidkjlnalaaAwake
namespace Go.Proofs.Ytjbohidkjlnalaa
open Go.RowKit

theorem hstep_sum {l : List Nat} (h : 2 ≤ l.length) : (hstep l).sum = l.sum := by
  match l, h with
  | a :: b :: r, _ =>
    unfold hstep
    rw [(mrg_perm _ _).sum_nat, List.sum_append_nat]
    simp [ln]
    omega
theorem hstep_length {l : List Nat} (h : 2 ≤ l.length) : (hstep l).length = l.length - 1 := by
  unfold hstep
  rw [mrg_length, List.length_drop, List.length_singleton]
  omega
theorem two_le {l : List Nat} (h : 2 ≤ l.length) : ln l 0 + ln l 1 ≤ l.sum := by
  match l, h with
  | a :: b :: r, _ => simp [ln]
theorem hsum_le : ∀ (k : Nat) (l : List Nat), l.length = k + 1 → hsum k l ≤ k * l.sum
  | 0, _, _ => Nat.zero_le _
  | k + 1, l, h => by
    rw [hsum]
    have h1 := hsum_le k (hstep l) (by rw [hstep_length (by omega)]; omega)
    rw [hstep_sum (by omega)] at h1
    have h2 := two_le (l := l) (by omega)
    rw [Nat.add_mul, Nat.one_mul]
    omega
/-- Where it stands: k steps are still to come. -/
def HufAt (w : World) (W : List Nat) (A : Option Addr) (k cap s : Nat) (wx : World) : Prop := ∃ l, l.length = k + 1 ∧ l.sum = W.sum ∧ s + hsum k l = hsum (W.length - 1) W ∧ Made 3 w A (k + 1) cap (ints l) wx

set_option maxHeartbeats 8000000 in
theorem freeRef (A : Option Addr) (n k B : Nat) (c W : List Nat) (w : World) (h : See w B A (ints c)) (hn : c.length = n) (h40 : n ≤ 40) (hl : Low c) (hW : Wt c W) :
    Calls Try.prog 15 #[.slice A n k] w (AskPost w (freeOf W)) := by
  have HSo := Lib.hid (someOf A n k B c w h hn (by omega) hl)
  have hsm := (hW.low hl).sum
  have hWn : W.length ≤ n := by
    rw [hW.2.length_eq, ← hn]
    exact List.length_filter_le _ _
  have HW := Lib.hid hW
  clear h hn hl hW
  go_enter Try.func15, Try.ntmps15
  go_wp2_with fail
  refine HSo.out.mono ?_
  rintro e w1 ⟨Aw, cap, W', rfl, hmd, hW'⟩
  obtain rfl := hW'.eq HW.out
  obtain ⟨m, hm⟩ : ∃ m, W'.length = m := ⟨_, rfl⟩
  have HM := Lib.hid hm
  rw [hm] at hmd hWn hsm ⊢
  have HMD := Lib.hid hmd
  clear hm hmd hW' HSo
  by_cases h1 : m = 1
  · subst h1
    obtain ⟨gA, hA⟩ : ∃ g, Aw = some ⟨g, 0, none⟩ := HMD.out.some (by omega)
    subst hA
    have c0 := (HMD.out.at 0 (by rw [HM.out]; omega)).1
    have HZ : Hid (freeOf W' = ln W' 0) := Lib.hid (by
      unfold freeOf
      rw [if_pos (by rw [HM.out]; omega)]
      match W', HM.out with
      | [a], _ => simp [ln])
    obtain ⟨x, hx⟩ : ∃ x, ln W' 0 = x := ⟨_, rfl⟩
    rw [hx] at c0 HZ
    clear hx
    go_wp2
    go_ret
    exact ⟨by rw [HZ.out]; rfl, HMD.out.2.1⟩
  · have hm1 : ¬ (m : Int) = 1 := by omega
    have em1 : ((m : Int) == 1) = false := by simpa using hm1
    by_cases h0 : m = 0
    · subst h0
      have HZ : Hid (freeOf W' = 0) := Lib.hid (by
        unfold freeOf
        rw [if_pos (by rw [HM.out]; omega), List.eq_nil_of_length_eq_zero HM.out]
        rfl)
      go_wp2_with fail
      go_loopg [3, 4, 5] 0 (fun gk v3 v4 v5 wx => v3 = .slice Aw 0 cap ∧ v4 = .int .i64 0 ∧ wx = w1)
      case atStart => exact ⟨rfl, rfl, rfl⟩
      case round =>
        obtain ⟨rfl, rfl, rfl⟩ := hrel
        go_wp2
        go_ret
        exact ⟨by rw [HZ.out]; rfl, HMD.out.2.1⟩
    · obtain ⟨k0, hk0⟩ : ∃ k0, k0 + 1 = m := ⟨m - 1, by omega⟩
      have HST : Hid (HufAt w W' Aw k0 cap 0 w1) := Lib.hid ⟨W', by rw [HM.out, hk0], rfl, by rw [Nat.zero_add, HM.out, show m - 1 = k0 from by omega], by rw [hk0]; exact HMD.out⟩
      have hbound : Hid (hsum (W'.length - 1) W' ≤ 1677721600) := Lib.hid (by
        have := hsum_le k0 W' (by rw [HM.out, hk0])
        rw [HM.out, show m - 1 = k0 from by omega]
        have h3 : W'.sum ≤ 41943040 := by omega
        have h2 : k0 * W'.sum ≤ 40 * 41943040 := Nat.mul_le_mul (by omega) h3
        exact Nat.le_trans this h2)
      have mixed := Try.laysSlF20_f38.mixed
      go_wp2_with fail
      go_loopg [3, 4] k0 (fun gk v3 v4 wx => ∃ (s cp : Nat) (Al : Option Addr), v3 = .slice Al (gk + 1) cp ∧ v4 = .int .i64 s ∧ gk ≤ k0 ∧ s ≤ 1677721600 ∧ Hid (HufAt w W' Al gk cp s wx))
      case atStart => exact ⟨0, cap, Aw, by rw [hk0], rfl, by omega, by omega, HST⟩
      case round =>
        clear HST HMD
        obtain ⟨s, cp, Al, rfl, rfl, hgk, hs, HI⟩ := hrel
        by_cases hg : 0 < gk
        · obtain ⟨q, hq⟩ : ∃ q, q + 1 = gk := ⟨gk - 1, by omega⟩
          obtain ⟨l, hl1, hl2, hl3, hl4⟩ := HI.out
          obtain ⟨gA, hA⟩ := hl4.some (by omega)
          subst hA
          have hcap : gk + 1 ≤ cp := by
            obtain ⟨_, ⟨h9, _⟩ | ⟨_, _, _, _, _, h9, _⟩⟩ := hl4.1
            · cases h9
            · exact h9
          have c0 : ∀ nq, (wr.drewN nq).cell? ⟨gA, 0, none⟩ = some (.int .i64 (ln l 0 : Nat)) := fun _ => (hl4.at 0 (by omega)).1
          have c1 : ∀ nq, (wr.drewN nq).cell? ⟨gA, 1, none⟩ = some (.int .i64 (ln l 1 : Nat)) := fun _ => (hl4.at 1 (by omega)).1
          have h2l := two_le (l := l) (by omega)
          have hst1 := hstep_length (l := l) (by omega)
          have hst2 := hstep_sum (l := l) (by omega)
          have hse : hsum gk l = ln l 0 + ln l 1 + hsum q (hstep l) := by rw [← hq]; rfl
          rw [hse] at hl3
          obtain ⟨x, hx⟩ : ∃ x, ln l 0 = x := ⟨_, rfl⟩
          obtain ⟨y, hy⟩ : ∃ y, ln l 1 = y := ⟨_, rfl⟩
          obtain ⟨z, hz⟩ : ∃ z, x + y = z := ⟨_, rfl⟩
          have hhs : hstep l = mrg (l.drop 2) [z] := by unfold hstep; rw [hx, hy, hz]
          rw [hx] at c0 h2l hl3
          rw [hy] at c1 h2l hl3
          rw [hz] at h2l hl3
          have ez : (x : Int) + (y : Int) = (z : Int) := by omega
          have hz40 : z ≤ 41943040 := by omega
          have rz : IntKind.i64.wrap (z : Int) = (z : Int) := by rw [IntKind.wrap_i64]; omega
          have hsz : s + z ≤ 1677721600 := by have := hbound.out; omega
          have bg : (0 : Int) < ((gk + 1 : Nat) : Int) := by omega
          have bg1 : (1 : Int) < ((gk + 1 : Nat) : Int) := by omega
          have HSEE : Hid (∀ nq, See (wr.drewN nq) wr.heap.size (some ⟨gA, 0, none⟩) (ints l)) := Lib.hid fun nq => hl4.see
          have HNEW : Hid (∀ nq, Only (fun _ => False) w (wr.drewN nq)) := Lib.hid fun nq => hl4.2.1.drewN nq
          have HL1 := Lib.hid hl1
          have HSS : Hid (∀ Am cm w', Made 3 wr Am (q + 1) cm (ints (hstep l)) w' → HufAt w W' Am q cm (s + z) w') := Lib.hid fun Am cm w' h9 => ⟨hstep l, by rw [hst1]; omega, by rw [hst2]; exact hl2, by rw [← hl3]; omega, h9.1, hl4.2.1.trans h9.2.1, fun j hj => Nat.le_trans hl4.2.1.size (h9.2.2 j hj)⟩
          have HHS := Lib.hid hhs
          have HST1 := Lib.hid hst1
          clear hl1 hl2 hl3 hl4 hse hx hy hz hhs hst1 hst2 HI
          obtain ⟨G1, hG1⟩ : ∃ G1, gk + 1 = G1 := ⟨_, rfl⟩
          rw [hG1] at bg bg1 hcap ⊢
          have hgt : (1 : Int) < (G1 : Int) := by omega
          go_wp2_with fail
          go_quiet (fail)
          have HSE2 := Lib.hid (HSEE.out nq)
          have HNE2 := Lib.hid (HNEW.out nq)
          have hsz3 : (wr.drewN nq).heap.size = wr.heap.size := rfl
          have HSS2 : Hid (∀ Am cm w', Made 3 (wr.drewN nq) Am (q + 1) cm (ints (hstep l)) w' → HufAt w W' Am q cm (s + z) w') := Lib.hid fun Am cm w' h9 => HSS.out Am cm w' ⟨h9.1, ⟨h9.2.1.os, h9.2.1.tape, h9.2.1.output, h9.2.1.size, h9.2.1.block⟩, h9.2.2⟩
          clear c0 c1 HSEE HNEW HSS
          rw [← hsz3] at HSE2
          clear hsz3
          generalize wr.drewN nq = w3 at HSE2 HNE2 HSS2 ⊢
          have HC : Hid (∀ A2 k2, See w3 w3.heap.size A2 (ints (l.drop 2)) → Calls Try.prog 24 #[.slice A2 (G1 - 2) k2, .slice (some ⟨w3.heap.size, 0, none⟩) 1 1] (w3.alloc (.cells #[.int .i64 (z : Int)] 3)) (MergedPost (w3.alloc (.cells #[.int .i64 (z : Int)] 3)) (hstep l))) := Lib.hid fun A2 k2 h9 => by
            have := merged A2 (some ⟨w3.heap.size, 0, none⟩) (G1 - 2) k2 1 1 _ _ (l.drop 2) [z] (w3.alloc (.cells #[.int .i64 (z : Int)] 3)) (h9.new ((Only.refl _ w3).alloc _)) (ints_new w3 [z]) (by rw [List.length_drop, HL1.out]; omega) rfl (by omega) (by omega)
            rw [← HHS.out] at this
            exact this
          have HTL : Hid (See w3 w3.heap.size (some ⟨gA, 2, none⟩) (ints (l.drop 2))) := Lib.hid (by
            have := See.tail (p := 0) (off := 0) (by rw [List.drop_zero]; exact HSE2.out) 2
            simpa using this)
          have HTE : Hid (G1 = 2 → ∀ A2, See w3 w3.heap.size A2 (ints (l.drop 2))) := Lib.hid fun e A2 => See.empty (by rw [HL1.out]; omega)
          clear HSE2
          go_wp2_with fail
          · have hG2 : G1 = 2 := by omega
            refine (HC.out _ _ (HTE.out hG2 _)).mono ?_
            rintro e w5 ⟨Am, cm, rfl, hmd⟩
            rw [HST1.out, HL1.out] at hmd ⊢
            rw [show gk + 1 - 1 = q + 1 from by omega] at hmd ⊢
            have H9 := Lib.hid (HSS2.out Am cm w5 ⟨hmd.1, ((Only.refl _ w3).alloc _).trans hmd.2.1, fun j hj => Nat.le_trans (by simp) (hmd.2.2 j hj)⟩)
            clear hmd HC
            go_wp2_with fail
            go_roundg q
            case measure => omega
            case rel => exact ⟨s + z, cm, Am, by rw [hq], by go_num, by omega, hsz, H9⟩
          · refine (HC.out _ _ HTL.out).mono ?_
            rintro e w5 ⟨Am, cm, rfl, hmd⟩
            rw [HST1.out, HL1.out] at hmd ⊢
            rw [show gk + 1 - 1 = q + 1 from by omega] at hmd ⊢
            have H9 := Lib.hid (HSS2.out Am cm w5 ⟨hmd.1, ((Only.refl _ w3).alloc _).trans hmd.2.1, fun j hj => Nat.le_trans (by simp) (hmd.2.2 j hj)⟩)
            clear hmd HC
            go_wp2_with fail
            go_roundg q
            case measure => omega
            case rel => exact ⟨s + z, cm, Am, by rw [hq], by go_num, by omega, hsz, H9⟩
        · obtain rfl : gk = 0 := by omega
          obtain ⟨l, hl1, hl2, hl3, hl4⟩ := HI.out
          have HZ : Hid (freeOf W' = s) := Lib.hid (by
            unfold freeOf
            rw [if_neg (by rw [HM.out]; omega), ← hl3]
            rfl)
          have HO := Lib.hid hl4.2.1
          clear hl1 hl2 hl3 hl4 HI
          go_wp2
          go_ret
          exact ⟨by rw [HZ.out]; rfl, HO.out⟩
end Go.Proofs.Ytjbohidkjlnalaa
