/- Layer 15, the landed program: the place of a path among nodes in order, by halves; whether there is such a directory. -/
import Derived.Test.YtaeaomlhbdbbfaaGreatDoorTpM
import Derived.Test.YtaeaomlhbdbbfaaGreatDoorTnA
import Derived.Test.YtaeaomlhbdbbfaaGreatDoorRpC
namespace Go.Proofs.YtaeaomlhbdbbfaaGreatDoor
open Go.RowKit

theorem pcmp1 (n : Nd) (p : List UInt8) (w : World) (hn : n.path.length ≤ 100000) (hp : p.length ≤ 100000) : Calls Tryz.prog 52 #[ndV n, .string (tx p)] w fun e w' => e = .returned (.int .i64 (cmpF (partsF n.path) (partsF p))) ∧ Only (fun _ => False) w w' := by
  have HC : Hid (∀ w1, Calls Tryz.prog 53 #[.string (tx n.path), .string (tx p)] w1 fun e w' => e = .returned (.int .i64 (cmpF (partsF n.path) (partsF p))) ∧ Only (fun _ => False) w1 w') := Lib.hid fun w1 => pcompare n.path p w1 hn hp
  generalize cmpF (partsF n.path) (partsF p) = c at HC ⊢
  go_enter Tryz.func52, Tryz.ntmps52
  go_wp2_with fail
  refine (HC.out _).mono ?_
  rintro e w2 ⟨rfl, o2⟩
  have HO : Hid (Only (fun _ => False) w w2) := Lib.hid (((Only.refl _ w).alloc _).trans o2)
  clear o2 HC
  go_wp2
  go_ret
  exact ⟨rfl, HO.out⟩
set_option maxRecDepth 20000 in
set_option maxHeartbeats 8000000 in
theorem psearch (A : Option Addr) (n c B : Nat) (ps : List Nd) (p : List UInt8) (w : World) (h : See w B A (nds ps)) (hn : ps.length = n) (hb : n ≤ 100000) (hs : Srt ps) (hin : ∀ x ∈ ps, x.path.length ≤ 100000) (hp : p.length ≤ 100000) : Calls Tryz.prog 51 #[.slice A n c, .string (tx p), .func (.func 52) #[] #[]] w fun e w' => e = .returned (.tuple #[.int .i64 (posT ps p), .bool (thereT ps p)]) ∧ Only (fun _ => False) w w' := by
  have HS := Lib.hid h
  have HN := Lib.hid hn
  have HSR := Lib.hid hs
  have HC : Hid (∀ i, i < n → ∀ w1, Calls Tryz.prog 52 #[ndV (ps.getD i nd0), .string (tx p)] w1 fun e w' => e = .returned (.int .i64 (cmpF (partsF (ps.getD i nd0).path) (partsF p))) ∧ Only (fun _ => False) w1 w') := Lib.hid fun i hi w1 => pcmp1 (ps.getD i nd0) p w1 (hin _ (getD_mem nd0 ps i (by omega))) hp
  clear h hn hs hin hp
  go_enter Tryz.func51, Tryz.ntmps51
  go_wp2_with fail
  go_loopg [9, 10] n (fun gk u v wx => ∃ (lo hi : Nat), u = .int .i64 lo ∧ v = .int .i64 hi ∧ lo ≤ hi ∧ hi ≤ n ∧ hi - lo ≤ gk ∧ Hid (Only (fun _ => False) w wx) ∧ Hid ((∀ t, t < lo → lessP (ps.getD t nd0).path p) ∧ ∀ t, hi ≤ t → t < n → ¬ lessP (ps.getD t nd0).path p))
  case atStart => exact ⟨0, n, rfl, rfl, Nat.zero_le _, Nat.le_refl _, by omega, Lib.hid (Only.refl _ w), Lib.hid ⟨fun t ht => absurd ht (Nat.not_lt_zero _), fun t h1 h2 => by omega⟩⟩
  case round =>
    obtain ⟨lo, hi, rfl, rfl, hlh, hin, hg, HW, HI⟩ := hrel
    by_cases hlt : lo < hi
    · obtain ⟨m, hm⟩ : ∃ m, (lo + hi) / 2 = m := ⟨_, rfl⟩
      have hm1 : lo ≤ m := by omega
      have hm2 : m < hi := by omega
      have hm3 : ((lo : Int) + (hi : Int)) / 2 = (m : Int) := by omega
      obtain ⟨b, o, rfl, d0, d1, d2, d3, d4⟩ := see_nd (HS.out.new HW.out) (i := m) (by rw [HN.out]; omega)
      have HCM := Lib.hid (HC.out m (by omega))
      have HLS : Hid (∀ t, t < m → lessP (ps.getD t nd0).path (ps.getD m nd0).path) := Lib.hid fun t ht => srt_getD HSR.out ht (by rw [HN.out]; omega)
      have HGS : Hid (∀ t, m < t → t < n → lessP (ps.getD m nd0).path (ps.getD t nd0).path) := Lib.hid fun t ht h2 => srt_getD HSR.out ht (by rw [HN.out]; omega)
      obtain ⟨q, hq⟩ : ∃ q, ps.getD m nd0 = q := ⟨_, rfl⟩
      have HQ := Lib.hid hq
      rw [hq] at d0 d1 d2 d3 d4 HCM HLS HGS
      clear hq
      have HM : Hid (lessP q.path p ↔ cmpF (partsF q.path) (partsF p) < 0) := Lib.hid Iff.rfl
      generalize cmpF (partsF q.path) (partsF p) = cm at HCM HM
      by_cases hc : cm < 0
      · have HI2 : Hid ((∀ t, t < m + 1 → lessP (ps.getD t nd0).path p) ∧ ∀ t, hi ≤ t → t < n → ¬ lessP (ps.getD t nd0).path p) := by
          refine Lib.hid ⟨fun t ht => ?_, HI.out.2⟩
          rcases Nat.lt_or_ge t m with g | g
          · exact less_trans (HLS.out t g) (HM.out.2 hc)
          · obtain rfl : t = m := by omega
            rw [HQ.out]
            exact HM.out.2 hc
        clear HLS HGS HM HQ HI
        go_wp2_with (go_at_call 52; refine (HCM.out _).mono ?_; rintro e w1 ⟨rfl, o1⟩; have HO := Lib.hid (HW.out.trans o1); clear o1)
        go_roundg (hi - (m + 1))
        case measure => omega
        case rel => exact ⟨m + 1, hi, by go_num, rfl, by omega, hin, by omega, HO, HI2⟩
      · have HI2 : Hid ((∀ t, t < lo → lessP (ps.getD t nd0).path p) ∧ ∀ t, m ≤ t → t < n → ¬ lessP (ps.getD t nd0).path p) := by
          refine Lib.hid ⟨HI.out.1, fun t h1 h2 hl => ?_⟩
          rcases Nat.lt_or_ge m t with g | g
          · exact hc (HM.out.1 (less_trans (HGS.out t g h2) hl))
          · obtain rfl : t = m := by omega
            rw [HQ.out] at hl
            exact hc (HM.out.1 hl)
        clear HLS HGS HM HQ HI
        go_wp2_with (go_at_call 52; refine (HCM.out _).mono ?_; rintro e w1 ⟨rfl, o1⟩; have HO := Lib.hid (HW.out.trans o1); clear o1)
        go_roundg (m - lo)
        case measure => omega
        case rel => exact ⟨lo, m, rfl, by go_num, by omega, by omega, by omega, HO, HI2⟩
    · obtain rfl : lo = hi := by omega
      have HP : Hid (posT ps p = lo) := Lib.hid (pos_of p ps lo (by rw [HN.out]; exact hin) HI.out.1 fun i h1 h2 => HI.out.2 i h1 (by rw [HN.out] at h2; exact h2))
      by_cases hl : lo < n
      · obtain ⟨b, o, rfl, d0, d1, d2, d3, d4⟩ := see_nd (HS.out.new HW.out) (i := lo) (by rw [HN.out]; omega)
        have HCM := Lib.hid (HC.out lo hl)
        have HT : Hid (thereT ps p = decide (cmpF (partsF (ps.getD lo nd0).path) (partsF p) = 0)) := Lib.hid (by
          unfold thereT
          rw [HP.out, HN.out, decide_eq_true hl, Bool.true_and]
          exact decide_eq_decide.2 cmp_path.symm)
        generalize ps.getD lo nd0 = q at d0 d1 d2 d3 d4 HCM HT
        generalize cmpF (partsF q.path) (partsF p) = cm at HCM HT
        clear HI
        by_cases hc : cm = 0
        · subst hc
          go_wp2_with (go_at_call 52; refine (HCM.out _).mono ?_; rintro e w1 ⟨rfl, o1⟩; have HO := Lib.hid (HW.out.trans o1); clear o1)
          go_ret2
          rw [HP.out, HT.out]
          exact ⟨rfl, HO.out⟩
        · have hc2 : (cm == 0) = false := by rw [beq_eq_false_iff_ne]; exact hc
          go_wp2_with (go_at_call 52; refine (HCM.out _).mono ?_; rintro e w1 ⟨rfl, o1⟩; have HO := Lib.hid (HW.out.trans o1); clear o1)
          go_ret2
          rw [HP.out, HT.out, decide_eq_false hc]
          exact ⟨rfl, HO.out⟩
      · obtain rfl : lo = n := by omega
        have HT : Hid (thereT ps p = false) := Lib.hid (by
          unfold thereT
          rw [HP.out, HN.out, decide_eq_false hl, Bool.false_and])
        clear HI HC
        go_wp2_with fail
        go_ret2
        rw [HP.out, HT.out]
        exact ⟨rfl, HW.out⟩
theorem pfind (A : Option Addr) (n c B : Nat) (ps : List Nd) (p : List UInt8) (w : World) (h : See w B A (nds ps)) (hn : ps.length = n) (hb : n ≤ 100000) (hs : Srt ps) (hin : ∀ x ∈ ps, x.path.length ≤ 100000) (hp : p.length ≤ 100000) : Calls Tryz.prog 31 #[.slice A n c, .string (tx p)] w fun e w' => e = .returned (.tuple #[.int .i64 (posT ps p), .bool (thereT ps p)]) ∧ Only (fun _ => False) w w' := by
  have HC := Lib.hid (psearch A n c B ps p w h hn hb hs hin hp)
  clear h hn hb hs hin hp
  generalize posT ps p = k at HC ⊢
  generalize thereT ps p = t at HC ⊢
  go_enter Tryz.func31, Tryz.ntmps31
  go_wp2_with (go_at_call 51; refine HC.out.mono ?_; rintro e w1 ⟨rfl, o1⟩; have HO := Lib.hid o1; clear o1)
  go_ret2
  exact ⟨rfl, HO.out⟩
set_option maxHeartbeats 2000000 in
theorem phasdir (A : Option Addr) (n c B : Nat) (ps : List Nd) (p : List UInt8) (w : World) (h : See w B A (nds ps)) (hn : ps.length = n) (hb : n ≤ 100000) (hs : Srt ps) (hin : ∀ x ∈ ps, x.path.length ≤ 100000) (hp : p.length ≤ 100000) : Calls Tryz.prog 46 #[.slice A n c, .string (tx p)] w fun e w' => e = .returned (.bool (isDirT ps p)) ∧ Only (fun _ => False) w w' := by
  have HC := Lib.hid (pfind A n c B ps p w h hn hb hs hin hp)
  have HD : Hid (isDirT ps p = (thereT ps p && (ps.getD (posT ps p) nd0).dir)) := Lib.hid (isDir_pos hs p)
  have HS := Lib.hid h
  have HL : thereT ps p = true → posT ps p < n := fun g => by rw [← hn]; exact ((there_iff ps p).1 g).1
  have HLL : posT ps p ≤ n := by rw [← hn]; exact pos_le p ps
  have HN := Lib.hid hn
  clear h hn hs hin hp
  generalize posT ps p = k at HC HD HL HLL
  cases ht : thereT ps p with
  | false =>
    rw [ht] at HC HD
    rw [Bool.false_and] at HD
    clear HL ht
    go_enter Tryz.func46, Tryz.ntmps46
    go_wp2_with (go_at_call 31; refine HC.out.mono ?_; rintro e w1 ⟨rfl, o1⟩; have HO := Lib.hid o1; clear o1)
    go_ret
    rw [HD.out]
    exact ⟨rfl, HO.out⟩
  | true =>
    have hk := HL ht
    rw [ht] at HC HD
    rw [Bool.true_and] at HD
    clear HL ht
    obtain ⟨b, o, rfl, _, d1, _, _, _⟩ := see_nd HS.out (i := k) (by rw [HN.out]; omega)
    generalize (ps.getD k nd0).dir = dd at d1 HD
    have HD1 := Lib.hid d1
    clear d1
    go_enter Tryz.func46, Tryz.ntmps46
    go_wp2_with (go_at_call 31; refine HC.out.mono ?_; rintro e w1 ⟨rfl, o1⟩; have d1 := only_cell HD1.out o1; have HO := Lib.hid o1; clear o1)
    go_ret
    rw [HD.out]
    exact ⟨rfl, HO.out⟩
end Go.Proofs.YtaeaomlhbdbbfaaGreatDoor
