/- Layer 6: the walk of LimitFree. -/
import Derived.Test.YtjbohidkjlnalaaRefFree
namespace Go.Proofs.Ytjbohidkjlnalaa
open Go.RowKit

def Yes2 (w : World) (e : Ending) (w' : World) : Prop := e = .returned (.bool true) ∧ Only (fun _ => False) w w'
theorem Wt.any (c : List Nat) : ∃ W, Wt c W := by
  refine ⟨(c.filter fun x => decide (0 < x)).mergeSort (fun a b => decide (a ≤ b)), ?_, List.mergeSort_perm _ _⟩
  have := List.pairwise_mergeSort (le := fun a b : Nat => decide (a ≤ b)) (fun a b c h1 h2 => by simp at *; omega) (fun a b => by simp; omega) (c.filter fun x => decide (0 < x))
  simpa [Rise] using this
theorem Good.short {c L : List Nat} {K most cost : Nat} (h : Good c L K most cost) (hm : most ≤ 1000) : Short L := fun x hx => by
  obtain ⟨q, hq, rfl⟩ := List.getElem_of_mem hx
  have := h.top q
  simp only [ln, List.getD_eq_getElem?_getD, List.getElem?_eq_getElem hq, Option.getD_some] at this
  omega
theorem lone_full (L : List Nat) (n : Nat) (h : ∀ s, ln L s ≤ 1) : sumTo n (fun s => pw 40 (ln L s)) = sumTo n (fun s => nz (ln L s)) * 549755813888 := by
  induction n with
  | zero => simp [sumTo]
  | succ n ih =>
    rw [sumTo, sumTo, ih, Nat.add_mul]
    congr 1
    have := h n
    rcases Nat.eq_zero_or_pos (ln L n) with e | e
    · rw [e]; simp [pw, nz]
    · obtain e : ln L n = 1 := by omega
      rw [e]; simp [pw, nz]
set_option maxRecDepth 100000 in
set_option maxHeartbeats 4000000 in
theorem law2_bad (A : Option Addr) (n k : Nat) (w : World) (h300 : n ≤ 300) (hnot : n ≤ 40 ∨ 288 < n) (h13 : ∀ w', Only (fun _ => False) w w' → Calls Try.prog 13 #[.slice A n k] w' (Refused w'))
    (h14 : ∀ w', Only (fun _ => False) w w' → Calls Try.prog 14 #[.slice A n k] w' fun e w'' => e = .returned (.bool false) ∧ w' = w'') : Calls Try.prog 4 #[.slice A n k] w (Yes2 w) := by
  have H7 := Lib.hid h13
  have H8 := Lib.hid h14
  have d3 : decide (300 < (n : Int)) = false := by simp; omega
  clear h13 h14
  by_cases h1 : n ≤ 40
  · have d1 : decide (40 < (n : Int)) = false := by simp; omega
    clear hnot
    go_enter Try.func4, Try.ntmps4
    go_wp2_with fail
    refine (awake w).mono ?_
    rintro e w1 ⟨rfl, ho1⟩
    have HO1 := Lib.hid ho1
    clear ho1
    go_wp2_with fail
    refine (H7.out w1 HO1.out).mono ?_
    rintro e w2 ⟨rfl, ho2⟩
    have HO2 := Lib.hid (HO1.out.trans ho2)
    clear ho2
    go_wp2_with fail
    refine (H8.out w2 HO2.out).mono ?_
    rintro e w3 ⟨rfl, rfl⟩
    go_wp2
    go_ret
    exact ⟨rfl, HO2.out⟩
  · have d1 : decide (40 < (n : Int)) = true := by simp; omega
    have d2 : decide ((n : Int) ≤ 288) = false := by simp; omega
    clear hnot
    go_enter Try.func4, Try.ntmps4
    go_wp2_with fail
    refine (awake w).mono ?_
    rintro e w1 ⟨rfl, ho1⟩
    have HO1 := Lib.hid ho1
    clear ho1
    go_wp2_with fail
    refine (H7.out w1 HO1.out).mono ?_
    rintro e w2 ⟨rfl, ho2⟩
    have HO2 := Lib.hid (HO1.out.trans ho2)
    clear ho2
    go_wp2_with fail
    refine (H8.out w2 HO2.out).mono ?_
    rintro e w3 ⟨rfl, rfl⟩
    go_wp2
    go_ret
    exact ⟨rfl, HO2.out⟩

set_option maxRecDepth 100000 in
set_option maxHeartbeats 8000000 in
theorem law2_good (A : Option Addr) (n k : Nat) (c : List Nat) (w : World) (h : See w w.heap.size A (ints c)) (hn : c.length = n) (h40 : n ≤ 40) (hl : Low c) : Calls Try.prog 4 #[.slice A n k] w (Yes2 w) := by
  obtain ⟨W, hW⟩ := Wt.any c
  have HSee : Hid (∀ w', Only (fun _ => False) w w' → See w' w.heap.size A (ints c)) := Lib.hid fun w' ho => h.new ho
  have H13 : Hid (∀ w', Only (fun _ => False) w w' → Calls Try.prog 13 #[.slice A n k] w' (LensPost w' c n 40 40 freeOf)) := Lib.hid fun w' ho => free_yes A n k _ c w' (h.new ho) ho.size hn h40 hl
  have H14 : Hid (∀ w', Only (fun _ => False) w w' → Calls Try.prog 14 #[.slice A n k] w' fun e w'' => e = .returned (.bool true) ∧ w' = w'') := Lib.hid fun w' ho => rightX A n k true w' (right_yes A n k _ c w' (h.new ho) hn (by omega) hl)
  have H15 : Hid (∀ w', Only (fun _ => False) w w' → Calls Try.prog 15 #[.slice A n k] w' (AskPost w' (freeOf W))) := Lib.hid fun w' ho => freeRef A n k _ c W w' (h.new ho) hn h40 hl hW
  have HN := Lib.hid hn
  have HL := Lib.hid hl
  have HW := Lib.hid hW
  have d1 : decide (40 < (n : Int)) = false := by simp; omega
  have d3 : decide (300 < (n : Int)) = false := by simp; omega
  clear h hn hl hW
  go_enter Try.func4, Try.ntmps4
  go_wp2_with fail
  refine (awake w).mono ?_
  rintro e w1 ⟨rfl, ho1⟩
  have HO1 := Lib.hid ho1
  clear ho1
  go_wp2_with fail
  refine (H13.out w1 HO1.out).mono ?_
  rintro e w2 ⟨gl, L, rfl, hmd, hgood⟩
  have HG := Lib.hid (hgood W HW.out)
  have HO2 := Lib.hid (HO1.out.trans hmd.2.1)
  have HLS : Hid (See w2 w2.heap.size (some ⟨gl, 0, none⟩) (ints L)) := Lib.hid hmd.see
  clear hmd hgood H13
  go_wp2_with fail
  refine (H14.out w2 HO2.out).mono ?_
  rintro e w3 ⟨rfl, rfl⟩
  clear H14
  go_wp2_with fail
  go_loopg [5, 6, 50] n (fun gk v5 v6 i wx => ∃ j f m : Nat, i = .int .i64 j ∧ v5 = .int .i64 f ∧ v6 = .int .i64 m ∧ j + gk ≤ n ∧ n ≤ j + gk ∧ m ≤ j ∧ Hid (f ≤ j * 1099511627776) ∧ f ≤ 100000000000000 ∧ Hid (sumTo j (fun s => pw 40 (ln L s)) = f) ∧ Hid (sumTo j (fun s => nz (ln L s)) = m) ∧ wx = w2)
  case atStart => exact ⟨0, 0, 0, rfl, rfl, rfl, by omega, by omega, by omega, Lib.hid (Nat.zero_le _), by omega, Lib.hid rfl, Lib.hid rfl, rfl⟩
  case round =>
    obtain ⟨j, f, m, rfl, rfl, rfl, hg1, hg2, hmj, HFB, hfs, HF, HM, rfl⟩ := hrel
    by_cases hlt : j < n
    · obtain ⟨b, off, rfl, _, hc⟩ := HSee.out wr HO2.out j _ (ints_at c j (by rw [HN.out]; exact hlt))
      obtain ⟨b2, off2, e2, _, hcL⟩ := HLS.out j _ (ints_at L j (by rw [HG.out.len, HN.out]; exact hlt))
      obtain ⟨rfl, rfl⟩ : gl = b2 ∧ 0 = off2 := by simpa using e2
      rw [Nat.zero_add] at hcL
      have hpos := HG.out.pos j
      have htop := HG.out.top j
      have s1 : sumTo (j + 1) (fun s => pw 40 (ln L s)) = f + pw 40 (ln L j) := by rw [sumTo, HF.out]
      have s2 : sumTo (j + 1) (fun s => nz (ln L s)) = m + nz (ln L j) := by rw [sumTo, HM.out]
      obtain ⟨x, hx⟩ : ∃ x, ln c j = x := ⟨_, rfl⟩
      obtain ⟨y, hy⟩ : ∃ y, ln L j = y := ⟨_, rfl⟩
      rw [hx] at hc hpos
      rw [hy] at hcL hpos htop s1 s2
      have dt : decide (40 < (y : Int)) = false := by simp; omega
      have dn : decide ((y : Int) < 0) = false := by simp
      by_cases hx0 : 0 < x
      · have hy0 : 0 < y := hpos.2 hx0
        obtain ⟨d, hd⟩ : ∃ d, 40 - y = d := ⟨_, rfl⟩
        obtain ⟨P, hP⟩ : ∃ P, 2 ^ d = P := ⟨_, rfl⟩
        have hd40 : d ≤ 40 := by omega
        have hP2 : P ≤ 1099511627776 := by rw [← hP]; exact Nat.le_trans (Nat.pow_le_pow_right (by decide) hd40) (Nat.le_of_ble_eq_true rfl)
        have ed : (40 : Int) - (y : Int) = (d : Int) := by omega
        have eP : (2 : Int) ^ d = (P : Int) := by rw [← hP]; simp
        have S1 : Hid (sumTo (j + 1) (fun s => pw 40 (ln L s)) = f + P) := Lib.hid (by rw [s1]; unfold pw; rw [if_neg (by omega), hd, hP])
        have S2 : Hid (sumTo (j + 1) (fun s => nz (ln L s)) = m + 1) := Lib.hid (by rw [s2]; unfold nz; rw [if_neg (by omega)])
        have dx : decide (0 < (x : Int)) = true := by simp; omega
        have dy : decide (0 < (y : Int)) = true := by simp; omega
        have hf1 : f + P ≤ (j + 1) * 1099511627776 := Nat.le_trans (Nat.add_le_add HFB.out hP2) (by rw [Nat.add_mul, Nat.one_mul]; exact Nat.le_refl _)
        have HF1 := Lib.hid hf1
        have hfs1 : f + P ≤ 100000000000000 := Nat.le_trans hf1 (Nat.le_trans (Nat.mul_le_mul_right _ (show j + 1 ≤ 40 by omega)) (Nat.le_of_ble_eq_true rfl))
        clear hpos s1 s2 hx hy e2 hP hd hf1
        go_wp2_with fail
        go_roundg (gk - 1)
        case measure => omega
        case rel => exact ⟨j + 1, f + P, m + 1, by go_num, by go_num, by go_num, by omega, by omega, by omega, HF1, hfs1, S1, S2, rfl⟩
      · obtain rfl : x = 0 := by omega
        obtain rfl : y = 0 := by omega
        have S1 : Hid (sumTo (j + 1) (fun s => pw 40 (ln L s)) = f) := Lib.hid (by rw [s1]; simp [pw])
        have S2 : Hid (sumTo (j + 1) (fun s => nz (ln L s)) = m) := Lib.hid (by rw [s2]; simp [nz])
        have hf1 : f ≤ (j + 1) * 1099511627776 := Nat.le_trans HFB.out (Nat.mul_le_mul_right _ (Nat.le_succ j))
        have HF1 := Lib.hid hf1
        clear hpos s1 s2 hx hy e2 hf1
        go_wp2_with fail
        go_roundg (gk - 1)
        case measure => omega
        case rel => exact ⟨j + 1, f, m, by go_num, rfl, rfl, by omega, by omega, by omega, HF1, hfs, S1, S2, rfl⟩
    · obtain rfl : j = n := by omega
      have hnum := HG.out.num
      have hfull := HG.out.full
      have hlone := HG.out.lone
      rw [HN.out, HM.out] at hnum
      rw [HN.out, HF.out] at hfull
      have hone : m = 1 → f = 549755813888 := fun e => by
        have := lone_full L j (hlone (by rw [← hnum]; exact e))
        rw [HF.out, HM.out, e] at this
        omega
      have H11 := Lib.hid (lawCost A (some ⟨gl, 0, none⟩) j k j j _ _ c L wr (HSee.out wr HO2.out) HLS.out HN.out (by rw [HG.out.len]; exact HN.out) (Nat.le_refl _) (by omega) HL.out (HG.out.short (by omega)))
      rw [HG.out.cost] at H11
      obtain ⟨C, hC⟩ : ∃ C, freeOf W = C := ⟨_, rfl⟩
      rw [hC] at H11 H15
      rw [← hnum] at hfull
      clear hC hnum hlone
      rcases Nat.lt_trichotomy m 1 with h1 | h1 | h1
      · obtain rfl : m = 0 := by omega
        clear hfull hone
        go_wp2_with fail
        refine H11.out.mono ?_
        rintro e w6 ⟨rfl, ho6⟩
        have HO6 := Lib.hid (HO2.out.trans ho6)
        clear ho6
        go_wp2_with fail
        refine (H15.out w6 HO6.out).mono ?_
        rintro e w7 ⟨rfl, ho7⟩
        have HO7 := Lib.hid (HO6.out.trans ho7)
        clear ho7
        go_wp2
        go_ret
        exact ⟨rfl, HO7.out⟩
      · subst h1
        obtain rfl := hone rfl
        clear hfull hone
        go_wp2_with fail
        refine H11.out.mono ?_
        rintro e w6 ⟨rfl, ho6⟩
        have HO6 := Lib.hid (HO2.out.trans ho6)
        clear ho6
        go_wp2_with fail
        refine (H15.out w6 HO6.out).mono ?_
        rintro e w7 ⟨rfl, ho7⟩
        have HO7 := Lib.hid (HO6.out.trans ho7)
        clear ho7
        go_wp2
        go_ret
        exact ⟨rfl, HO7.out⟩
      · have hf2 : f = 1099511627776 := hfull h1
        subst hf2
        have dm : decide (1 < (m : Int)) = true := by simp; omega
        have nm : ¬ (m : Int) = 1 := by omega
        have em : ((m : Int) == 1) = false := by simpa using nm
        clear hfull hone
        go_wp2_with fail
        refine H11.out.mono ?_
        rintro e w6 ⟨rfl, ho6⟩
        have HO6 := Lib.hid (HO2.out.trans ho6)
        clear ho6
        go_wp2_with fail
        refine (H15.out w6 HO6.out).mono ?_
        rintro e w7 ⟨rfl, ho7⟩
        have HO7 := Lib.hid (HO6.out.trans ho7)
        clear ho7
        go_wp2
        go_ret
        exact ⟨rfl, HO7.out⟩

set_option maxRecDepth 100000 in
set_option maxHeartbeats 4000000 in
theorem law2 (A : Option Addr) (n k : Nat) (z : List Int) (w : World) (h : See w w.heap.size A (zints z)) (hn : z.length = n) (hm : n ≤ maxLen) : Calls Try.prog 4 #[.slice A n k] w (Yes2 w) := by
  unfold maxLen at hm
  by_cases hbig : 300 < n ∨ (40 < n ∧ n ≤ 288)
  · clear h hn
    by_cases h1 : 300 < n
    · have d1 : decide (40 < (n : Int)) = true := by simp; omega
      have d2 : decide ((n : Int) ≤ 288) = false := by simp; omega
      have d3 : decide (300 < (n : Int)) = true := by simp; omega
      clear hbig
      go_enter Try.func4, Try.ntmps4
      go_wp2_with fail
      refine (awake w).mono ?_
      rintro e w1 ⟨rfl, ho1⟩
      have HO1 := Lib.hid ho1
      clear ho1
      go_wp2
      go_ret
      exact ⟨rfl, HO1.out⟩
    · have d1 : decide (40 < (n : Int)) = true := by simp; omega
      have d2 : decide ((n : Int) ≤ 288) = true := by simp; omega
      clear hbig
      go_enter Try.func4, Try.ntmps4
      go_wp2_with fail
      refine (awake w).mono ?_
      rintro e w1 ⟨rfl, ho1⟩
      have HO1 := Lib.hid ho1
      clear ho1
      go_wp2
      go_ret
      exact ⟨rfl, HO1.out⟩
  · have h300 : n ≤ 300 := by omega
    have hnot : n ≤ 40 ∨ 288 < n := by omega
    by_cases hz : Okay z
    · obtain ⟨c, e, hl1, hl2, hl3⟩ := hz.nat
      rw [e] at h
      rw [hn] at hl1
      rw [hl1] at hl2
      exact law2_good A n k c w h hl1 (by omega) hl3
    · exact law2_bad A n k w h300 hnot (fun w' ho => free_no A n k w' (allowed_no A n k _ z w' (h.new ho) hn h300 hz)) (fun w' ho => rightX A n k false w' (right_no A n k _ z w' (h.new ho) hn h300 hz))
end Go.Proofs.Ytjbohidkjlnalaa
