/- Layer 6: the walk of LimitLengths. -/
import Derived.Test.YtjbohidkjlnalaaAwake
namespace Go.Proofs.Ytjbohidkjlnalaa
open Go.RowKit

def Yes (w : World) (e : Ending) (w' : World) : Prop := e = .returned (.bool true) ∧ Only (fun _ => False) w w'
theorem Wt.exists (c : List Nat) : ∃ W, Wt c W := by
  refine ⟨(c.filter fun x => decide (0 < x)).mergeSort (fun a b => decide (a ≤ b)), ?_, List.mergeSort_perm _ _⟩
  have := List.pairwise_mergeSort (le := fun a b : Nat => decide (a ≤ b)) (fun a b c h1 h2 => by simp at *; omega) (fun a b => by simp; omega) (c.filter fun x => decide (0 < x))
  simpa [Rise] using this
set_option maxRecDepth 100000 in
set_option maxHeartbeats 4000000 in
theorem law1_bad (A : Option Addr) (n k : Nat) (most : Int) (w : World) (h300 : n ≤ 300) (hnot : n ≤ 100 ∨ 288 < n) (h7 : ∀ w', Only (fun _ => False) w w' → Calls Try.prog 7 #[.slice A n k, .int .i64 most] w' (Refused w'))
    (h8 : ∀ w', Only (fun _ => False) w w' → Calls Try.prog 8 #[.slice A n k, .int .i64 most] w' (AskPost w' 1)) : Calls Try.prog 3 #[.slice A n k, .int .i64 most] w (Yes w) := by
  have H7 := Lib.hid h7
  have H8 := Lib.hid h8
  have d3 : decide (300 < (n : Int)) = false := by simp; omega
  clear h7 h8
  by_cases h1 : n ≤ 100
  · have d1 : decide (100 < (n : Int)) = false := by simp; omega
    clear hnot
    go_enter Try.func3, Try.ntmps3
    go_wp2_with fail
    refine (awake w).mono ?_
    rintro e w1 ⟨rfl, ho1⟩
    have HO1 := Lib.hid ho1
    clear ho1
    go_wp2_with fail
    refine (H7.out w1 HO1.out).mono ?_
    rintro e w2 ⟨rfl, ho2⟩
    have HO2 := Lib.hid (HO1.out.trans ho2)
    clear ho2
    go_wp2_with fail
    refine (H8.out w2 HO2.out).mono ?_
    rintro e w3 ⟨rfl, ho3⟩
    have HO3 := Lib.hid (HO2.out.trans ho3)
    clear ho3
    go_wp2
    go_ret
    exact ⟨rfl, HO3.out⟩
  · have d1 : decide (100 < (n : Int)) = true := by simp; omega
    have d2 : decide ((n : Int) ≤ 288) = false := by simp; omega
    clear hnot
    go_enter Try.func3, Try.ntmps3
    go_wp2_with fail
    refine (awake w).mono ?_
    rintro e w1 ⟨rfl, ho1⟩
    have HO1 := Lib.hid ho1
    clear ho1
    go_wp2_with fail
    refine (H7.out w1 HO1.out).mono ?_
    rintro e w2 ⟨rfl, ho2⟩
    have HO2 := Lib.hid (HO1.out.trans ho2)
    clear ho2
    go_wp2_with fail
    refine (H8.out w2 HO2.out).mono ?_
    rintro e w3 ⟨rfl, ho3⟩
    have HO3 := Lib.hid (HO2.out.trans ho3)
    clear ho3
    go_wp2
    go_ret
    exact ⟨rfl, HO3.out⟩

set_option maxRecDepth 100000 in
set_option maxHeartbeats 8000000 in
theorem law1_good (A : Option Addr) (n k most : Nat) (c : List Nat) (w : World) (h : See w w.heap.size A (ints c)) (hn : c.length = n) (h100 : n ≤ 100) (hl : Low c) (hm1 : 1 ≤ most) (hm15 : most ≤ 15) (hs : some_ c ≤ 2 ^ most) : Calls Try.prog 3 #[.slice A n k, .int .i64 most] w (Yes w) := by
  obtain ⟨W, hW⟩ := Wt.exists c
  have HSee : Hid (∀ w', Only (fun _ => False) w w' → See w' w.heap.size A (ints c)) := Lib.hid fun w' ho => h.new ho
  have H7 : Hid (∀ w', Only (fun _ => False) w w' → Calls Try.prog 7 #[.slice A n k, .int .i64 most] w' (LensPost w' c n 15 most (fun W => leastOf W most))) := Lib.hid fun w' ho => lengths A n k most _ c w' (h.new ho) ho.size hn (by omega) hl hm1 hm15 hs
  have H8 : Hid (∀ w', Only (fun _ => False) w w' → Calls Try.prog 8 #[.slice A n k, .int .i64 most] w' (AskPost w' 0)) := Lib.hid fun w' ho => by
    have := asked A n k most _ c w' (h.new ho) hn (by omega) hl hm1 hm15
    rw [if_pos hs] at this
    exact this
  have H12 : Hid (∀ w', Only (fun _ => False) w w' → Calls Try.prog 12 #[.slice A n k, .int .i64 most] w' (AskPost w' (leastOf W most))) := Lib.hid fun w' ho => leastRef A n k most _ c W w' (h.new ho) hn (by omega) hl hW hm1 hm15 (by rw [hW.len]; exact hs)
  have HN := Lib.hid hn
  have HL := Lib.hid hl
  have HW := Lib.hid hW
  have d1 : decide (100 < (n : Int)) = false := by simp; omega
  have d3 : decide (300 < (n : Int)) = false := by simp; omega
  clear h hn hl hs hW
  go_enter Try.func3, Try.ntmps3
  go_wp2_with fail
  refine (awake w).mono ?_
  rintro e w1 ⟨rfl, ho1⟩
  have HO1 := Lib.hid ho1
  clear ho1
  go_wp2_with fail
  refine (H7.out w1 HO1.out).mono ?_
  rintro e w2 ⟨gl, L, rfl, hmd, hgood⟩
  have HG := Lib.hid (hgood W HW.out)
  have HO2 := Lib.hid (HO1.out.trans hmd.2.1)
  have HLS : Hid (∀ w', Only (fun _ => False) w2 w' → See w' w2.heap.size (some ⟨gl, 0, none⟩) (ints L)) := Lib.hid fun w' ho => hmd.see.new ho
  clear hmd hgood H7
  go_wp2_with fail
  refine (H8.out w2 HO2.out).mono ?_
  rintro e w3 ⟨rfl, ho3⟩
  have HO23 := Lib.hid ho3
  have HO3 := Lib.hid (HO2.out.trans ho3)
  clear ho3 H8
  go_wp2_with fail
  go_loopg [7, 57] n (fun gk v7 i wx => ∃ j m : Nat, i = .int .i64 j ∧ v7 = .int .i64 m ∧ j + gk ≤ n ∧ n ≤ j + gk ∧ m ≤ j ∧ Hid (sumTo j (fun s => nz (ln L s)) = m) ∧ wx = w3)
  case atStart => exact ⟨0, 0, rfl, rfl, by omega, by omega, by omega, Lib.hid rfl, rfl⟩
  case round =>
    obtain ⟨j, m, rfl, rfl, hg1, hg2, hmj, HM, rfl⟩ := hrel
    by_cases hlt : j < n
    · obtain ⟨b, off, rfl, _, hc⟩ := HSee.out wr HO3.out j _ (ints_at c j (by rw [HN.out]; exact hlt))
      obtain ⟨b2, off2, e2, _, hcL⟩ := HLS.out wr HO23.out j _ (ints_at L j (by rw [HG.out.len, HN.out]; exact hlt))
      obtain ⟨rfl, rfl⟩ : gl = b2 ∧ 0 = off2 := by simpa using e2
      rw [Nat.zero_add] at hcL
      have hpos := HG.out.pos j
      have htop := HG.out.top j
      have s2 : sumTo (j + 1) (fun s => nz (ln L s)) = m + nz (ln L j) := by rw [sumTo, HM.out]
      obtain ⟨x, hx⟩ : ∃ x, ln c j = x := ⟨_, rfl⟩
      obtain ⟨y, hy⟩ : ∃ y, ln L j = y := ⟨_, rfl⟩
      rw [hx] at hc hpos
      rw [hy] at hcL hpos htop s2
      have dt : decide ((most : Int) < (y : Int)) = false := by simp; omega
      by_cases hx0 : 0 < x
      · have hy0 : 0 < y := hpos.2 hx0
        have S2 : Hid (sumTo (j + 1) (fun s => nz (ln L s)) = m + 1) := Lib.hid (by rw [s2]; unfold nz; rw [if_neg (by omega)])
        have dx : decide (0 < (x : Int)) = true := by simp; omega
        have dy : decide (0 < (y : Int)) = true := by simp; omega
        clear hpos s2 hx hy e2
        go_wp2_with fail
        go_roundg (gk - 1)
        case measure => omega
        case rel => exact ⟨j + 1, m + 1, by go_num, by go_num, by omega, by omega, by omega, S2, rfl⟩
      · obtain rfl : x = 0 := by omega
        obtain rfl : y = 0 := by omega
        have S2 : Hid (sumTo (j + 1) (fun s => nz (ln L s)) = m) := Lib.hid (by rw [s2]; simp [nz])
        clear hpos s2 hx hy e2
        go_wp2_with fail
        go_roundg (gk - 1)
        case measure => omega
        case rel => exact ⟨j + 1, m, by go_num, rfl, by omega, by omega, by omega, S2, rfl⟩
    · obtain rfl : j = n := by omega
      have hnum := HG.out.num
      rw [HN.out, HM.out] at hnum
      have HC9 := Lib.hid (checkRef (some ⟨gl, 0, none⟩) j j _ most _ c L wr (HLS.out wr HO23.out) HN.out (by omega) HG.out hm15)
      go_wp2_with fail
      refine HC9.out.mono ?_
      rintro e w4 ⟨kind, rfl, hk0, hk1, rfl⟩
      have hLs : Short L := fun x hx => by
        obtain ⟨q, hq, rfl⟩ := List.getElem_of_mem hx
        have := HG.out.top q
        simp only [ln, List.getD_eq_getElem?_getD, List.getElem?_eq_getElem hq, Option.getD_some] at this
        omega
      have hLn : L.length = j := by rw [HG.out.len]; exact HN.out
      have H10 := Lib.hid (cost_yes A (some ⟨gl, 0, none⟩) j k j _ _ c L wr (HSee.out wr HO3.out) (HLS.out wr HO23.out) HN.out hLn (by omega) HL.out hLs)
      have H11 := Lib.hid (lawCost A (some ⟨gl, 0, none⟩) j k j j _ _ c L wr (HSee.out wr HO3.out) (HLS.out wr HO23.out) HN.out hLn (Nat.le_refl _) (by omega) HL.out hLs)
      have hcost := HG.out.cost
      rw [hcost] at H10 H11
      obtain ⟨C, hC⟩ : ∃ C, leastOf W most = C := ⟨_, rfl⟩
      rw [hC] at H10 H11 H12
      have hs2 : some_ c = m := hnum.symm
      rw [hs2] at hk0 hk1
      clear hLs hLn hcost hC hnum hs2 HC9
      rcases Nat.lt_trichotomy m 1 with h1 | h1 | h1
      · obtain rfl : m = 0 := by omega
        clear hk0 hk1
        go_wp2_with fail
        refine H10.out.mono ?_
        rintro e w5 ⟨rfl, rfl⟩
        go_wp2_with fail
        refine H11.out.mono ?_
        rintro e w6 ⟨rfl, ho6⟩
        have HO6 := Lib.hid (HO3.out.trans ho6)
        clear ho6
        go_wp2_with fail
        refine (H12.out w6 HO6.out).mono ?_
        rintro e w7 ⟨rfl, ho7⟩
        have HO7 := Lib.hid (HO6.out.trans ho7)
        clear ho7
        go_wp2
        go_ret
        exact ⟨rfl, HO7.out⟩
      · subst h1
        obtain rfl := hk1 rfl
        clear hk0 hk1
        go_wp2_with fail
        refine H10.out.mono ?_
        rintro e w5 ⟨rfl, rfl⟩
        go_wp2_with fail
        refine H11.out.mono ?_
        rintro e w6 ⟨rfl, ho6⟩
        have HO6 := Lib.hid (HO3.out.trans ho6)
        clear ho6
        go_wp2_with fail
        refine (H12.out w6 HO6.out).mono ?_
        rintro e w7 ⟨rfl, ho7⟩
        have HO7 := Lib.hid (HO6.out.trans ho7)
        clear ho7
        go_wp2
        go_ret
        exact ⟨rfl, HO7.out⟩
      · obtain rfl := hk0 (by omega)
        have dm : decide (1 < (m : Int)) = true := by simp; omega
        have nm : ¬ (m : Int) = 1 := by omega
        have em : ((m : Int) == 1) = false := by simpa using nm
        clear hk0 hk1
        go_wp2_with fail
        refine H10.out.mono ?_
        rintro e w5 ⟨rfl, rfl⟩
        go_wp2_with fail
        refine H11.out.mono ?_
        rintro e w6 ⟨rfl, ho6⟩
        have HO6 := Lib.hid (HO3.out.trans ho6)
        clear ho6
        go_wp2_with fail
        refine (H12.out w6 HO6.out).mono ?_
        rintro e w7 ⟨rfl, ho7⟩
        have HO7 := Lib.hid (HO6.out.trans ho7)
        clear ho7
        go_wp2
        go_ret
        exact ⟨rfl, HO7.out⟩

set_option maxRecDepth 100000 in
set_option maxHeartbeats 4000000 in
theorem law1 (A : Option Addr) (n k : Nat) (z : List Int) (most : Int) (w : World) (h : See w w.heap.size A (zints z)) (hn : z.length = n) (hm : n ≤ maxLen) : Calls Try.prog 3 #[.slice A n k, .int .i64 most] w (Yes w) := by
  unfold maxLen at hm
  by_cases hbig : 300 < n ∨ (100 < n ∧ n ≤ 288)
  · clear h hn
    by_cases h1 : 300 < n
    · have d1 : decide (100 < (n : Int)) = true := by simp; omega
      have d2 : decide ((n : Int) ≤ 288) = false := by simp; omega
      have d3 : decide (300 < (n : Int)) = true := by simp; omega
      clear hbig
      go_enter Try.func3, Try.ntmps3
      go_wp2_with fail
      refine (awake w).mono ?_
      rintro e w1 ⟨rfl, ho1⟩
      have HO1 := Lib.hid ho1
      clear ho1
      go_wp2
      go_ret
      exact ⟨rfl, HO1.out⟩
    · have d1 : decide (100 < (n : Int)) = true := by simp; omega
      have d2 : decide ((n : Int) ≤ 288) = true := by simp; omega
      clear hbig
      go_enter Try.func3, Try.ntmps3
      go_wp2_with fail
      refine (awake w).mono ?_
      rintro e w1 ⟨rfl, ho1⟩
      have HO1 := Lib.hid ho1
      clear ho1
      go_wp2
      go_ret
      exact ⟨rfl, HO1.out⟩
  · have h300 : n ≤ 300 := by omega
    have hnot : n ≤ 100 ∨ 288 < n := by omega
    by_cases hz : Okay z
    · obtain ⟨c, e, hl1, hl2, hl3⟩ := hz.nat
      rw [e] at h
      rw [hn] at hl1
      rw [hl1] at hl2
      by_cases hmo : most < 1 ∨ 15 < most
      · exact law1_bad A n k most w h300 hnot (fun w' ho => lengths_most A n k most true w' (allowed_yes A n k _ c w' (h.new ho) hl1 hl2 hl3) (.inr hmo)) (fun w' ho => asked_bad A n k most true w' (right_yes A n k _ c w' (h.new ho) hl1 hl2 hl3) (.inr hmo))
      · obtain ⟨mo, rfl⟩ : ∃ mo : Nat, most = (mo : Int) := ⟨most.toNat, by omega⟩
        by_cases hs : some_ c ≤ 2 ^ mo
        · exact law1_good A n k mo c w h hl1 (by omega) hl3 (by omega) (by omega) hs
        · exact law1_bad A n k mo w h300 hnot (fun w' ho => lengths_many A n k mo _ c w' (h.new ho) ho.size hl1 hl2 hl3 (by omega) (by omega) (by omega)) (fun w' ho => by
            have := asked A n k mo _ c w' (h.new ho) hl1 hl2 hl3 (by omega) (by omega)
            rw [if_neg hs] at this
            exact this)
    · exact law1_bad A n k most w h300 hnot (fun w' ho => lengths_most A n k most false w' (allowed_no A n k _ z w' (h.new ho) hn h300 hz) (.inl rfl)) (fun w' ho => asked_bad A n k most false w' (right_no A n k _ z w' (h.new ho) hn h300 hz) (.inl rfl))
end Go.Proofs.Ytjbohidkjlnalaa
