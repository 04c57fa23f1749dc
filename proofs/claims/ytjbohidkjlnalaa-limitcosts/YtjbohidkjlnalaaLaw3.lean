/- Layer 6: the walk of LimitCosts. -/
import Derived.Test.YtjbohidkjlnalaaLaw1
import Derived.Test.YtjbohidkjlnalaaMMath
namespace Go.Proofs.Ytjbohidkjlnalaa
open Go.RowKit

set_option maxRecDepth 100000 in
set_option maxHeartbeats 8000000 in
theorem law3_bad (A Al : Option Addr) (n k m kl : Nat) (z : List Int) (most : Int) (b0 : Bool) (w : World) (hn : n ≤ 60) (hm : m ≤ 60) (h : See w w.heap.size Al (zints z)) (hz : z.length = m) (h10 : ∀ w', Only (fun _ => False) w w' → Calls Try.prog 10 #[.slice A n k, .slice Al m kl] w' (CostNo w'))
    (h14 : ∀ w', Only (fun _ => False) w w' → Calls Try.prog 14 #[.slice A n k] w' fun e w'' => e = .returned (.bool b0) ∧ w' = w'') (hbad : ¬ (b0 = true ∧ m = n ∧ ∀ x ∈ z, 0 ≤ x ∧ x ≤ 1000)) :
    Calls Try.prog 5 #[.slice A n k, .slice Al m kl, .int .i64 most] w (Yes w) := by
  have H10 := Lib.hid h10
  have H14 := Lib.hid h14
  have HS := Lib.hid h
  have HZ := Lib.hid hz
  have HB := Lib.hid hbad
  have d1 : decide (60 < (n : Int)) = false := by simp; omega
  have d2 : decide (60 < (m : Int)) = false := by simp; omega
  clear h10 h14 h hz hbad
  go_enter Try.func5, Try.ntmps5
  go_wp2_with fail
  refine (awake w).mono ?_
  rintro e w1 ⟨rfl, ho1⟩
  have HO1 := Lib.hid ho1
  clear ho1
  go_wp2_with fail
  refine (H10.out w1 HO1.out).mono ?_
  rintro e w2 ⟨rfl, rfl⟩
  go_upto_region 6 with fail
  go_cut [9] (fun v wx => ∃ B : Bool, v = .bool B ∧ Hid (B = true → b0 = true ∧ m = n) ∧ wx = w1)
  case first =>
    go_wp2_with fail
    refine (H14.out w1 HO1.out).mono ?_
    rintro e w2 ⟨rfl, rfl⟩
    cases b0 with
    | false =>
      go_wp2_with fail
      go_meet
      exact ⟨false, rfl, Lib.hid (fun h => by cases h), rfl⟩
    | true =>
      by_cases hmn : m = n
      · subst hmn
        go_wp2_with fail
        go_meet
        exact ⟨true, rfl, Lib.hid (fun _ => ⟨by first | rfl | trivial, by first | rfl | trivial⟩), rfl⟩
      · have hmn2 : ¬ (m : Int) = (n : Int) := by omega
        have hmn3 : ((m : Int) == (n : Int)) = false := by simpa using hmn2
        go_wp2_with fail
        go_meet
        exact ⟨false, rfl, Lib.hid (fun h => by cases h), rfl⟩
  case rest =>
    obtain ⟨B0, rfl, HB0, rfl⟩ := hcut
    go_wp2_with fail
    go_loopg [9, 43] m (fun gk v9 i wx => ∃ (j : Nat) (B : Bool), i = .int .i64 j ∧ v9 = .bool B ∧ j + gk ≤ m ∧ m ≤ j + gk ∧ Hid (B = true → (b0 = true ∧ m = n) ∧ ∀ q, q < j → 0 ≤ z.getD q 0 ∧ z.getD q 0 ≤ 1000) ∧ wx = wc)
    case atStart => exact ⟨0, B0, rfl, rfl, by omega, by omega, Lib.hid (fun h => ⟨HB0.out h, fun q hq => by omega⟩), rfl⟩
    case round =>
      obtain ⟨j, B, rfl, rfl, hg1, hg2, HI, rfl⟩ := hrel
      by_cases hlt : j < m
      · obtain ⟨b, off, rfl, _, hc⟩ := (HS.out.new HO1.out) j _ (zints_at z j (by rw [HZ.out]; exact hlt))
        obtain ⟨x, hx⟩ : ∃ x, z.getD j 0 = x := ⟨_, rfl⟩
        rw [hx] at hc
        have HX := Lib.hid hx
        clear hx
        cases B with
        | false =>
          go_wp2_with fail
          go_roundg (gk - 1)
          case measure => omega
          case rel => exact ⟨j + 1, false, by go_num, rfl, by omega, by omega, Lib.hid (fun h => by cases h), rfl⟩
        | true =>
          by_cases h1 : 0 ≤ x
          · have e1 : decide (x ≥ 0) = true := decide_eq_true h1
            have e1' : decide (0 ≤ x) = true := decide_eq_true h1
            by_cases h2 : x ≤ 1000
            · have e2 : decide (x ≤ 1000) = true := decide_eq_true h2
              go_wp2_with fail
              go_roundg (gk - 1)
              case measure => omega
              case rel =>
                refine ⟨j + 1, true, by go_num, rfl, by omega, by omega, Lib.hid (fun _ => ⟨(HI.out (by first | rfl | trivial)).1, fun q hq => ?_⟩), rfl⟩
                rcases Nat.lt_or_ge q j with h3 | h3
                · exact (HI.out (by first | rfl | trivial)).2 q h3
                · obtain rfl : q = j := by omega
                  rw [HX.out]
                  exact ⟨h1, h2⟩
            · have e2 : decide (x ≤ 1000) = false := decide_eq_false h2
              go_wp2_with fail
              go_roundg (gk - 1)
              case measure => omega
              case rel => exact ⟨j + 1, false, by go_num, rfl, by omega, by omega, Lib.hid (fun h => by cases h), rfl⟩
          · have e1 : decide (x ≥ 0) = false := decide_eq_false h1
            have e1' : decide (0 ≤ x) = false := decide_eq_false h1
            go_wp2_with fail
            go_roundg (gk - 1)
            case measure => omega
            case rel => exact ⟨j + 1, false, by go_num, rfl, by omega, by omega, Lib.hid (fun h => by cases h), rfl⟩
      · obtain rfl : j = m := by omega
        cases B with
        | true =>
          exfalso
          have h3 := HI.out (by first | rfl | trivial)
          refine HB.out ⟨h3.1.1, h3.1.2, fun x hx => ?_⟩
          obtain ⟨q, hq, rfl⟩ := List.getElem_of_mem hx
          have := h3.2 q (by have := HZ.out; omega)
          simpa [hq] using this
        | false =>
          go_wp2
          go_ret
          exact ⟨rfl, HO1.out⟩

set_option maxRecDepth 100000 in
set_option maxHeartbeats 8000000 in
theorem law3_good (A Al : Option Addr) (n k kl : Nat) (c L : List Nat) (most : Int) (w : World) (hn60 : n ≤ 60) (h : See w w.heap.size A (ints c)) (hL : See w w.heap.size Al (ints L)) (hn : c.length = n) (hLn : L.length = n) (hl : Low c) (hs : Short L) :
    Calls Try.prog 5 #[.slice A n k, .slice Al n kl, .int .i64 most] w (Yes w) := by
  have H10 : Hid (∀ w', Only (fun _ => False) w w' → Calls Try.prog 10 #[.slice A n k, .slice Al n kl] w' fun e w'' => e = .returned (.tuple #[.int .i64 (costOf c L : Nat), .int .i64 0]) ∧ w' = w'') := Lib.hid fun w' ho => cost_yes A Al n k kl _ _ c L w' (h.new ho) (hL.new ho) hn hLn (by omega) hl hs
  have H11 : Hid (∀ w', Only (fun _ => False) w w' → Calls Try.prog 11 #[.slice A n k, .slice Al n kl] w' fun e w'' => e = .returned (.int .i64 (costOf c L : Nat)) ∧ Only (fun _ => False) w' w'') := Lib.hid fun w' ho => lawCost A Al n k n kl _ _ c L w' (h.new ho) (hL.new ho) hn hLn (Nat.le_refl _) (by omega) hl hs
  have H14 : Hid (∀ w', Only (fun _ => False) w w' → Calls Try.prog 14 #[.slice A n k] w' fun e w'' => e = .returned (.bool true) ∧ w' = w'') := Lib.hid fun w' ho => rightX A n k true w' (right_yes A n k _ c w' (h.new ho) hn (by omega) hl)
  have HSL : Hid (∀ w', Only (fun _ => False) w w' → See w' w.heap.size Al (ints L)) := Lib.hid fun w' ho => hL.new ho
  have HSC : Hid (∀ w', Only (fun _ => False) w w' → See w' w.heap.size A (ints c)) := Lib.hid fun w' ho => h.new ho
  have HLn := Lib.hid hLn
  have HN := Lib.hid hn
  have HLo := Lib.hid hl
  have HSh := Lib.hid hs
  obtain ⟨C, hC⟩ : ∃ C, costOf c L = C := ⟨_, rfl⟩
  rw [hC] at H10 H11
  have d1 : decide (60 < (n : Int)) = false := by simp; omega
  clear h hL hn hLn hl hs hC
  go_enter Try.func5, Try.ntmps5
  go_wp2_with fail
  refine (awake w).mono ?_
  rintro e w1 ⟨rfl, ho1⟩
  have HO1 := Lib.hid ho1
  clear ho1
  go_wp2_with fail
  refine (H10.out w1 HO1.out).mono ?_
  rintro e w2 ⟨rfl, rfl⟩
  go_wp2_with fail
  refine (H14.out w1 HO1.out).mono ?_
  rintro e w2 ⟨rfl, rfl⟩
  go_wp2_with fail
  go_loopg [9, 43] n (fun gk v9 i wx => ∃ (j : Nat), i = .int .i64 j ∧ v9 = .bool true ∧ j + gk ≤ n ∧ n ≤ j + gk ∧ wx = w1)
  case atStart => exact ⟨0, rfl, rfl, by omega, by omega, rfl⟩
  case round =>
    obtain ⟨j, rfl, rfl, hg1, hg2, rfl⟩ := hrel
    by_cases hlt : j < n
    · obtain ⟨b, off, rfl, _, hc⟩ := HSL.out wr HO1.out j _ (ints_at L j (by rw [HLn.out]; exact hlt))
      have hx := short_ln HSh.out j
      obtain ⟨x, hx1⟩ : ∃ x, ln L j = x := ⟨_, rfl⟩
      rw [hx1] at hc hx
      have e1 : decide ((x : Int) ≥ 0) = true := decide_eq_true (by omega)
      have e2 : decide ((x : Int) ≤ 1000) = true := decide_eq_true (by omega)
      clear hx1
      go_wp2_with fail
      go_roundg (gk - 1)
      case measure => omega
      case rel => exact ⟨j + 1, by go_num, rfl, by omega, by omega, rfl⟩
    · obtain rfl : j = n := by omega
      go_wp2_with fail
      refine (H11.out wr HO1.out).mono ?_
      rintro e w3 ⟨rfl, ho3⟩
      have HO3 := Lib.hid (HO1.out.trans ho3)
      clear ho3 H10 H11 H14
      by_cases hm1 : most < 1
      · have f1 : decide (most < 1) = true := decide_eq_true hm1
        go_wp2
        go_ret
        exact ⟨rfl, HO3.out⟩
      · have f1 : decide (most < 1) = false := decide_eq_false hm1
        by_cases hm14 : 14 < most
        · have f2 : decide (14 < most) = true := decide_eq_true hm14
          go_wp2
          go_ret
          exact ⟨rfl, HO3.out⟩
        · have f2 : decide (14 < most) = false := decide_eq_false hm14
          obtain ⟨mo, rfl⟩ : ∃ mo : Nat, most = (mo : Int) := ⟨most.toNat, by omega⟩
          have HA := Lib.hid (asked A j k mo _ c w3 (HSC.out w3 HO3.out) HN.out (by omega) HLo.out (by omega) (by omega))
          go_wp2_with fail
          refine HA.out.mono ?_
          rintro e w4 ⟨rfl, ho4⟩
          have HO4 := Lib.hid (HO3.out.trans ho4)
          clear ho4 HA
          by_cases hsome : some_ c ≤ 2 ^ mo
          · rw [if_pos hsome]
            obtain ⟨W, hW⟩ := Wt.exists c
            have hs2 : some_ c ≤ 2 ^ (mo + 1) := Nat.le_trans hsome (Nat.pow_le_pow_right (by decide) (by omega))
            have hfall := least_falls hW.1 mo (by omega) (by rw [hW.len]; exact hsome)
            have HLe := Lib.hid hfall
            have HW := Lib.hid hW
            have HA1 := Lib.hid (lengths A j k mo _ c w4 (HSC.out w4 HO4.out) HO4.out.size HN.out (by omega) HLo.out (by omega) (by omega) hsome)
            have HA2 : Hid (∀ w', Only (fun _ => False) w w' → Calls Try.prog 7 #[.slice A j k, .int .i64 ((mo + 1 : Nat) : Int)] w' (LensPost w' c j 15 (mo + 1) (fun W => leastOf W (mo + 1)))) := Lib.hid fun w' ho => lengths A j k (mo + 1) _ c w' (HSC.out w' ho) ho.size HN.out (by omega) HLo.out (by omega) (by omega) hs2
            obtain ⟨m1, hm1'⟩ : ∃ m1, mo + 1 = m1 := ⟨_, rfl⟩
            rw [hm1'] at HA2 HLe
            have em1 : (mo : Int) + 1 = (m1 : Int) := by omega
            clear hsome hs2 hfall hW
            go_wp2_with fail
            refine HA1.out.mono ?_
            rintro e w5 ⟨ga, La, rfl, hma, hga⟩
            have HGa := Lib.hid (hga W HW.out)
            have HMa := Lib.hid hma
            have HO5 := Lib.hid (HO4.out.trans hma.2.1)
            clear hma hga HA1
            go_wp2_with fail
            refine (HA2.out w5 HO5.out).mono ?_
            rintro e w6 ⟨gb, Lb, rfl, hmb, hgb⟩
            have HGb := Lib.hid (hgb W HW.out)
            have HO56 := Lib.hid hmb.2.1
            have HO6 := Lib.hid (HO5.out.trans hmb.2.1)
            have HMb := Lib.hid hmb
            have hsa : Short La := fun x hx => by
              obtain ⟨q, hq, rfl⟩ := List.getElem_of_mem hx
              have := HGa.out.top q
              simp only [ln, List.getD_eq_getElem?_getD, List.getElem?_eq_getElem hq, Option.getD_some] at this
              omega
            have hsb : Short Lb := fun x hx => by
              obtain ⟨q, hq, rfl⟩ := List.getElem_of_mem hx
              have := HGb.out.top q
              simp only [ln, List.getD_eq_getElem?_getD, List.getElem?_eq_getElem hq, Option.getD_some] at this
              omega
            have HCb := Lib.hid (lawCost A (some ⟨gb, 0, none⟩) j k j j _ _ c Lb w6 (HSC.out w6 HO6.out) hmb.see HN.out (by rw [HGb.out.len]; exact HN.out) (Nat.le_refl _) (by omega) HLo.out hsb)
            have HCa : Hid (∀ w', Only (fun _ => False) w6 w' → Calls Try.prog 11 #[.slice A j k, .slice (some ⟨ga, 0, none⟩) j j] w' fun e w'' => e = .returned (.int .i64 (costOf c La : Nat)) ∧ Only (fun _ => False) w' w'') := Lib.hid fun w' ho => lawCost A (some ⟨ga, 0, none⟩) j k j j _ _ c La w' (HSC.out w' (HO6.out.trans ho)) (HMa.out.see.new (HO56.out.trans ho)) HN.out (by rw [HGa.out.len]; exact HN.out) (Nat.le_refl _) (by omega) HLo.out hsa
            rw [HGb.out.cost] at HCb
            rw [HGa.out.cost] at HCa
            have hle := HLe.out
            obtain ⟨ca, hca⟩ : ∃ ca, leastOf W mo = ca := ⟨_, rfl⟩
            obtain ⟨cb, hcb⟩ : ∃ cb, leastOf W m1 = cb := ⟨_, rfl⟩
            simp only [hca] at HCa hle
            simp only [hcb] at HCb hle
            clear hmb hgb HA2 hca hcb hsa hsb HLe
            go_wp2_with fail
            refine HCb.out.mono ?_
            rintro e w7 ⟨rfl, ho7⟩
            have HO7 := Lib.hid ho7
            clear ho7
            go_wp2_with fail
            refine (HCa.out w7 HO7.out).mono ?_
            rintro e w8 ⟨rfl, ho8⟩
            have HO8 := Lib.hid (HO6.out.trans (HO7.out.trans ho8))
            clear ho8
            go_wp2
            go_ret
            exact ⟨rfl, HO8.out⟩
          · rw [if_neg hsome]
            go_wp2
            go_ret
            exact ⟨rfl, HO4.out⟩

set_option maxRecDepth 100000 in
set_option maxHeartbeats 4000000 in
theorem law3 (A Al : Option Addr) (n k m kl : Nat) (z zl : List Int) (most : Int) (w : World) (h : See w w.heap.size A (zints z)) (hn : z.length = n) (hm : n ≤ maxLen) (hL : See w w.heap.size Al (zints zl)) (hLn : zl.length = m) (hmL : m ≤ maxLen) :
    Calls Try.prog 5 #[.slice A n k, .slice Al m kl, .int .i64 most] w (Yes w) := by
  unfold maxLen at hm hmL
  by_cases hbig : 60 < n ∨ 60 < m
  · clear h hn hL hLn
    by_cases h1 : 60 < n
    · have d1 : decide (60 < (n : Int)) = true := by simp; omega
      clear hbig
      go_enter Try.func5, Try.ntmps5
      go_wp2_with fail
      refine (awake w).mono ?_
      rintro e w1 ⟨rfl, ho1⟩
      have HO1 := Lib.hid ho1
      clear ho1
      go_wp2
      go_ret
      exact ⟨rfl, HO1.out⟩
    · have d1 : decide (60 < (n : Int)) = false := by simp; omega
      have d2 : decide (60 < (m : Int)) = true := by simp; omega
      clear hbig
      go_enter Try.func5, Try.ntmps5
      go_wp2_with fail
      refine (awake w).mono ?_
      rintro e w1 ⟨rfl, ho1⟩
      have HO1 := Lib.hid ho1
      clear ho1
      go_wp2
      go_ret
      exact ⟨rfl, HO1.out⟩
  · have hn60 : n ≤ 60 := by omega
    have hm60 : m ≤ 60 := by omega
    by_cases hz : Okay z
    · obtain ⟨c, e, hl1, hl2, hl3⟩ := hz.nat
      rw [e] at h
      rw [hn] at hl1
      rw [hl1] at hl2
      have H14 := fun w' ho => rightX A n k true w' (right_yes A n k _ c w' (h.new ho) hl1 hl2 hl3)
      have H16 := fun w' ho => allowed_yes A n k _ c w' (h.new ho) hl1 hl2 hl3
      by_cases hmn : m = n
      · by_cases hs : ∀ x ∈ zl, 0 ≤ x ∧ x ≤ 1000
        · subst hmn
          have e2 : zints zl = ints (zl.map Int.toNat) := by
            simp only [zints, ints, List.map_map]
            refine List.map_congr_left fun x hx => ?_
            have := hs x hx
            simp
            omega
          rw [e2] at hL
          refine law3_good A Al m k kl c (zl.map Int.toNat) most w hn60 h hL hl1 (by simpa using hLn) hl3 fun x hx => ?_
          obtain ⟨y, hy, rfl⟩ := List.mem_map.1 hx
          have := hs y hy
          omega
        · subst hmn
          exact law3_bad A Al m k m kl zl most true w hn60 hm60 hL hLn (fun w' ho => cost_long A Al m k kl _ _ c zl w' (h.new ho) (hL.new ho) hl1 hLn hl2 hl3 hs) H14 (fun hh => hs hh.2.2)
      · exact law3_bad A Al n k m kl zl most true w hn60 hm60 hL hLn (fun w' ho => cost_args A Al n k m kl true w' (H16 w' ho) (.inr hmn)) H14 (fun hh => hmn hh.2.1)
    · exact law3_bad A Al n k m kl zl most false w hn60 hm60 hL hLn (fun w' ho => cost_args A Al n k m kl false w' (allowed_no A n k _ z w' (h.new ho) hn (by omega) hz) (.inl rfl)) (fun w' ho => rightX A n k false w' (right_no A n k _ z w' (h.new ho) hn (by omega) hz)) (fun hh => by cases hh.1)
end Go.Proofs.Ytjbohidkjlnalaa
