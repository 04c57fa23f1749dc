/- Layer 14: the law on single letters and the table, over whatever the program's calls answer. -/
import Derived.Test.YtmdcnkcbieifpaaDoorFdV
namespace Go.Proofs.YtmdcnkcbieifpaaDoor
open Go.RowKit
variable {G : World → Prop}

theorem trips_at : ∀ (ps : List (Int × Int × Int)) (i : Nat), i < ps.length → (trips ps)[i * 3]? = some (.int .i64 (ps.getD i (0, 0, 0)).1) ∧ (trips ps)[i * 3 + 1]? = some (.int .i64 (ps.getD i (0, 0, 0)).2.1) ∧ (trips ps)[i * 3 + 2]? = some (.int .i64 (ps.getD i (0, 0, 0)).2.2)
  | [], i, h => absurd h (Nat.not_lt_zero _)
  | p :: r, 0, _ => ⟨rfl, rfl, rfl⟩
  | p :: r, i + 1, h => by
    have ih := trips_at r i (by rw [List.length_cons] at h; omega)
    rw [show (i + 1) * 3 = i * 3 + 1 + 1 + 1 by omega]
    simp only [trips, List.getElem?_cons_succ, List.getD_cons_succ]
    exact ih
theorem scan_step (c : Int) (ps : List (Int × Int × Int)) (i : Nat) (h : i < ps.length) (last more : Int) :
    scanT c (ps.drop i) last more = if (ps.getD i (0, 0, 0)).1 ≤ last ∨ (ps.getD i (0, 0, 0)).2.1 < (ps.getD i (0, 0, 0)).1 ∨ (ps.getD i (0, 0, 0)).2.2 = 0 then none
      else scanT c (ps.drop (i + 1)) (ps.getD i (0, 0, 0)).2.1 (if (ps.getD i (0, 0, 0)).1 ≤ c ∧ c ≤ (ps.getD i (0, 0, 0)).2.1 then (ps.getD i (0, 0, 0)).2.2 else more) := by
  rw [List.drop_eq_getElem_cons h, List.getD_eq_getElem?_getD, List.getElem?_eq_getElem h]
  rfl
theorem small_near (c : Int) : smallI c = c ∨ smallI c = c + 32 ∨ smallI c = c + 80 := by
  unfold smallI
  split
  · exact .inr (.inl rfl)
  · split
    · exact .inr (.inr rfl)
    · exact .inl rfl
theorem small_far (c : Int) (h : 9223372036854775000 ≤ c) : smallI c = c := by
  unfold smallI
  rw [if_neg (by omega), if_neg (by omega)]
set_option maxHeartbeats 8000000 in
theorem foldSmallWalk (C : FdC G) (c : Int) (w : World) (hg : G w) (h1 : -9223372036854775808 ≤ c) (h2 : c ≤ 9223372036854775807) : Calls Tryd.prog 4 #[.int .i64 c] w fun e w' => e = .returned (.bool true) ∧ Only (fun _ => False) w w' := by
  have HAW := Lib.hid (awake14 C w hg)
  have HK : Hid (∀ w', Only (fun _ => False) w w' → G w') := Lib.hid fun w' k => C.keep w w' hg k
  clear hg
  have H1 : Hid (∀ w1, G w1 → _) := Lib.hid fun w1 h => C.small c w1 h h1 h2
  have H2 := Lib.hid fun w1 => rsmall c w1 h1 h2
  have H3 : Hid (∀ w1, G w1 → _) := Lib.hid fun w1 h => C.table w1 h
  have hn := small_near c
  have hf := small_far c
  obtain ⟨n, hN⟩ : ∃ n, smallI c = n := ⟨_, rfl⟩
  obtain ⟨D, hD⟩ : ∃ D, n - c = D := ⟨_, rfl⟩
  have HN := Lib.hid hN
  rw [hN] at H1 H2 hn hf
  have hnb : -9223372036854775808 ≤ n ∧ n ≤ 9223372036854775807 := by omega
  have hDb : 0 ≤ D ∧ D ≤ 80 := by omega
  clear hn hf hN
  go_enter Tryd.func4, Tryd.ntmps4
  go_wp2_with fail
  refine HAW.out.mono ?_
  rintro e w1 ⟨rfl, o1⟩
  have O1 := Lib.hid o1
  clear o1 HAW
  go_wp2_with fail
  refine (H1.out _ (HK.out _ O1.out)).mono ?_
  rintro e w2 ⟨rfl, o2⟩
  have O2 := Lib.hid (O1.out.trans o2)
  clear o2 O1 H1
  go_wp2_with fail
  refine (H2.out _).mono ?_
  rintro e _ ⟨rfl, rfl⟩
  clear H2
  go_wp2_with fail
  refine (H3.out _ (HK.out _ O2.out)).mono ?_
  rintro e w3 ⟨⟨B, A, N, cp, ps, rfl, hsee, hlen, hpos, hmax, hin, hscan⟩, o3⟩
  have O3 := Lib.hid (O2.out.trans o3)
  have HSE := Lib.hid hsee
  have HLN := Lib.hid hlen
  have HIN := Lib.hid hin
  have HSC : Hid (scanT c ps (-1) 0 = some D) := Lib.hid (by rw [hscan c, HN.out, hD])
  clear o3 O2 H3 hsee hlen hin hscan
  go_wp2_with fail
  go_loopg [4, 5, 18] N (fun gk u v x wx => ∃ (i : Nat) (more last : Int), u = .int .i64 more ∧ v = .int .i64 last ∧ x = .int .i64 i ∧ i + gk = N ∧ -1 ≤ last ∧ last ≤ 2000000 ∧ 0 ≤ more ∧ more ≤ 2000000 ∧ Hid (scanT c (ps.drop i) last more = some D) ∧ Hid (Only (fun _ => False) w3 wx))
  case atStart => exact ⟨0, 0, -1, rfl, rfl, rfl, by omega, by omega, by omega, by omega, by omega, HSC, Lib.hid (Only.refl _ _)⟩
  case round =>
    obtain ⟨i, more, last, rfl, rfl, rfl, hi, hl1, hl2, hm1, hm2, HC, HO⟩ := hrel
    by_cases hlt : i < N
    · have l4 : (i : Int) < (N : Int) := by omega
      have HT := Lib.hid (trips_at ps i (by rw [HLN.out]; exact hlt))
      obtain ⟨b1, o1, rfl, _, d0⟩ := (HSE.out.new HO.out) (i * 3) _ HT.out.1
      have HD : Hid (∀ j v, (trips ps)[j]? = some v → wr.cell? ⟨b1, o1 + j, none⟩ = some v) := Lib.hid fun j v hv => by
        obtain ⟨b2, o2, e2, _, d⟩ := (HSE.out.new HO.out) j v hv
        obtain ⟨rfl, rfl⟩ : b1 = b2 ∧ o1 = o2 := by simpa using e2
        exact d
      have d1 : wr.cell? ⟨b1, o1 + i * 3 + 1, none⟩ = _ := HD.out _ _ HT.out.2.1
      have d2 : wr.cell? ⟨b1, o1 + i * 3 + 2, none⟩ = _ := HD.out _ _ HT.out.2.2
      have HST := Lib.hid (scan_step c ps i (by rw [HLN.out]; exact hlt) last more)
      have hb := HIN.out (ps.getD i (0, 0, 0)) (by
        rw [List.getD_eq_getElem?_getD, List.getElem?_eq_getElem (by rw [HLN.out]; exact hlt)]
        exact List.getElem_mem _)
      generalize (ps.getD i (0, 0, 0)).1 = x0 at *
      generalize (ps.getD i (0, 0, 0)).2.1 = x1 at *
      generalize (ps.getD i (0, 0, 0)).2.2 = x2 at *
      have hno : ¬ (x0 ≤ last ∨ x1 < x0 ∨ x2 = 0) := fun h => by
        have := HC.out
        rw [HST.out, if_pos h] at this
        cases this
      have HC2 : Hid (scanT c (ps.drop (i + 1)) x1 (if x0 ≤ c ∧ c ≤ x1 then x2 else more) = some D) := Lib.hid (by
        rw [← HC.out, HST.out, if_neg hno])
      have p1 : decide (x0 ≤ last) = false := decide_eq_false (by omega)
      have p2 : decide (x1 < x0) = false := decide_eq_false (by omega)
      have p3 : (x2 == 0) = false := by rw [beq_eq_false_iff_ne]; omega
      have p4 : ¬ x2 = 0 := by omega
      clear hno HST HC HD HT
      by_cases r1 : x0 ≤ c
      · have r2 : decide (x0 ≤ c) = true := decide_eq_true r1
        by_cases r3 : c ≤ x1
        · have r4 : decide (c ≤ x1) = true := decide_eq_true r3
          have HC3 : Hid (scanT c (ps.drop (i + 1)) x1 x2 = some D) := Lib.hid (by rw [← HC2.out, if_pos ⟨r1, r3⟩])
          clear r1 r3 HC2
          go_wp2_with fail
          go_roundg (gk - 1)
          case measure => omega
          case rel => exact ⟨i + 1, x2, x1, rfl, rfl, by go_num, by omega, by omega, by omega, by omega, by omega, HC3, Lib.hid (HO.out.alloc _)⟩
        · have r4 : decide (c ≤ x1) = false := decide_eq_false r3
          have HC3 : Hid (scanT c (ps.drop (i + 1)) x1 more = some D) := Lib.hid (by rw [← HC2.out, if_neg (fun h => r3 h.2)])
          clear r1 r3 HC2
          go_wp2_with fail
          go_roundg (gk - 1)
          case measure => omega
          case rel => exact ⟨i + 1, more, x1, rfl, rfl, by go_num, by omega, by omega, by omega, by omega, by omega, HC3, Lib.hid (HO.out.alloc _)⟩
      · have r2 : decide (x0 ≤ c) = false := decide_eq_false r1
        have HC3 : Hid (scanT c (ps.drop (i + 1)) x1 more = some D) := Lib.hid (by rw [← HC2.out, if_neg (fun h => r1 h.1)])
        clear r1 HC2
        go_wp2_with fail
        go_roundg (gk - 1)
        case measure => omega
        case rel => exact ⟨i + 1, more, x1, rfl, rfl, by go_num, by omega, by omega, by omega, by omega, by omega, HC3, Lib.hid (HO.out.alloc _)⟩
    · obtain rfl : i = N := by omega
      have HE : Hid (more = D) := Lib.hid (by
        have := HC.out
        rw [List.drop_eq_nil_iff.2 (by rw [HLN.out]; exact Nat.le_refl _)] at this
        exact Option.some.inj this)
      obtain rfl := HE.out
      have q : n - c = more := hD
      clear HE
      go_wp2
      go_ret
      exact ⟨rfl, O3.out.trans HO.out⟩
end Go.Proofs.YtmdcnkcbieifpaaDoor
