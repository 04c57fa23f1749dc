/- Layer 13: the awake check; which paths may be, and the path of any name: the law. -/
import Derived.Test.YtaefhfpgehgkmaaDoorRtP
namespace Go.Proofs.YtaefhfpgehgkmaaDoor
open Go.RowKit

set_option maxRecDepth 100000 in
set_option maxHeartbeats 8000000 in
theorem awake13 (w : World) (hg : Gr w) : Calls Tryd.prog 6 #[] w fun e w' => e = .returned (.bool true) ∧ Only (fun _ => False) w w' := by
  have HK : Hid (∀ w', Only (fun _ => False) w w' → Gr w') := Lib.hid fun w' k => hg.keep k
  have H1 : Hid (∀ w1, Gr w1 → Calls Tryd.prog 7 #[.string ⟨#[97, 47, 46, 47, 98, 47, 47]⟩] w1 fun e w' => e = .returned (.tuple #[.string ⟨#[97, 47, 98]⟩, .bool true, .int .i64 0]) ∧ Only (fun _ => False) w1 w') := Lib.hid fun w1 hg1 => by
    have h := pnormal [97, 47, 46, 47, 98, 47, 47] w1 hg1 (by decide)
    have e : normF [97, 47, 46, 47, 98, 47, 47] = ([97, 47, 98], true, 0) := by decide +kernel
    rw [e] at h
    exact h
  have H2 : Hid (∀ w1, Calls Tryd.prog 11 #[.string ⟨#[97, 47, 98]⟩] w1 fun e w' => e = .returned (.tuple #[.string ⟨#[97]⟩, .bool true]) ∧ Only (fun _ => False) w1 w') := Lib.hid fun w1 => pparent [97, 47, 98] w1 (by decide)
  have H3 : Hid (∀ w1, Gr w1 → Calls Tryd.prog 9 #[.string ⟨#[46, 46, 47, 97]⟩] w1 fun e w' => e = .returned (.int .i64 5) ∧ Only (fun _ => False) w1 w') := Lib.hid fun w1 hg1 => by
    have h := pcheck [46, 46, 47, 97] w1 hg1 (by decide)
    have e : rightF [46, 46, 47, 97] = false := by decide +kernel
    rw [e] at h
    exact h
  have H4 : Hid (∀ w1, Gr w1 → Calls Tryd.prog 9 #[.string ⟨#[97]⟩] w1 fun e w' => e = .returned (.int .i64 0) ∧ Only (fun _ => False) w1 w') := Lib.hid fun w1 hg1 => by
    have h := pcheck [97] w1 hg1 (by decide)
    have e : rightF [97] = true := by decide +kernel
    rw [e] at h
    exact h
  have H5 : Hid (∀ w1, Calls Tryd.prog 16 #[.string ⟨#[97, 47, 98]⟩] w1 fun e w' => e = .returned (.string ⟨#[98]⟩) ∧ Only (fun _ => False) w1 w') := Lib.hid fun w1 => pbase [97, 47, 98] w1 (by decide)
  have H6 : Hid (∀ w1, Calls Tryd.prog 20 #[.string ⟨#[97, 47, 98]⟩, .string ⟨#[97]⟩] w1 fun e w' => e = .returned (.bool true) ∧ Only (fun _ => False) w1 w') := Lib.hid fun w1 => punder [97, 47, 98] [97] w1 (by decide) (by decide)
  have H7 : Hid (∀ w1, Calls Tryd.prog 22 #[.string ⟨#[97, 47, 98]⟩, .string ⟨#[97]⟩] w1 fun e w' => e = .returned (.int .i64 1) ∧ Only (fun _ => False) w1 w') := Lib.hid fun w1 => by
    have h := pcompare [97, 47, 98] [97] w1 (by decide) (by decide)
    have e : cmpF (partsF [97, 47, 98]) (partsF [97]) = 1 := by decide +kernel
    rw [e] at h
    exact h
  have H8 : Hid (∀ w1, Calls Tryd.prog 18 #[.string ⟨#[97]⟩, .string ⟨#[98]⟩] w1 fun e w' => e = .returned (.string ⟨#[97, 47, 98]⟩) ∧ Only (fun _ => False) w1 w') := Lib.hid fun w1 => pdir [97] [98] w1 (by decide) (by decide)
  clear hg
  go_enter Tryd.func6, Tryd.ntmps6
  go_wp2_with fail
  refine (H1.out _ (HK.out _ (Only.refl _ _))).mono ?_
  rintro e w1 ⟨rfl, o1⟩
  have O1 := Lib.hid o1
  clear o1 H1
  go_wp2_with fail
  refine (H2.out _).mono ?_
  rintro e w2 ⟨rfl, o2⟩
  have O2 := Lib.hid (O1.out.trans o2)
  clear o2 H2 O1
  go_wp2_with fail
  refine (H3.out _ (HK.out _ O2.out)).mono ?_
  rintro e w3 ⟨rfl, o3⟩
  have O3 := Lib.hid (O2.out.trans o3)
  clear o3 H3 O2
  go_wp2_with fail
  refine (H4.out _ (HK.out _ O3.out)).mono ?_
  rintro e w4 ⟨rfl, o4⟩
  have O4 := Lib.hid (O3.out.trans o4)
  clear o4 H4 O3
  go_wp2_with fail
  refine (H5.out _).mono ?_
  rintro e w5 ⟨rfl, o5⟩
  have O5 := Lib.hid (O4.out.trans o5)
  clear o5 H5 O4
  go_wp2_with fail
  refine (H6.out _).mono ?_
  rintro e w6 ⟨rfl, o6⟩
  have O6 := Lib.hid (O5.out.trans o6)
  clear o6 H6 O5
  go_wp2_with fail
  refine (H7.out _).mono ?_
  rintro e w7 ⟨rfl, o7⟩
  have O7 := Lib.hid (O6.out.trans o7)
  clear o7 H7 O6
  go_wp2_with fail
  refine (H8.out _).mono ?_
  rintro e w8 ⟨rfl, o8⟩
  have O8 := Lib.hid (O7.out.trans o8)
  clear o8 H8 O7
  go_wp2
  go_ret
  exact ⟨rfl, O8.out⟩

set_option maxRecDepth 100000 in
set_option maxHeartbeats 8000000 in
theorem namesWalk (s : ByteArray) (w : World) (hg : Gr w) : Calls Tryd.prog 3 #[.string s] w fun e w' => e = .returned (.bool true) ∧ Only (fun _ => False) w w' := by
  obtain ⟨l, rfl⟩ : ∃ l, s = tx l := ⟨s.data.toList, rfl⟩
  have hz : (tx l).size = l.length := tx_size l
  obtain ⟨n, hn⟩ : ∃ n, l.length = n := ⟨_, rfl⟩
  have HN := Lib.hid hn
  rw [hn] at hz
  clear hn
  have HK : Hid (∀ w', Only (fun _ => False) w w' → Gr w') := Lib.hid fun w' k => hg.keep k
  have HAW := Lib.hid (awake13 w hg)
  clear hg
  go_enter Tryd.func3, Tryd.ntmps3
  go_wp2_with fail
  refine HAW.out.mono ?_
  rintro e w1 ⟨rfl, o1⟩
  have O1 := Lib.hid o1
  clear o1
  by_cases h11 : 1100 < n
  · have h12 : (1100 : Int) < (n : Int) := by omega
    go_wp2
    go_ret
    exact ⟨rfl, O1.out⟩
  · have h12 : ¬ (1100 : Int) < (n : Int) := by omega
    have HPn := Lib.hid (pnormal l w1 (HK.out _ O1.out) (by rw [HN.out]; omega))
    have HRn : Hid (∀ w2, _) := Lib.hid fun w2 => rnormal l w2 (by rw [HN.out]; omega)
    have HPc : Hid (∀ w2, Gr w2 → _) := Lib.hid fun w2 hg2 => pcheck l w2 hg2 (by rw [HN.out]; omega)
    have HRr : Hid (∀ w2, _) := Lib.hid fun w2 => rright l w2 (by rw [HN.out]; omega)
    have HCS := Lib.hid (norm_cases l)
    have HPL := path_len l
    rw [HN.out] at HPL
    obtain ⟨P, hP⟩ : ∃ P, (normF l).1 = P := ⟨_, rfl⟩
    obtain ⟨D, hD⟩ : ∃ D, (normF l).2.1 = D := ⟨_, rfl⟩
    obtain ⟨F, hF⟩ : ∃ F, (normF l).2.2 = F := ⟨_, rfl⟩
    have HQ : Hid (normF l = (P, D, F)) := Lib.hid (by rw [← hP, ← hD, ← hF])
    rw [hP, hD, hF] at HPn HRn
    clear hP hD hF
    go_wp2_with fail
    refine HPn.out.mono ?_
    rintro e w2 ⟨rfl, o2⟩
    have O2 := Lib.hid (O1.out.trans o2)
    clear o2 HPn O1
    go_wp2_with fail
    refine (HRn.out _).mono ?_
    rintro e w3 ⟨rfl, o3⟩
    have O3 := Lib.hid (O2.out.trans o3)
    clear o3 HRn O2
    have hFb : -1000 ≤ F ∧ F ≤ 1000 := by
      have h1 := HQ.out
      rcases HCS.out with e | ⟨_, e⟩ <;> rw [e] at h1 <;> simp only [Prod.mk.injEq] at h1 <;> omega
    go_wp2_with fail
    refine (HPc.out _ (HK.out _ O3.out)).mono ?_
    rintro e w4 ⟨rfl, o4⟩
    have O4 := Lib.hid (O3.out.trans o4)
    clear o4 O3
    obtain ⟨R, hR⟩ : ∃ R, rightF l = R := ⟨_, rfl⟩
    rw [hR] at HPc HRr ⊢
    clear hR
    obtain ⟨K, hK⟩ : ∃ K : Int, (if R = true then 0 else 5) = K := ⟨_, rfl⟩
    rw [hK] at HPc ⊢
    go_wp2_with fail
    refine (HRr.out _).mono ?_
    rintro e w5 ⟨rfl, o5⟩
    have O5 := Lib.hid (O4.out.trans o5)
    clear o5 O4
    cases R with
    | true =>
      obtain rfl : K = 0 := by rw [← hK]; rfl
      clear hK
      go_wp2_with fail
      refine (HPc.out _ (HK.out _ O5.out)).mono ?_
      rintro e w6 ⟨rfl, o6⟩
      have O6 := Lib.hid (O5.out.trans o6)
      clear o6 O5
      go_wp2_with fail
      refine (HRr.out _).mono ?_
      rintro e w7 ⟨rfl, o7⟩
      have O7 := Lib.hid (O6.out.trans o7)
      clear o7 O6
      rcases HCS.out with e | ⟨hr, e⟩
      · have h1 := HQ.out
        rw [e] at h1
        simp only [Prod.mk.injEq] at h1
        obtain ⟨rfl, rfl, rfl⟩ := h1
        clear e
        go_wp2
        go_ret
        exact ⟨rfl, O7.out⟩
      · have h1 := HQ.out
        rw [e] at h1
        simp only [Prod.mk.injEq] at h1
        obtain ⟨rfl, rfl, rfl⟩ := h1
        have HA := Lib.hid fun w1 hg1 => pnormal (pathF l) w1 hg1 (by omega)
        have HB := Lib.hid fun w1 hg1 => pnormal (pathF l ++ [47]) w1 hg1 (by rw [List.length_append, List.length_cons, List.length_nil]; omega)
        have HC := Lib.hid fun w1 hg1 => pcheck (pathF l) w1 hg1 (by omega)
        rw [norm_again l hr] at HA
        rw [norm_slash l hr] at HB
        rw [if_pos hr] at HC
        have ha := add_tx (P := Tryd.prog) (pathF l) [47] (by omega) (by decide)
        have h47 : (⟨#[47]⟩ : ByteArray) = tx [47] := rfl
        clear e hr HCS HQ
        generalize decide (l.getD (l.length - 1) 0 = 47) = D at *
        generalize pathF l = P at *
        go_wp2_with fail
        refine (HA.out _ (HK.out _ O7.out)).mono ?_
        rintro e w8 ⟨rfl, o8⟩
        have O8 := Lib.hid (O7.out.trans o8)
        clear o8 O7
        go_wp2_with fail
        refine (HB.out _ (HK.out _ O8.out)).mono ?_
        rintro e w9 ⟨rfl, o9⟩
        have O9 := Lib.hid (O8.out.trans o9)
        clear o9 O8
        go_wp2_with fail
        refine (HC.out _ (HK.out _ O9.out)).mono ?_
        rintro e wa ⟨rfl, oa⟩
        have OA := Lib.hid (O9.out.trans oa)
        clear oa O9
        go_wp2
        go_ret
        exact ⟨rfl, OA.out⟩
    | false =>
      obtain rfl : K = 5 := by rw [← hK]; rfl
      clear hK
      go_wp2_with fail
      refine (HPc.out _ (HK.out _ O5.out)).mono ?_
      rintro e w6 ⟨rfl, o6⟩
      have O6 := Lib.hid (O5.out.trans o6)
      clear o6 O5
      go_wp2_with fail
      refine (HRr.out _).mono ?_
      rintro e w7 ⟨rfl, o7⟩
      have O7 := Lib.hid (O6.out.trans o7)
      clear o7 O6
      rcases HCS.out with e | ⟨hr, e⟩
      · have h1 := HQ.out
        rw [e] at h1
        simp only [Prod.mk.injEq] at h1
        obtain ⟨rfl, rfl, rfl⟩ := h1
        clear e
        go_wp2
        go_ret
        exact ⟨rfl, O7.out⟩
      · have h1 := HQ.out
        rw [e] at h1
        simp only [Prod.mk.injEq] at h1
        obtain ⟨rfl, rfl, rfl⟩ := h1
        have HA := Lib.hid fun w1 hg1 => pnormal (pathF l) w1 hg1 (by omega)
        have HB := Lib.hid fun w1 hg1 => pnormal (pathF l ++ [47]) w1 hg1 (by rw [List.length_append, List.length_cons, List.length_nil]; omega)
        have HC := Lib.hid fun w1 hg1 => pcheck (pathF l) w1 hg1 (by omega)
        rw [norm_again l hr] at HA
        rw [norm_slash l hr] at HB
        rw [if_pos hr] at HC
        have ha := add_tx (P := Tryd.prog) (pathF l) [47] (by omega) (by decide)
        have h47 : (⟨#[47]⟩ : ByteArray) = tx [47] := rfl
        clear e hr HCS HQ
        generalize decide (l.getD (l.length - 1) 0 = 47) = D at *
        generalize pathF l = P at *
        go_wp2_with fail
        refine (HA.out _ (HK.out _ O7.out)).mono ?_
        rintro e w8 ⟨rfl, o8⟩
        have O8 := Lib.hid (O7.out.trans o8)
        clear o8 O7
        go_wp2_with fail
        refine (HB.out _ (HK.out _ O8.out)).mono ?_
        rintro e w9 ⟨rfl, o9⟩
        have O9 := Lib.hid (O8.out.trans o9)
        clear o9 O8
        go_wp2_with fail
        refine (HC.out _ (HK.out _ O9.out)).mono ?_
        rintro e wa ⟨rfl, oa⟩
        have OA := Lib.hid (O9.out.trans oa)
        clear oa O9
        go_wp2
        go_ret
        exact ⟨rfl, OA.out⟩
end Go.Proofs.YtaefhfpgehgkmaaDoor
