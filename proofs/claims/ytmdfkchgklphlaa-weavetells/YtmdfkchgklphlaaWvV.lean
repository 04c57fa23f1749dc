/- Layer 16: the two laws. -/
import Derived.Test.YtmdfkchgklphlaaWvU
namespace Go.Proofs.Ytmdfkchgklphlaa
open Go.RowKit
variable {G : World → Prop}

set_option maxHeartbeats 4000000 in
theorem weaveTellsWalk (C : WvC G) (A : Option Addr) (n c B : Nat) (rs : List TRow) (k : Nat) (w : World) (hg : G w) (h : Rows2 w B A rs) (hn : rs.length = n) (hB : B ≤ w.heap.size) (hk : k < 256) : Calls Try.prog 3 #[.slice A n c, .int .u8 (k : Nat)] w fun e w' => e = .returned (.bool true) ∧ Only (fun _ => False) w w' := by
  have HAW := Lib.hid (awake16 C w hg)
  have HSM : Hid (∀ w1, Only (fun _ => False) w w1 → Calls Try.prog 6 #[.slice A n c, .int .i64 8] w1 fun e w' => (∃ b, e = .returned (.bool b) ∧ (b = true → smallW rs)) ∧ w' = w1) := Lib.hid fun w1 o => lsmall A n c B rs w1 (h.new o) hn
  have HT : Hid (smallW rs → ∀ (m : Nat) w1, Only (fun _ => False) w w1 → Calls Try.prog 7 #[.slice A n c, .int .i64 (m : Nat)] w1 fun e w' => e = .returned (.bool true) ∧ Only (fun _ => False) w1 w') := Lib.hid fun hs m w1 o => ltold C A n c B rs m w1 (C.keep _ _ hg o) (h.new o) hn hs (Nat.le_trans hB o.size)
  clear hg h hn hB
  go_enter Try.func3, Try.ntmps3
  go_wp2_with fail
  refine HAW.out.mono ?_
  rintro e w1 ⟨rfl, o1⟩
  have O1 := Lib.hid o1
  clear o1 HAW
  go_wp2_with fail
  refine (HSM.out w1 O1.out).mono ?_
  rintro e w2 ⟨⟨b, rfl, hb⟩, rfl⟩
  have HBS := Lib.hid hb
  clear hb HSM
  cases b with
  | false =>
    go_wp2
    go_ret
    exact ⟨rfl, O1.out⟩
  | true =>
    have H2 := Lib.hid (HT.out (HBS.out rfl))
    clear HBS HT
    go_wp2_with fail
    refine (H2.out k _ O1.out).mono ?_
    rintro e w3 ⟨rfl, o3⟩
    have O3 := Lib.hid (O1.out.trans o3)
    clear o3 O1
    go_wp2_with fail
    refine (H2.out 1000 _ O3.out).mono ?_
    rintro e w4 ⟨rfl, o4⟩
    have O4 := Lib.hid (O3.out.trans o4)
    clear o4 O3
    go_wp2
    go_ret
    exact ⟨rfl, O4.out⟩

/-- What of a filtered row stands at a place. -/
theorem filter_at (p : List UInt8 → Bool) (U : List (List UInt8)) (i : Nat) (h : i < U.length) : ((U.take (i + 1)).filter p).length = ((U.take i).filter p).length + (if p (U.getD i []) = true then 1 else 0) ∧
    (p (U.getD i []) = true → ((U.take i).filter p).length < (U.filter p).length ∧ (U.filter p).getD ((U.take i).filter p).length [] = U.getD i []) := by
  refine ⟨?_, fun hp => ?_⟩
  · rw [take_next [] U i h, List.filter_append, List.length_append, List.filter_cons]
    split <;> simp
  · have e : U = U.take i ++ U.getD i [] :: U.drop (i + 1) := by
      have h1 := List.take_append_drop i U
      rw [List.drop_eq_getElem_cons h] at h1
      rw [List.getD_eq_getElem?_getD, List.getElem?_eq_getElem h]
      exact h1.symm
    have e2 : U.filter p = (U.take i).filter p ++ U.getD i [] :: (U.drop (i + 1)).filter p := by
      rw [← List.filter_cons_of_pos hp, ← List.filter_append, ← e]
    rw [e2]
    refine ⟨by rw [List.length_append, List.length_cons]; omega, ?_⟩
    rw [List.getD_eq_getElem?_getD, List.getElem?_append_right (Nat.le_refl _), Nat.sub_self]
    rfl
set_option maxRecDepth 100000 in
set_option maxHeartbeats 8000000 in
theorem weaveSetsWalk (C : WvC G) (A : Option Addr) (n c B : Nat) (rs : List TRow) (w : World) (hg : G w) (h : Rows2 w B A rs) (hn : rs.length = n) : Calls Try.prog 4 #[.slice A n c] w fun e w' => e = .returned (.bool true) ∧ Only (fun _ => False) w w' := by
  have HAW := Lib.hid (awake16 C w hg)
  have HSM : Hid (∀ w1, Only (fun _ => False) w w1 → Calls Try.prog 6 #[.slice A n c, .int .i64 8] w1 fun e w' => (∃ b, e = .returned (.bool b) ∧ (b = true → smallW rs)) ∧ w' = w1) := Lib.hid fun w1 o => lsmall A n c B rs w1 (h.new o) hn
  have HU : Hid (smallW rs → ∀ w1, Only (fun _ => False) w w1 → Calls Try.prog 8 #[.slice A n c] w1 (StrsP w1 (unionF (txts rs)))) := Lib.hid fun hs w1 k => runion A n c B rs w1 (h.new k) hn hs.tin
  have HP : Hid (smallW rs → ∀ s w1, Only (fun _ => False) w w1 → Calls Try.prog 11 #[.slice A n c, .string (tx s)] w1 (IntsP w1 (placesF (txts rs) s))) := Lib.hid fun hs s w1 k => rplaces A n c B rs s w1 (h.new k) hn hs.tin
  have HPU : Hid (smallW rs → ∀ w1, Only (fun _ => False) w w1 → Calls Try.prog 9 #[.slice A n c] w1 (SeesP w1 (unionF (txts rs)))) := Lib.hid fun hs w1 k => C.union A n c B rs w1 (C.keep _ _ hg k) (h.new k) hn hs
  have HPC : Hid (smallW rs → ∀ w1, Only (fun _ => False) w w1 → Calls Try.prog 10 #[.slice A n c] w1 (SeesP w1 (commonF (txts rs)))) := Lib.hid fun hs w1 k => C.common A n c B rs w1 (C.keep _ _ hg k) (h.new k) hn hs
  have HNL : Hid ((txts rs).length = n) := Lib.hid (by rw [List.length_map, hn])
  have HUS : Hid (smallW rs → (unionF (txts rs)).length ≤ 160) := Lib.hid fun hs => union_small hs
  clear hg h hn
  go_enter Try.func4, Try.ntmps4
  go_wp2_with fail
  refine HAW.out.mono ?_
  rintro e w1 ⟨rfl, o1⟩
  have O1 := Lib.hid o1
  clear o1 HAW
  go_wp2_with fail
  refine (HSM.out w1 O1.out).mono ?_
  rintro e w2 ⟨⟨b, rfl, hb⟩, rfl⟩
  have HBS := Lib.hid hb
  clear hb HSM
  cases b with
  | false =>
    go_wp2
    go_ret
    exact ⟨rfl, O1.out⟩
  | true =>
    have h2 := HU.out (HBS.out rfl)
    have h3 := HP.out (HBS.out rfl)
    have h4 := HPU.out (HBS.out rfl)
    have h5 := HPC.out (HBS.out rfl)
    have hus := HUS.out (HBS.out rfl)
    have HCM : Hid (commonF (txts rs) = (unionF (txts rs)).filter fun s => decide ((placesF (txts rs) s).length = n)) := Lib.hid (by unfold commonF; rw [HNL.out])
    have H2 := Lib.hid h2
    have H3 := Lib.hid h3
    have H4 := Lib.hid h4
    have H5 := Lib.hid h5
    clear h2 h3 h4 h5 HU HP HPU HPC HUS HBS HNL
    generalize commonF (txts rs) = CM at H5 HCM
    generalize unionF (txts rs) = U at H2 H4 HCM hus
    obtain ⟨N, hN⟩ : ∃ N, U.length = N := ⟨_, rfl⟩
    obtain ⟨M, hM⟩ : ∃ M, CM.length = M := ⟨_, rfl⟩
    rw [hN] at hus
    have HNN := Lib.hid hN
    have HMM := Lib.hid hM
    have hM160 : M ≤ 160 := by
      have := List.length_filter_le (fun s => decide ((placesF (txts rs) s).length = n)) U
      rw [← HCM.out, hM, hN] at this
      omega
    go_wp2_with fail
    refine (H2.out _ O1.out).mono ?_
    rintro e w3 ⟨A1, c1, rfl, m1⟩
    have O3 := Lib.hid (O1.out.trans m1.2.1)
    have HS1 := Lib.hid m1.1.see
    clear m1 O1 H2
    rw [hN]
    go_wp2_with fail
    refine (H4.out _ O3.out).mono ?_
    rintro e w4 ⟨⟨A2, c2, B2, rfl, s2⟩, o4⟩
    have O4 := Lib.hid (O3.out.trans o4)
    have HS1' := Lib.hid (HS1.out.new o4)
    have HS2 := Lib.hid s2
    rw [hN]
    clear s2 o4 O3 HS1 H4
    go_wp2_with fail
    refine (H5.out _ O4.out).mono ?_
    rintro e w5 ⟨⟨A3, c3, B3, rfl, s3⟩, o5⟩
    have O5 := Lib.hid (O4.out.trans o5)
    have HS1 := Lib.hid (HS1'.out.new o5)
    have HS2' := Lib.hid (HS2.out.new o5)
    have HS3 := Lib.hid s3
    rw [hM]
    clear s3 o5 O4 HS1' HS2 H5 hN hM
    have hnn : ((N : Int) == (N : Int)) = true := beq_self_eq_true _
    obtain ⟨pf, hpf⟩ : ∃ pf : List UInt8 → Bool, (fun s => decide ((placesF (txts rs) s).length = n)) = pf := ⟨_, rfl⟩
    have HPF : Hid (∀ s, pf s = decide ((placesF (txts rs) s).length = n)) := Lib.hid fun s => by rw [← hpf]
    rw [hpf] at HCM
    have HFA : Hid (∀ i, i < N → ((U.take (i + 1)).filter pf).length = ((U.take i).filter pf).length + (if pf (U.getD i []) = true then 1 else 0) ∧
      (pf (U.getD i []) = true → ((U.take i).filter pf).length < M ∧ CM.getD ((U.take i).filter pf).length [] = U.getD i [])) := Lib.hid fun i hi => by
      rw [← HMM.out, HCM.out]
      exact filter_at pf U i (by rw [HNN.out]; exact hi)
    have HEND : Hid (((U.take N).filter pf).length = M) := Lib.hid (by rw [← HMM.out, HCM.out, List.take_of_length_le (by rw [HNN.out]; exact Nat.le_refl _)])
    clear hpf HCM
    go_wp2_with fail
    go_loopg [6, 27] N (fun gk u v wx => ∃ i k : Nat, u = .int .i64 k ∧ v = .int .i64 i ∧ i + gk = N ∧ k ≤ i ∧ Hid (k = ((U.take i).filter pf).length) ∧ Hid (Only (fun _ => False) w5 wx))
    case atStart => exact ⟨0, 0, rfl, rfl, by omega, Nat.le_refl _, Lib.hid rfl, Lib.hid (Only.refl _ w5)⟩
    case round =>
      obtain ⟨i, k, rfl, rfl, hi, hki, HKK, HW⟩ := hrel
      by_cases hlt : i < N
      · have l3 : (i : Int) < (N : Int) := by omega
        obtain ⟨b1, p1, e1, d1⟩ := See.str (HS1.out.new HW.out) (by rw [HNN.out]; exact hlt)
        obtain ⟨b2, p2, e2, d2⟩ := See.str (HS2'.out.new HW.out) (by rw [HNN.out]; exact hlt)
        subst e1 e2
        have hf := HFA.out i hlt
        obtain ⟨x, hx⟩ : ∃ x, U.getD i [] = x := ⟨_, rfl⟩
        rw [hx, ← HKK.out] at hf
        rw [hx] at d1 d2
        have t1 := tx_toList x
        have q3 : (x == x) = true := beq_self_eq_true x
        have HPP := Lib.hid (H3.out x _ (O5.out.trans HW.out))
        have hpx := HPF.out x
        obtain ⟨K, hK⟩ : ∃ K, (placesF (txts rs) x).length = K := ⟨_, rfl⟩
        rw [hK] at hpx
        generalize placesF (txts rs) x = pl at HPP hK
        have HKL := Lib.hid hK
        by_cases hKn : K = n
        · rw [decide_eq_true hKn] at hpx
          rw [if_pos hpx] at hf
          obtain ⟨hf1, hf2⟩ := hf
          obtain ⟨hf3, hf4⟩ := hf2 hpx
          have HF1 := Lib.hid hf1
          obtain ⟨b3, p3, e3, d3⟩ := See.str (HS3.out.new HW.out) (i := k) (by rw [HMM.out]; exact hf3)
          subst e3
          rw [hf4] at d3
          have q5 : ((K : Int) == (n : Int)) = true := by rw [hKn]; exact beq_self_eq_true _
          have q6 : ¬ (M : Int) ≤ (k : Int) := by omega
          have q7 : (k : Int) < (M : Int) := by omega
          have q8 : k < 200 := by omega
          clear hx hf1 hf2 hf3 hf4 hpx hK hKn
          go_wp2_with fail
          refine HPP.out.mono ?_
          rintro e w6 ⟨A6, c6, rfl, m6⟩
          rw [HKL.out]
          have o6 := m6.2.1
          have d3' := only_cell d3 o6
          have HW6 := Lib.hid (HW.out.trans o6)
          clear HPP m6 o6 d1 d2 d3
          go_wp2_with fail
          go_roundg (gk - 1)
          case measure => omega
          case rel => exact ⟨i + 1, k + 1, by go_num, by go_num, by omega, by omega, Lib.hid HF1.out.symm, HW6⟩
        · rw [decide_eq_false hKn] at hpx
          rw [if_neg (by rw [hpx]; decide)] at hf
          have HF1 := Lib.hid hf.1
          have q5 : ((K : Int) == (n : Int)) = false := by rw [beq_eq_false_iff_ne]; omega
          clear hx hf hpx hK hKn
          go_wp2_with fail
          refine HPP.out.mono ?_
          rintro e w6 ⟨A6, c6, rfl, m6⟩
          rw [HKL.out]
          have HW6 := Lib.hid (HW.out.trans m6.2.1)
          clear HPP m6 d1 d2
          go_wp2_with fail
          go_roundg (gk - 1)
          case measure => omega
          case rel => exact ⟨i + 1, k, by go_num, by go_num, by omega, by omega, Lib.hid HF1.out.symm, HW6⟩
      · have hin : i = N := by omega
        subst hin
        have hkm : k = M := by rw [HKK.out, HEND.out]
        have q5 : ((k : Int) == (M : Int)) = true := by rw [hkm]; exact beq_self_eq_true _
        clear hkm
        go_wp2
        go_ret
        exact ⟨rfl, O5.out.trans HW.out⟩
end Go.Proofs.Ytmdfkchgklphlaa
