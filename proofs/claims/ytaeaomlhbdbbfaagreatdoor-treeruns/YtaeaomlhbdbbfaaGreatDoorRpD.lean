/- Layer 13, the program: the look at a part and at a path; the path of a name. -/
import Derived.Test.YtaeaomlhbdbbfaaGreatDoorRpC
namespace Go.Proofs.YtaeaomlhbdbbfaaGreatDoor
open Go.RowKit

theorem may_no {p : List UInt8} (h : partOk p = false ∨ ∃ i, i < p.length ∧ goodB (p.getD i 0) = false) : mayF p = false := by
  unfold mayF
  rcases h with h | ⟨i, hi, h⟩
  · rw [h]
    rfl
  · rw [Bool.and_eq_false_iff]
    right
    rw [List.all_eq_false]
    refine ⟨p.getD i 0, ?_, by rw [h]; decide⟩
    rw [List.getD_eq_getElem?_getD, List.getElem?_eq_getElem hi]
    exact List.getElem_mem hi
set_option maxRecDepth 20000 in
set_option maxHeartbeats 4000000 in
theorem pmay (p : List UInt8) (w : World) (hs : p.length ≤ 200000) : Calls Tryz.prog 50 #[.string (tx p)] w fun e w' => e = .returned (.bool (mayF p)) ∧ w' = w := by
  have t1 := tx_toList p
  have HP : Hid (partOk p = !(decide (p = []) || decide (255 < p.length) || decide (p = [46]) || decide (p = [46, 46]))) := Lib.hid rfl
  have HNO : Hid ((partOk p = false ∨ ∃ i, i < p.length ∧ goodB (p.getD i 0) = false) → mayF p = false) := Lib.hid may_no
  have HYES : Hid (partOk p = true → p.all goodB = true → mayF p = true) := Lib.hid fun h1 h2 => by
    unfold mayF
    rw [h1, h2]
    rfl
  obtain ⟨z, hz2⟩ : ∃ z, p.length = z := ⟨_, rfl⟩
  have hz3 : (tx p).size = z := by rw [tx_size]; exact hz2
  have HZ := Lib.hid hz2
  rw [hz2] at HP hs
  clear hz2
  go_enter Tryz.func50, Tryz.ntmps50
  by_cases c2 : p = []
  · have q2 : p.isEmpty = true := by rw [c2]; rfl
    have HE := Lib.hid (HNO.out (.inl (by rw [HP.out, decide_eq_true c2]; simp)))
    clear c2 HP HNO HYES
    go_wp2
    go_ret
    rw [HE.out]
    exact ⟨rfl, rfl⟩
  have q2 : p.isEmpty = false := by rw [List.isEmpty_eq_false_iff]; exact c2
  by_cases c3 : 255 < z
  · have q3 : decide ((255 : Int) < (z : Int)) = true := decide_eq_true (by omega)
    have HE := Lib.hid (HNO.out (.inl (by rw [HP.out, decide_eq_true c3]; simp)))
    clear c2 HP HNO HYES
    go_wp2
    go_ret
    rw [HE.out]
    exact ⟨rfl, rfl⟩
  have q3 : decide ((255 : Int) < (z : Int)) = false := decide_eq_false (by omega)
  by_cases c4 : p = [46]
  · have q4 : (p == [46]) = true := by rw [beq_iff_eq]; exact c4
    have HE := Lib.hid (HNO.out (.inl (by rw [HP.out, decide_eq_true c4]; simp)))
    clear c2 c4 HP HNO HYES
    go_wp2
    go_ret
    rw [HE.out]
    exact ⟨rfl, rfl⟩
  have q4 : (p == [46]) = false := by rw [beq_eq_false_iff_ne]; exact c4
  by_cases c5 : p = [46, 46]
  · have q5 : (p == [46, 46]) = true := by rw [beq_iff_eq]; exact c5
    have HE := Lib.hid (HNO.out (.inl (by rw [HP.out, decide_eq_true c5]; simp)))
    clear c2 c4 c5 HP HNO HYES
    go_wp2
    go_ret
    rw [HE.out]
    exact ⟨rfl, rfl⟩
  have q5 : (p == [46, 46]) = false := by rw [beq_eq_false_iff_ne]; exact c5
  have HY2 : Hid (p.all goodB = true → mayF p = true) := Lib.hid (HYES.out (by
    rw [HP.out, decide_eq_false c2, decide_eq_false c3, decide_eq_false c4, decide_eq_false c5]
    rfl))
  clear c2 c4 c5 HP HYES
  go_wp2_with fail
  go_loopg [21] z (fun gk u wx => ∃ i : Nat, u = .int .i64 i ∧ i + gk = z ∧ wx = w ∧ Hid ((p.take i).all goodB = true))
  case atStart => exact ⟨0, rfl, by omega, rfl, Lib.hid rfl⟩
  case round =>
    obtain ⟨i, rfl, hi, rfl, HC⟩ := hrel
    by_cases hlt : i < z
    · have l4 : (i : Int) < (z : Int) := by omega
      have hlx : i < (tx p).size := by omega
      obtain ⟨b, hb⟩ : ∃ b, (tx p)[i]'hlx = b := ⟨_, rfl⟩
      have eb : p.getD i 0 = b := by rw [← hb, tx_byte]
      have HB : Hid (goodB b = false → mayF p = false) := Lib.hid fun h => HNO.out (.inr ⟨i, by rw [HZ.out]; exact hlt, by rw [eb]; exact h⟩)
      have HT : Hid (goodB b = true → (p.take (i + 1)).all goodB = true) := Lib.hid fun h => by
        rw [getD_take_snoc 0 p i (by rw [HZ.out]; exact hlt), List.all_append, HC.out, eb]
        simp [h]
      have HG : Hid (goodB b = !(decide (b.toNat < 32) || (decide (b.toNat = 127) || decide (b.toNat = 92)))) := Lib.hid rfl
      clear eb HNO HY2 HC
      by_cases d1 : b.toNat < 32
      · have k1 : decide ((b.toNat : Int) < 32) = true := decide_eq_true (by omega)
        have HE := Lib.hid (HB.out (by rw [HG.out, decide_eq_true d1]; simp))
        clear HB HT HG
        go_wp2
        go_ret
        rw [HE.out]
        exact ⟨rfl, rfl⟩
      have k1 : decide ((b.toNat : Int) < 32) = false := decide_eq_false (by omega)
      by_cases d2 : b.toNat = 127
      · have k2 : ((b.toNat : Int) == 127) = true := by rw [beq_iff_eq]; omega
        have HE := Lib.hid (HB.out (by rw [HG.out, decide_eq_true d2]; simp))
        clear HB HT HG
        go_wp2
        go_ret
        rw [HE.out]
        exact ⟨rfl, rfl⟩
      have k2 : ((b.toNat : Int) == 127) = false := by rw [beq_eq_false_iff_ne]; omega
      by_cases d3 : b.toNat = 92
      · have k3 : ((b.toNat : Int) == 92) = true := by rw [beq_iff_eq]; omega
        have HE := Lib.hid (HB.out (by rw [HG.out, decide_eq_true d3]; simp))
        clear HB HT HG
        go_wp2
        go_ret
        rw [HE.out]
        exact ⟨rfl, rfl⟩
      have k3 : ((b.toNat : Int) == 92) = false := by rw [beq_eq_false_iff_ne]; omega
      have HE := Lib.hid (HT.out (by rw [HG.out, decide_eq_false d1, decide_eq_false d2, decide_eq_false d3]; rfl))
      clear HB HT HG
      go_wp2_with fail
      go_roundg (gk - 1)
      case measure => omega
      case rel => exact ⟨i + 1, by go_num, by omega, rfl, HE⟩
    · obtain rfl : i = z := by omega
      have HE : Hid (mayF p = true) := Lib.hid (HY2.out (by
        have h1 := HC.out
        rw [List.take_of_length_le (by rw [HZ.out]; exact Nat.le_refl _)] at h1
        exact h1))
      clear HNO HY2
      go_wp2
      go_ret
      rw [HE.out]
      exact ⟨rfl, rfl⟩
theorem check_no {l : List UInt8} (h : l = [] ∨ 1024 < l.length ∨ Lib.validD l = false ∨ 32 < (splitF l).length ∨ (splitF l).all mayF = false) : checkF l = false := by
  unfold checkF
  by_cases hl : l = []
  · rw [if_pos hl]
  · rw [if_neg hl]
    rcases h with h | h | h | h | h
    · exact (hl h).elim
    · rw [decide_eq_false (show ¬ l.length ≤ 1024 by omega)]
      rfl
    · rw [h]
      simp
    · rw [decide_eq_false (show ¬ (splitF l).length ≤ 32 by omega)]
      simp
    · rw [h]
      simp
set_option maxRecDepth 20000 in
set_option maxHeartbeats 8000000 in
theorem pcheck (l : List UInt8) (w : World) (hg : Gr w) (hs : l.length ≤ 100000) : Calls Tryz.prog 30 #[.string (tx l)] w fun e w' => e = .returned (.int .i64 (if rightF l = true then 0 else 5)) ∧ Only (fun _ => False) w w' := by
  rw [check_right]
  obtain ⟨R, hR⟩ : ∃ R : Int, (if checkF l = true then (0 : Int) else 5) = R := ⟨_, rfl⟩
  rw [hR]
  have HRR := Lib.hid hR
  clear hR
  have HNO : Hid ((l = [] ∨ 1024 < l.length ∨ Lib.validD l = false ∨ 32 < (splitF l).length ∨ (splitF l).all mayF = false) → checkF l = false) := Lib.hid check_no
  have HG := Lib.hid hg
  clear hg
  have t1 := tx_toList l
  obtain ⟨N, hN⟩ : ∃ N, l.length = N := ⟨_, rfl⟩
  have hz : (tx l).size = N := by rw [tx_size]; exact hN
  have HN := Lib.hid hN
  rw [hN] at hs
  clear hN
  go_enter Tryz.func30, Tryz.ntmps30
  by_cases c1 : l = []
  · have q1 : l.isEmpty = true := by rw [c1]; rfl
    have HE : Hid (R = 5) := Lib.hid (by rw [← HRR.out, HNO.out (.inl c1)]; rfl)
    clear c1 HNO
    go_wp2
    go_ret
    rw [HE.out]
    exact ⟨rfl, Only.refl _ _⟩
  have q1 : l.isEmpty = false := by rw [List.isEmpty_eq_false_iff]; exact c1
  by_cases c2 : 1024 < N
  · have q2 : decide ((1024 : Int) < (N : Int)) = true := decide_eq_true (by omega)
    have HE : Hid (R = 5) := Lib.hid (by rw [← HRR.out, HNO.out (.inr (.inl (by rw [HN.out]; exact c2)))]; rfl)
    clear c1 HNO
    go_wp2
    go_ret
    rw [HE.out]
    exact ⟨rfl, Only.refl _ _⟩
  have q2 : decide ((1024 : Int) < (N : Int)) = false := decide_eq_false (by omega)
  have HV := Lib.hid (Tryz.utf8_ValidString (tx l) w (by rw [hz]; omega) HG.out.1)
  rw [tx_list] at HV
  have HPT := Lib.hid fun w1 hg => pparts l w1 hg (by rw [HN.out]; omega)
  have HPS : Hid (partsF l = splitF l) := Lib.hid (if_neg c1)
  rw [HPS.out] at HPT
  have HR : Hid (checkF l = (Lib.validD l && (decide ((splitF l).length ≤ 32) && (splitF l).all mayF))) := Lib.hid (by
    unfold checkF
    rw [if_neg c1, decide_eq_true (by rw [HN.out]; omega), Bool.true_and])
  have hfew := split_few l
  have hlen := split_parts l
  have HW : Hid (∀ p ∈ splitF l, p.length ≤ 2000) := Lib.hid fun p hp => by
    have h1 := split_wt l
    have h2 : ∀ (ps : List (List UInt8)) (p : List UInt8), p ∈ ps → p.length ≤ wtF ps := fun ps => by
      induction ps with
      | nil => intro p hp; cases hp
      | cons a r ih =>
        intro p hp
        show p.length ≤ a.length + 1 + wtF r
        rcases List.mem_cons.1 hp with rfl | h
        · omega
        · have := ih p h
          omega
    have := h2 _ _ hp
    rw [h1, HN.out] at this
    omega
  rw [HN.out] at hfew
  clear c1 HPS hlen
  generalize splitF l = ps at HPT HR HNO hfew HW
  cases hv : Lib.validD l with
  | false =>
    rw [hv] at HV
    have HE : Hid (R = 5) := Lib.hid (by rw [← HRR.out, HNO.out (.inr (.inr (.inl hv)))]; rfl)
    clear HNO HR hv HPT
    go_wp2_with (go_at_call 48; refine HV.out.mono ?_; rintro e w2 ⟨rfl, h2⟩; have HO := Lib.hid (only_of_below h2); clear h2)
    go_ret
    rw [HE.out]
    exact ⟨rfl, HO.out⟩
  | true =>
    rw [hv] at HV
    have HR2 : Hid (checkF l = (decide (ps.length ≤ 32) && ps.all mayF)) := Lib.hid (by rw [HR.out, hv, Bool.true_and])
    clear HR hv
    go_wp2_with (go_at_call 48; refine HV.out.mono ?_; rintro e w2 ⟨rfl, h2⟩; have HO := Lib.hid (only_of_below h2); have HG2 := Lib.hid (HG.out.keep HO.out); clear h2 HG)
    refine (HPT.out _ HG2.out).mono ?_
    rintro e w3 ⟨A, c, rfl, h3⟩
    have HO3 := Lib.hid (HO.out.trans h3.2.1)
    have HSA := Lib.hid h3.1.see
    clear h3 HPT HG2 HO
    obtain ⟨n, hn⟩ : ∃ n, ps.length = n := ⟨_, rfl⟩
    have HNP := Lib.hid hn
    rw [hn] at hfew HR2 HNO ⊢
    clear hn
    by_cases c1 : 32 < n
    · have k1 : (32 : Int) < (n : Int) := by omega
      have HE : Hid (R = 5) := Lib.hid (by rw [← HRR.out, HNO.out (.inr (.inr (.inr (.inl c1))))]; rfl)
      go_wp2
      go_ret
      rw [HE.out]
      exact ⟨rfl, HO3.out⟩
    · have k1 : ¬ (32 : Int) < (n : Int) := by omega
      have HR3 : Hid (checkF l = ps.all mayF) := Lib.hid (by rw [HR2.out, decide_eq_true (by omega), Bool.true_and])
      clear HR2
      go_wp2_with fail
      go_loopg [25] n (fun gk u wx => ∃ i : Nat, u = .int .i64 i ∧ i + gk = n ∧ wx = w3 ∧ Hid ((ps.take i).all mayF = true))
      case atStart => exact ⟨0, rfl, by omega, rfl, Lib.hid rfl⟩
      case round =>
        obtain ⟨i, rfl, hi, rfl, HC⟩ := hrel
        by_cases l2 : i < n
        · have l4 : (i : Int) < (n : Int) := by omega
          obtain ⟨b1, o1, rfl, _, d1⟩ := HSA.out i _ (strs_at ps i (by rw [HNP.out]; exact l2))
          have HT : Hid ((ps.take (i + 1)).all mayF = mayF (ps.getD i [])) := Lib.hid (by rw [all_take mayF ps i (by rw [HNP.out]; exact l2), HC.out, Bool.true_and])
          have hmem : ps.getD i [] ∈ ps := by
            rw [List.getD_eq_getElem?_getD, List.getElem?_eq_getElem (by rw [HNP.out]; exact l2)]
            exact List.getElem_mem _
          have HF : Hid (mayF (ps.getD i []) = false → checkF l = false) := Lib.hid fun hf => HNO.out (.inr (.inr (.inr (.inr (by
            rw [List.all_eq_false]
            exact ⟨ps.getD i [], hmem, by rw [hf]; decide⟩)))))
          have HM := Lib.hid (pmay (ps.getD i []) wr (by have := HW.out _ hmem; omega))
          clear hmem
          generalize ps.getD i [] = p at d1 HT HF HM
          generalize mayF p = m at HT HF HM
          cases m with
          | false =>
            have HE : Hid (R = 5) := Lib.hid (by rw [← HRR.out, HF.out rfl]; rfl)
            clear HT HF HC HNO
            go_wp2_with fail
            refine HM.out.mono ?_
            rintro e _ ⟨rfl, rfl⟩
            clear HM
            go_wp2
            go_ret
            rw [HE.out]
            exact ⟨rfl, HO3.out⟩
          | true =>
            clear HF HC HNO
            go_wp2_with fail
            refine HM.out.mono ?_
            rintro e _ ⟨rfl, rfl⟩
            clear HM
            go_wp2_with fail
            go_roundg (gk - 1)
            case measure => omega
            case rel => exact ⟨i + 1, by go_num, by omega, rfl, HT⟩
        · obtain rfl : i = n := by omega
          have HE : Hid (R = 0) := Lib.hid (by
            have h1 := HC.out
            rw [List.take_of_length_le (by rw [HNP.out]; exact Nat.le_refl _)] at h1
            rw [← HRR.out, HR3.out, h1]
            rfl)
          go_wp2
          go_ret
          rw [HE.out]
          exact ⟨rfl, HO3.out⟩
end Go.Proofs.YtaeaomlhbdbbfaaGreatDoor
