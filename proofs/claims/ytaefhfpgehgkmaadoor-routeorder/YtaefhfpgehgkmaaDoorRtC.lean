/- Layer 13, the document: what is under what, and the order. -/
import Derived.Test.YtaefhfpgehgkmaaDoorRtB
import Derived.Laws.Cover1
namespace Go.Proofs.YtaefhfpgehgkmaaDoor
open Go.RowKit

theorem cmp_step (a b : List (List UInt8)) (i : Nat) (ha : i < a.length) (hb : i < b.length) :
    cmpF (a.drop i) (b.drop i) = if Op.bytesLess (a.getD i []) (b.getD i []) = true then -1 else if a.getD i [] = b.getD i [] then cmpF (a.drop (i + 1)) (b.drop (i + 1)) else 1 := by
  rw [List.drop_eq_getElem_cons ha, List.drop_eq_getElem_cons hb, List.getD_eq_getElem?_getD, List.getElem?_eq_getElem ha, List.getD_eq_getElem?_getD, List.getElem?_eq_getElem hb]
  rfl
theorem cmp_end (a b : List (List UInt8)) (i : Nat) (h : ¬ (i < a.length ∧ i < b.length)) (ha : i ≤ a.length) (hb : i ≤ b.length) :
    cmpF (a.drop i) (b.drop i) = if a.length < b.length then -1 else if b.length < a.length then 1 else 0 := by
  by_cases h1 : i < a.length
  · have h2 : b.drop i = [] := List.drop_of_length_le (by omega)
    rw [h2, List.drop_eq_getElem_cons h1, cmpF, if_neg (by omega), if_pos (by omega)]
  · have h2 : a.drop i = [] := List.drop_of_length_le (by omega)
    by_cases h3 : i < b.length
    · rw [h2, List.drop_eq_getElem_cons h3, cmpF, if_pos (by omega)]
    · have h4 : b.drop i = [] := List.drop_of_length_le (by omega)
      rw [h2, h4, cmpF, if_neg (by omega), if_neg (by omega)]
set_option maxHeartbeats 8000000 in
theorem rcompare (x y : List UInt8) (w : World) (hx : x.length ≤ 800000) (hy : y.length ≤ 800000) : Calls Tryd.prog 23 #[.string (tx x), .string (tx y)] w fun e w' => e = .returned (.int .i64 (cmpF (partsF x) (partsF y))) ∧ Only (fun _ => False) w w' := by
  have H1 := Lib.hid (rparts (tx x) w (by rw [tx_size]; omega))
  have H2 := Lib.hid fun w1 => rparts (tx y) w1 (by rw [tx_size]; omega)
  rw [tx_list] at H1 H2
  have hp := parts_few x
  have hq := parts_few y
  generalize partsF x = a at H1 hp ⊢
  generalize partsF y = b at H2 hq ⊢
  obtain ⟨n, hn⟩ : ∃ n, a.length = n := ⟨_, rfl⟩
  obtain ⟨m, hm⟩ : ∃ m, b.length = m := ⟨_, rfl⟩
  have HN := Lib.hid hn
  have HM := Lib.hid hm
  have hn2 : n ≤ 800001 := by omega
  have hm2 : m ≤ 800001 := by omega
  clear hp hq hx hy
  go_enter Tryd.func23, Tryd.ntmps23
  go_wp2_with fail
  refine H1.out.mono ?_
  rintro e w1 ⟨A, c, rfl, h1⟩
  have HA := Lib.hid h1
  rw [hn] at HA ⊢
  clear h1 H1
  go_wp2_with fail
  refine (H2.out w1).mono ?_
  rintro e w2 ⟨A2, c2, rfl, h2⟩
  have HO := Lib.hid (HA.out.2.1.trans h2.2.1)
  have HSA := Lib.hid (HA.out.1.only h2.2.1 fun _ _ f => f).see
  have HSB := Lib.hid h2.1.see
  rw [hm]
  clear h2 H2 HA hn hm
  go_wp2_with fail
  go_loopg [7] (n + m) (fun gk u wx => ∃ i : Nat, u = .int .i64 i ∧ i ≤ n ∧ i ≤ m ∧ i + gk = n + m ∧ (∃ q, wx = w2.drewN q) ∧ Hid (cmpF a b = cmpF (a.drop i) (b.drop i)))
  case atStart => exact ⟨0, rfl, by omega, by omega, by omega, ⟨0, rfl⟩, Lib.hid rfl⟩
  case round =>
    obtain ⟨i, rfl, hin, him, hi, ⟨q, rfl⟩, HC⟩ := hrel
    by_cases hlt : i < n ∧ i < m
    · obtain ⟨l1, l2⟩ := hlt
      have l3 : (i : Int) < (n : Int) := by omega
      have l4 : (i : Int) < (m : Int) := by omega
      obtain ⟨b1, o1, rfl, _, d1⟩ := HSA.out i _ (strs_at a i (by rw [HN.out]; exact l1))
      obtain ⟨b2, o2, rfl, _, d2⟩ := HSB.out i _ (strs_at b i (by rw [HM.out]; exact l2))
      have HS := Lib.hid (cmp_step a b i (by rw [HN.out]; exact l1) (by rw [HM.out]; exact l2))
      generalize a.getD i [] = p at d1 HS
      generalize b.getD i [] = r at d2 HS
      have t1 := tx_toList p
      have t2 := tx_toList r
      by_cases hb1 : Op.bytesLess p r = true
      · have HE : Hid (cmpF a b = -1) := Lib.hid (by rw [HC.out, HS.out, if_pos hb1])
        clear HS HC
        go_upto_region 6 with fail
        go_quiet (fail)
        go_wp2
        go_ret
        rw [HE.out]
        exact ⟨rfl, (HO.out.drewN q).drewN nq⟩
      · have hb2 : Op.bytesLess p r = false := by simpa using hb1
        by_cases hpr : p = r
        · subst hpr
          have HE : Hid (cmpF a b = cmpF (a.drop (i + 1)) (b.drop (i + 1))) := Lib.hid (by rw [HC.out, HS.out, if_neg hb1, if_pos rfl])
          clear HS HC hb1
          go_upto_region 6 with fail
          go_quiet (fail)
          go_upto_region 8 with fail
          go_quiet (fail)
          go_wp2_with fail
          go_roundg (gk - 1)
          case measure => omega
          case rel => exact ⟨i + 1, by go_num, by omega, by omega, by omega, ⟨_, rfl⟩, HE⟩
        · have HE : Hid (cmpF a b = 1) := Lib.hid (by rw [HC.out, HS.out, if_neg hb1, if_neg hpr])
          have hpr2 : (p == r) = false := by rw [beq_eq_false_iff_ne]; exact hpr
          clear HS HC hb1
          go_upto_region 6 with fail
          go_quiet (fail)
          go_upto_region 8 with fail
          go_quiet (fail)
          go_wp2
          go_ret
          rw [HE.out]
          exact ⟨rfl, ((HO.out.drewN q).drewN _).drewN _⟩
    · have HS := Lib.hid (cmp_end a b i (by rw [HN.out, HM.out]; exact hlt) (by rw [HN.out]; exact hin) (by rw [HM.out]; exact him))
      have hnot : ¬ ((i : Int) < (n : Int) ∧ (i : Int) < (m : Int)) := fun e => hlt ⟨by omega, by omega⟩
      by_cases g1 : n < m
      · have HE : Hid (cmpF a b = -1) := Lib.hid (by rw [HC.out, HS.out, HN.out, HM.out, if_pos g1])
        have g2 : (n : Int) < (m : Int) := by omega
        have g3 : ¬ (i : Int) < (n : Int) := by omega
        clear HS HC hnot
        go_wp2
        go_ret
        rw [HE.out]
        exact ⟨rfl, HO.out.drewN q⟩
      · by_cases g2 : m < n
        · have HE : Hid (cmpF a b = 1) := Lib.hid (by rw [HC.out, HS.out, HN.out, HM.out, if_neg g1, if_pos g2])
          have g3 : ¬ (n : Int) < (m : Int) := by omega
          have g4 : (m : Int) < (n : Int) := by omega
          have g5 : ¬ (i : Int) < (m : Int) := by omega
          have g6 : (i : Int) < (n : Int) := by omega
          clear HS HC hnot
          go_wp2
          go_ret
          rw [HE.out]
          exact ⟨rfl, HO.out.drewN q⟩
        · have HE : Hid (cmpF a b = 0) := Lib.hid (by rw [HC.out, HS.out, HN.out, HM.out, if_neg g1, if_neg g2])
          have g3 : ¬ (n : Int) < (m : Int) := by omega
          have g4 : ¬ (m : Int) < (n : Int) := by omega
          have g5 : ¬ (i : Int) < (n : Int) := by omega
          clear HS HC hnot
          go_wp2
          go_ret
          rw [HE.out]
          exact ⟨rfl, HO.out.drewN q⟩

theorem under_step (a b : List (List UInt8)) (i : Nat) (ha : i < a.length) (hb : i < b.length) (h : a.take i = b.take i) : a.take (i + 1) = b.take (i + 1) ↔ a.getD i [] = b.getD i [] := by
  rw [getD_take_snoc [] a i ha, getD_take_snoc [] b i hb, h]
  constructor
  · intro e
    have := List.append_cancel_left e
    simpa using this
  · intro e
    rw [e]
theorem under_no (a b : List (List UInt8)) (i : Nat) (ha : b.length < a.length) (hb : i < b.length) (h : a.take i = b.take i) (hne : ¬ a.getD i [] = b.getD i []) : underF a b = false := by
  unfold underF
  rw [decide_eq_true ha, Bool.true_and, beq_eq_false_iff_ne]
  intro e
  have e2 : a.take (i + 1) = b.take (i + 1) := by
    have := congrArg (List.take (i + 1)) e
    rw [List.take_take, Nat.min_eq_left (by omega)] at this
    exact this
  exact hne ((under_step a b i (by omega) hb h).1 e2)
set_option maxHeartbeats 8000000 in
theorem runder (x y : List UInt8) (w : World) (hx : x.length ≤ 800000) (hy : y.length ≤ 800000) : Calls Tryd.prog 21 #[.string (tx x), .string (tx y)] w fun e w' => e = .returned (.bool (underF (partsF x) (partsF y))) ∧ Only (fun _ => False) w w' := by
  have H1 := Lib.hid (rparts (tx x) w (by rw [tx_size]; omega))
  have H2 := Lib.hid fun w1 => rparts (tx y) w1 (by rw [tx_size]; omega)
  rw [tx_list] at H1 H2
  have hp := parts_few x
  have hq := parts_few y
  generalize partsF x = a at H1 hp ⊢
  generalize partsF y = b at H2 hq ⊢
  obtain ⟨n, hn⟩ : ∃ n, a.length = n := ⟨_, rfl⟩
  obtain ⟨m, hm⟩ : ∃ m, b.length = m := ⟨_, rfl⟩
  have HN := Lib.hid hn
  have HM := Lib.hid hm
  have hn2 : n ≤ 800001 := by omega
  have hm2 : m ≤ 800001 := by omega
  clear hp hq hx hy
  go_enter Tryd.func21, Tryd.ntmps21
  go_wp2_with fail
  refine H1.out.mono ?_
  rintro e w1 ⟨A, c, rfl, h1⟩
  have HA := Lib.hid h1
  rw [hn] at HA ⊢
  clear h1 H1
  go_wp2_with fail
  refine (H2.out w1).mono ?_
  rintro e w2 ⟨A2, c2, rfl, h2⟩
  have HO := Lib.hid (HA.out.2.1.trans h2.2.1)
  have HSA := Lib.hid (HA.out.1.only h2.2.1 fun _ _ f => f).see
  have HSB := Lib.hid h2.1.see
  rw [hm]
  clear h2 H2 HA hn hm
  by_cases hle : n ≤ m
  · have hle2 : (n : Int) ≤ (m : Int) := by omega
    have HE : Hid (underF a b = false) := Lib.hid (by unfold underF; rw [decide_eq_false (by rw [HN.out, HM.out]; omega)]; rfl)
    go_wp2
    go_ret
    rw [HE.out]
    exact ⟨rfl, HO.out⟩
  · have hle2 : ¬ (n : Int) ≤ (m : Int) := by omega
    go_wp2_with fail
    go_loopg [7] m (fun gk u wx => ∃ i : Nat, u = .int .i64 i ∧ i + gk = m ∧ (∃ q, wx = w2.drewN q) ∧ Hid (a.take i = b.take i))
    case atStart => exact ⟨0, rfl, by omega, ⟨0, rfl⟩, Lib.hid rfl⟩
    case round =>
      obtain ⟨i, rfl, hi, ⟨q, rfl⟩, HC⟩ := hrel
      by_cases l2 : i < m
      · have l4 : (i : Int) < (m : Int) := by omega
        obtain ⟨b1, o1, rfl, _, d1⟩ := HSA.out i _ (strs_at a i (by rw [HN.out]; omega))
        obtain ⟨b2, o2, rfl, _, d2⟩ := HSB.out i _ (strs_at b i (by rw [HM.out]; exact l2))
        have HS := Lib.hid (under_step a b i (by rw [HN.out]; omega) (by rw [HM.out]; exact l2) HC.out)
        have HU := Lib.hid (under_no a b i (by rw [HN.out, HM.out]; omega) (by rw [HM.out]; exact l2) HC.out)
        generalize a.getD i [] = p at d1 HS HU
        generalize b.getD i [] = r at d2 HS HU
        have t1 := tx_toList p
        have t2 := tx_toList r
        by_cases hpr : p = r
        · subst hpr
          have HE := Lib.hid (HS.out.2 rfl)
          clear HS HC HU
          go_upto_region 8 with fail
          go_quiet (fail)
          go_wp2_with fail
          go_roundg (gk - 1)
          case measure => omega
          case rel => exact ⟨i + 1, by go_num, by omega, ⟨_, rfl⟩, HE⟩
        · have HE := Lib.hid (HU.out hpr)
          have hpr2 : (p == r) = false := by rw [beq_eq_false_iff_ne]; exact hpr
          clear HS HC HU
          go_upto_region 8 with fail
          go_quiet (fail)
          go_wp2
          go_ret
          rw [HE.out]
          exact ⟨rfl, (HO.out.drewN q).drewN _⟩
      · obtain rfl : i = m := by omega
        have HE : Hid (underF a b = true) := Lib.hid (by
          have h1 := HC.out
          unfold underF
          rw [decide_eq_true (by rw [HN.out, HM.out]; omega), Bool.true_and, beq_iff_eq, HM.out, h1]
          exact List.take_of_length_le (by rw [HM.out]; exact Nat.le_refl _))
        go_wp2
        go_ret
        rw [HE.out]
        exact ⟨rfl, HO.out.drewN q⟩
end Go.Proofs.YtaefhfpgehgkmaaDoor
