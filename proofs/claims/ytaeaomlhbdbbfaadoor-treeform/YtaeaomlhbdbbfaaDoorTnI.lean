/- Layer 15, the document: do nodes make a tree. -/
import Derived.Test.YtaeaomlhbdbbfaaDoorTnH
namespace Go.Proofs.YtaeaomlhbdbbfaaDoor
open Go.RowKit

section
variable {P : Program} {ops : Array Oper} {Q : Exit → Act → World → Prop} {S : World → Prop}
/-- A call, guarded or not, that alone may come. -/
theorem Steps.callG {i : Nat} {l : List (Bool × Nat)} {a : Act} {w : World} {d : Option Tmp} {op : Op} {ty : TypeId} {pos : String} {af : Array Edge} {gd : Option (Nat × Bool)} (f : FuncId) (args : Array Value) (ho : ops[i]? = some ⟨d, op, ty, pos, af, gd⟩)
    (hw : Region.wanted ⟨d, op, ty, pos, af, gd⟩ (yielded ops a.tmps) = true) (hr : (execOp a.eval ⟨d, op, ty, pos, af, gd⟩).run P w = .ok (.enter f args) w) (h : Calls P f args w fun e w' => ∃ v, e = .returned v ∧ S w' ∧ Steps P ops Q S l (a.put d v) w') : Steps P ops Q S ((false, i) :: l) a w := by
  refine wpOp_step ho fun K hK => ?_
  rw [if_pos hw]
  unfold Oper.wp
  rw [hr, Oper.upon_enter]
  refine h.mono fun e w'' hh => ?_
  obtain ⟨v, rfl, h1, h2⟩ := hh
  exact hK _ _ ⟨h1, h2⟩
end
theorem check_at (ps : List Nd) (i : Nat) (h : i < ps.length) : checkG (ps.take i) (ps.drop i) = if mayPath (ps.getD i nd0) = false then 5 else if mayRest (ps.getD i nd0) = false then 1
    else if 0 < i ∧ 0 ≤ cmpF (partsF (ps.getD (i - 1) nd0).path) (partsF (ps.getD i nd0).path) then 2
    else if (parentF (ps.getD i nd0).path).2 = true ∧ isDirT (ps.take i) (parentF (ps.getD i nd0).path).1 = false then 8
    else if collT (ps.take i) (ps.getD i nd0).path = true then 6 else checkG (ps.take (i + 1)) (ps.drop (i + 1)) := by
  have e : ps.drop i = ps.getD i nd0 :: ps.drop (i + 1) := by
    rw [List.drop_eq_getElem_cons h, List.getD_eq_getElem?_getD, List.getElem?_eq_getElem h]
    rfl
  rw [e, checkG, ← getD_take_snoc nd0 ps i h]
  have e2 : (ps.take i ≠ [] ∧ 0 ≤ cmpF (partsF ((ps.take i).getD ((ps.take i).length - 1) nd0).path) (partsF (ps.getD i nd0).path)) ↔ (0 < i ∧ 0 ≤ cmpF (partsF (ps.getD (i - 1) nd0).path) (partsF (ps.getD i nd0).path)) := by
    have hl : (ps.take i).length = i := by rw [List.length_take]; omega
    constructor
    · rintro ⟨h1, h2⟩
      have hi : 0 < i := by
        rw [← hl]
        exact List.length_pos_iff.2 h1
      rw [hl, List.getD_eq_getElem?_getD, List.getElem?_take_of_lt (by omega), ← List.getD_eq_getElem?_getD] at h2
      exact ⟨hi, h2⟩
    · rintro ⟨h1, h2⟩
      rw [hl, List.getD_eq_getElem?_getD, List.getElem?_take_of_lt (by omega), ← List.getD_eq_getElem?_getD]
      exact ⟨List.length_pos_iff.1 (by omega), h2⟩
  by_cases h3 : 0 < i ∧ 0 ≤ cmpF (partsF (ps.getD (i - 1) nd0).path) (partsF (ps.getD i nd0).path)
  · rw [if_pos h3, if_pos (e2.2 h3)]
  · rw [if_neg h3, if_neg (fun h => h3 (e2.1 h))]
set_option maxRecDepth 20000 in
set_option maxHeartbeats 16000000 in
theorem rcheck (A : Option Addr) (n c B : Nat) (ps : List Nd) (w : World) (h : See w B A (nds ps)) (hn : ps.length = n) (hin : NdsIn ps) (hc : n ≤ c) : Calls Tryd.prog 9 #[.slice A n c] w fun e w' => e = .returned (.int .i64 (checkT ps)) ∧ Only (fun _ => False) w w' := by
  have HS := Lib.hid h
  have HN := Lib.hid hn
  have HIN := Lib.hid hin
  have hb := hin.1
  rw [hn] at hb
  have HMA : Hid (∀ (i : Nat) (w1 : World), i < n → Calls Tryd.prog 7 #[ndV (ps.getD i nd0)] w1 fun e w' => e = .returned (.tuple #[.bool (mayPath (ps.getD i nd0)), .bool (mayRest (ps.getD i nd0))]) ∧ Only (fun _ => False) w1 w') := Lib.hid fun i w1 hi => rmay _ w1 (hin.2 _ (getD_mem nd0 ps i (by omega)))
  have HCM : Hid (∀ (i : Nat) (w1 : World), i < n → Calls Tryd.prog 27 #[.string (tx (ps.getD (i - 1) nd0).path), .string (tx (ps.getD i nd0).path)] w1 fun e w' => e = .returned (.int .i64 (cmpF (partsF (ps.getD (i - 1) nd0).path) (partsF (ps.getD i nd0).path))) ∧ Only (fun _ => False) w1 w') := Lib.hid fun i w1 hi => by
    have h1 := (hin.2 _ (getD_mem nd0 ps i (by omega))).1
    have h2 := (hin.2 _ (getD_mem nd0 ps (i - 1) (by omega))).1
    exact rcompare _ _ w1 (by omega) (by omega)
  have HPA : Hid (∀ (i : Nat) (w1 : World), i < n → Calls Tryd.prog 28 #[.string (tx (ps.getD i nd0).path)] w1 fun e w' => e = .returned (.tuple #[.string (tx (parentF (ps.getD i nd0).path).1), .bool (parentF (ps.getD i nd0).path).2]) ∧ w1 = w') := Lib.hid fun i w1 hi => rparent _ w1 (by have := (hin.2 _ (getD_mem nd0 ps i (by omega))).1; omega)
  have HDI : Hid (∀ (i : Nat) (p : List UInt8) (w1 : World), i < n → Only (fun _ => False) w w1 → Calls Tryd.prog 29 #[.slice A i c, .string (tx p)] w1 fun e w' => e = .returned (.bool (isDirT (ps.take i) p)) ∧ w' = w1) := Lib.hid fun i p w1 hi o => risdir A i c B (ps.take i) p w1 ((see_take h i).new o) (by rw [List.length_take]; omega) (by omega)
  have HCO : Hid (∀ (i : Nat) (w1 : World), i < n → Only (fun _ => False) w w1 → Calls Tryd.prog 30 #[.slice A i c, .string (tx (ps.getD i nd0).path)] w1 fun e w' => e = .returned (.bool (collT (ps.take i) (ps.getD i nd0).path)) ∧ Only (fun _ => False) w1 w') := Lib.hid fun i w1 hi o => rcollides A i c B (ps.take i) _ w1 ((see_take h i).new o) (by rw [List.length_take]; omega) (nds_take hin i) (hin.2 _ (getD_mem nd0 ps i (by omega))).1
  have HBY : Hid (∀ w1, Only (fun _ => False) w w1 → Calls Tryd.prog 31 #[.slice A n c] w1 fun e w' => e = .returned (.int .i64 (bytesT ps)) ∧ w' = w1) := Lib.hid fun w1 o => rbytes A n c B ps w1 (h.new o) hn hin
  have HST := Lib.hid (check_at ps)
  have HBB : bytesT ps ≤ 100000000000 := by
    have h1 := bytes_le 1000000 ps fun m hm => (hin.2 m hm).2.1
    have h3 := Nat.mul_le_mul_right 1000000 hin.1
    omega
  have HCT : Hid (checkT ps = if 4096 < n then 7 else checkG [] ps) := Lib.hid (by
    unfold checkT
    rw [hn])
  clear h hn hin
  obtain ⟨R, hR⟩ : ∃ R, checkT ps = R := ⟨_, rfl⟩
  rw [hR]
  have HRR := Lib.hid hR
  clear hR
  go_enter Tryd.func9, Tryd.ntmps9
  by_cases h4 : 4096 < n
  · have l4 : (4096 : Int) < (n : Int) := by omega
    have HE : Hid (R = 7) := Lib.hid (by rw [← HRR.out, HCT.out, if_pos h4])
    go_wp2
    go_ret
    rw [HE.out]
    exact ⟨rfl, Only.refl _ _⟩
  have l4 : ¬ (4096 : Int) < (n : Int) := by omega
  have HCT2 : Hid (R = checkG [] ps) := Lib.hid (by rw [← HRR.out, HCT.out, if_neg h4])
  clear HCT HRR
  go_wp2_with fail
  go_loopg [3] n (fun gk u wx => ∃ i : Nat, u = .int .i64 i ∧ i + gk = n ∧ Hid (Only (fun _ => False) w wx) ∧ Hid (R = checkG (ps.take i) (ps.drop i)))
  case atStart => exact ⟨0, rfl, by omega, Lib.hid (Only.refl _ _), HCT2⟩
  case round =>
    obtain ⟨i, rfl, hi, HO, HK⟩ := hrel
    clear HCT2
    by_cases hlt : i < n
    · have l5 : (i : Int) < (n : Int) := by omega
      have hlt2 : i < ps.length := by rw [HN.out]; exact hlt
      obtain ⟨b, o, hA, d0, d1, d2, d3, d4⟩ := see_nd (HS.out.new HO.out) hlt2
      have HT := Lib.hid (HST.out i hlt2)
      have HM := Lib.hid fun w1 => HMA.out i w1 hlt
      have HC := Lib.hid fun w1 => HCM.out i w1 hlt
      have HP := Lib.hid fun w1 => HPA.out i w1 hlt
      have HD := Lib.hid fun p w1 ho => HDI.out i p w1 hlt ho
      have HCL := Lib.hid fun w1 ho => HCO.out i w1 hlt ho
      have hic : (i : Int) ≤ (c : Int) := by omega
      have hic2 : i ≤ c := by omega
      have HPV : Hid (0 < i → ∃ b2 o2, A = some ⟨b2, o2, none⟩ ∧ wr.cell? ⟨b2, o2 + (i - 1) * 5, none⟩ = some (.string (tx (ps.getD (i - 1) nd0).path))) := Lib.hid fun _ => by
        obtain ⟨b2, o2, e2, f0, _⟩ := see_nd (HS.out.new HO.out) (i := i - 1) (by omega)
        exact ⟨b2, o2, e2, f0⟩
      subst hA
      clear hlt2
      generalize ps.getD i nd0 = q at d0 d1 d2 d3 d4 HT HM HC HP HCL
      generalize mayPath q = mp at HT HM
      generalize mayRest q = mr at HT HM
      generalize (parentF q.path).1 = pq at HT HP
      generalize (parentF q.path).2 = ok at HT HP
      generalize collT (ps.take i) q.path = D at HT HCL
      generalize (ps.getD (i - 1) nd0).path = pv at HT HC HPV
      have hcv := cmp_vals (partsF pv) (partsF q.path)
      generalize cmpF (partsF pv) (partsF q.path) = C at HT HC hcv
      have hcb : -1 ≤ C ∧ C ≤ 1 := by omega
      go_wp2_with fail
      refine (HM.out _).mono ?_
      rintro e w2 ⟨rfl, o2⟩
      have HO2 := Lib.hid (HO.out.trans o2)
      have g0 := only_cell d0 o2
      have HPV2 : Hid (0 < i → ∃ o3, w2.cell? ⟨b, o3 + (i - 1) * 5, none⟩ = some (.string (tx pv)) ∧ o3 = o) := Lib.hid fun h => by
        obtain ⟨b3, o3, e3, f0⟩ := HPV.out h
        obtain ⟨rfl, rfl⟩ : b = b3 ∧ o = o3 := by simpa using e3
        exact ⟨o, only_cell f0 o2, rfl⟩
      clear o2 HM HO d0 d1 d2 d3 d4 HPV
      cases mp with
      | false =>
        have HE : Hid (R = 5) := Lib.hid (by rw [HK.out, HT.out, if_pos rfl])
        clear HT HK
        go_wp2
        go_ret
        rw [HE.out]
        exact ⟨rfl, HO2.out⟩
      | true =>
      have HT2 := Lib.hid (HT.out.trans (if_neg (by decide)))
      clear HT
      cases mr with
      | false =>
        have HE : Hid (R = 1) := Lib.hid (by rw [HK.out, HT2.out, if_pos rfl])
        clear HT2 HK
        go_wp2
        go_ret
        rw [HE.out]
        exact ⟨rfl, HO2.out⟩
      | true =>
      have HT3 := Lib.hid (HT2.out.trans (if_neg (by decide)))
      clear HT2
      by_cases hi0 : i = 0
      · have HT4 := Lib.hid (HT3.out.trans (if_neg (fun h => by omega)))
        have l6 : ¬ (0 : Int) < (i : Int) := by omega
        have l6b : ¬ 0 < i := by omega
        clear HT3 HPV2 HC hi0
        go_upto_region 11 with fail
        go_quiet (fail)
        have HOY : Hid (Only (fun _ => False) w (w2.drewN nq)) := Lib.hid (HO2.out.drewN nq)
        have gY : (w2.drewN nq).cell? ⟨b, o + i * 5, none⟩ = some (.string (tx q.path)) := g0
        generalize w2.drewN nq = wy at HOY gY ⊢
        clear g0 HO2
        go_wp2_with fail
        refine (HP.out wy).mono ?_
        rintro e _ ⟨rfl, rfl⟩
        clear HP
        cases ok with
        | false =>
          have HT5 : Hid (checkG (ps.take i) (ps.drop i) = if D = true then 6 else checkG (ps.take (i + 1)) (ps.drop (i + 1))) := Lib.hid (HT4.out.trans (if_neg (by simp)))
          clear HT4
          have HQ := Lib.hid fun w1 (ho : Only (fun _ => False) w w1) => HCL.out w1 ho
          go_upto_region 16 with fail
          go_region_held3 (fun W => W.cell? ⟨b, o + i * 5, none⟩ = some (.string (tx q.path))) (first | exact gY | assumption)
            (first
              | (go_at_call 30; refine (HQ.out _ (HOY.out.drewN 1)).mono ?_; rintro e w8 ⟨rfl, o8⟩
                 have g8 : w8.cell? ⟨b, o + i * 5, none⟩ = some (.string (tx q.path)) := only_cell (by first | assumption | exact gY) o8
                 have HO8 := Lib.hid o8
                 clear o8))
          have HOX : Hid (Only (fun _ => False) w w8) := Lib.hid ((HOY.out.drewN 1).trans HO8.out)
          clear HO8
          cases D with
          | true =>
            have HE : Hid (R = 6) := Lib.hid (by rw [HK.out, HT5.out, if_pos rfl])
            clear HT5 HK
            go_wp2
            go_ret
            rw [HE.out]
            exact ⟨rfl, HOX.out⟩
          | false =>
            have HE : Hid (R = checkG (ps.take (i + 1)) (ps.drop (i + 1))) := Lib.hid (by rw [HK.out, HT5.out, if_neg (by decide)])
            clear HT5 HK
            go_wp2_with fail
            go_roundg (gk - 1)
            case measure => omega
            case rel => exact ⟨i + 1, by go_num, by omega, HOX, HE⟩
        | true =>
          have HDQ := Lib.hid (HD.out pq wy HOY.out)
          generalize isDirT (ps.take i) pq = E at HDQ HT4
          go_wp2_with fail
          refine HDQ.out.mono ?_
          rintro e _ ⟨rfl, rfl⟩
          clear HDQ
          cases E with
          | false =>
            have HE : Hid (R = 8) := Lib.hid (by rw [HK.out, HT4.out, if_pos (by simp)])
            clear HT4 HK
            go_wp2
            go_ret
            rw [HE.out]
            exact ⟨rfl, HOY.out⟩
          | true =>
            have HT5 : Hid (checkG (ps.take i) (ps.drop i) = if D = true then 6 else checkG (ps.take (i + 1)) (ps.drop (i + 1))) := Lib.hid (HT4.out.trans (if_neg (by simp)))
            clear HT4
            have HQ := Lib.hid fun w1 (ho : Only (fun _ => False) w w1) => HCL.out w1 ho
            go_upto_region 16 with fail
            go_region_held3 (fun W => W.cell? ⟨b, o + i * 5, none⟩ = some (.string (tx q.path))) (first | exact gY | assumption)
              (first
                | (go_at_call 30; refine (HQ.out _ (HOY.out.drewN 1)).mono ?_; rintro e w8 ⟨rfl, o8⟩
                   have g8 : w8.cell? ⟨b, o + i * 5, none⟩ = some (.string (tx q.path)) := only_cell (by first | assumption | exact gY) o8
                   have HO8 := Lib.hid o8
                   clear o8))
            have HOX : Hid (Only (fun _ => False) w w8) := Lib.hid ((HOY.out.drewN 1).trans HO8.out)
            clear HO8
            cases D with
            | true =>
              have HE : Hid (R = 6) := Lib.hid (by rw [HK.out, HT5.out, if_pos rfl])
              clear HT5 HK
              go_wp2
              go_ret
              rw [HE.out]
              exact ⟨rfl, HOX.out⟩
            | false =>
              have HE : Hid (R = checkG (ps.take (i + 1)) (ps.drop (i + 1))) := Lib.hid (by rw [HK.out, HT5.out, if_neg (by decide)])
              clear HT5 HK
              go_wp2_with fail
              go_roundg (gk - 1)
              case measure => omega
              case rel => exact ⟨i + 1, by go_num, by omega, HOX, HE⟩
      · obtain ⟨j, hj⟩ : ∃ j, i = j + 1 := ⟨i - 1, by omega⟩
        have l6 : (0 : Int) < (i : Int) := by omega
        have l7 : (i : Int) - 1 = (j : Int) := by omega
        have l8 : (j : Int) < (n : Int) := by omega
        have l9 : IntKind.i64.wrap ((i : Int) - 1) = (j : Int) := by rw [IntWalk.i64_in _ (by omega)]; exact l7
        have l10 : decide ((0 : Int) < (i : Int)) = true := decide_eq_true l6
        have l11 : (0 : Int) ≤ (j : Int) := by omega
        have l12 : 0 < i := by omega
        have l13 : IntKind.i64.wrap (j : Int) = (j : Int) := IntWalk.i64_in _ (by omega)
        have l14 : j < n := by omega
        obtain ⟨o3, p0, rfl⟩ := HPV2.out (by omega)
        rw [show i - 1 = j by omega] at p0
        have HC2 := Lib.hid fun w1 => HC.out w1
        have HIJ : Hid (0 < i) := Lib.hid (by omega)
        clear HPV2 HC hj
        by_cases hc0 : 0 ≤ C
        · have HE : Hid (R = 2) := Lib.hid (by rw [HK.out, HT3.out, if_pos ⟨HIJ.out, hc0⟩])
          clear HT3 HK
          have m1 : decide (0 ≤ C) = true := decide_eq_true hc0
          clear hc0
          go_upto_region 11 with fail
          refine Steps.region (fun W => W.cell? ⟨b, o3 + j * 5, none⟩ = some (.string (tx pv)) ∧ W.cell? ⟨b, o3 + i * 5, none⟩ = some (.string (tx q.path))) [(true, 0), (true, 1), (true, 2), (true, 3), (true, 4), (true, 5), (true, 6), (true, 7), (true, 8), (true, 9), (true, 10), (true, 11), (true, 12), (true, 13), (false, 14), (true, 15), (true, 16)] (by kernel_rfl) (by kernel_rfl) rfl (by kernel_rfl) (fun _ _ d _ _ h => by cases d <;> exact h) ?_
          have HSW : Hid (w2.drew.cell? ⟨b, o3 + j * 5, none⟩ = some (.string (tx pv)) ∧ w2.drew.cell? ⟨b, o3 + i * 5, none⟩ = some (.string (tx q.path))) := Lib.hid ⟨p0, g0⟩
          refine Steps.wanted (.int .i64 i) rfl (by rfl) HSW.out (fun W hW => by kernel_rfl) ?_
          simp only [Act.put, List.setIfInBounds_toArray, List.set_cons_succ, List.set_cons_zero]
          refine Steps.wanted (.bool true) rfl (by rfl) HSW.out (fun W hW => by go_simp) ?_
          simp only [Act.put, List.setIfInBounds_toArray, List.set_cons_succ, List.set_cons_zero]
          refine Steps.wanted (.bool true) rfl (by rfl) HSW.out (fun W hW => by kernel_rfl) ?_
          simp only [Act.put, List.setIfInBounds_toArray, List.set_cons_succ, List.set_cons_zero]
          refine Steps.wanted (.slice (some ⟨b, o3, none⟩) n c) rfl (by rfl) HSW.out (fun W hW => by kernel_rfl) ?_
          simp only [Act.put, List.setIfInBounds_toArray, List.set_cons_succ, List.set_cons_zero]
          refine Steps.wanted (.int .i64 i) rfl (by rfl) HSW.out (fun W hW => by kernel_rfl) ?_
          simp only [Act.put, List.setIfInBounds_toArray, List.set_cons_succ, List.set_cons_zero]
          refine Steps.wanted (.int .i64 j) rfl (by rfl) HSW.out (fun W hW => by go_simp) ?_
          simp only [Act.put, List.setIfInBounds_toArray, List.set_cons_succ, List.set_cons_zero]
          refine Steps.wanted (.pointer (some ⟨b, o3 + j * 5, none⟩)) rfl (by rfl) HSW.out (fun W hW => by go_simp) ?_
          simp only [Act.put, List.setIfInBounds_toArray, List.set_cons_succ, List.set_cons_zero]
          refine Steps.wanted (.pointer (some ⟨b, o3 + j * 5, none⟩)) rfl (by rfl) HSW.out (fun W hW => by go_simp) ?_
          simp only [Act.put, List.setIfInBounds_toArray, List.set_cons_succ, List.set_cons_zero]
          refine Steps.wanted (.string (tx pv)) rfl (by rfl) HSW.out (fun W hW => by have cc := hW.1; go_simp) ?_
          simp only [Act.put, List.setIfInBounds_toArray, List.set_cons_succ, List.set_cons_zero]
          refine Steps.wanted (.slice (some ⟨b, o3, none⟩) n c) rfl (by rfl) HSW.out (fun W hW => by kernel_rfl) ?_
          simp only [Act.put, List.setIfInBounds_toArray, List.set_cons_succ, List.set_cons_zero]
          refine Steps.wanted (.int .i64 i) rfl (by rfl) HSW.out (fun W hW => by kernel_rfl) ?_
          simp only [Act.put, List.setIfInBounds_toArray, List.set_cons_succ, List.set_cons_zero]
          refine Steps.wanted (.pointer (some ⟨b, o3 + i * 5, none⟩)) rfl (by rfl) HSW.out (fun W hW => by go_simp) ?_
          simp only [Act.put, List.setIfInBounds_toArray, List.set_cons_succ, List.set_cons_zero]
          refine Steps.wanted (.pointer (some ⟨b, o3 + i * 5, none⟩)) rfl (by rfl) HSW.out (fun W hW => by go_simp) ?_
          simp only [Act.put, List.setIfInBounds_toArray, List.set_cons_succ, List.set_cons_zero]
          refine Steps.wanted (.string (tx q.path)) rfl (by rfl) HSW.out (fun W hW => by have cc := hW.2; go_simp) ?_
          simp only [Act.put, List.setIfInBounds_toArray, List.set_cons_succ, List.set_cons_zero]
          refine Steps.callG 27 #[.string (tx pv), .string (tx q.path)] rfl (by rfl) (by kernel_rfl) ((HC2.out _).mono ?_)
          rintro e w5 ⟨rfl, o5⟩
          have HOY := Lib.hid (HO2.out.drew.trans o5)
          have HSW2 := Lib.hid (And.intro (only_cell HSW.out.1 o5) (only_cell HSW.out.2 o5))
          have g5 := HSW2.out.2
          clear HSW o5 HO2 p0 g0 HC2
          refine ⟨_, rfl, HSW2.out, ?_⟩
          simp only [Act.put, List.setIfInBounds_toArray, List.set_cons_succ, List.set_cons_zero]
          refine Steps.wanted (.bool true) rfl (by rfl) HSW2.out (fun W hW => by go_simp) ?_
          simp only [Act.put, List.setIfInBounds_toArray, List.set_cons_succ, List.set_cons_zero]
          refine Steps.wanted (.bool true) rfl (by rfl) HSW2.out (fun W hW => by kernel_rfl) ?_
          simp only [Act.put, List.setIfInBounds_toArray, List.set_cons_succ, List.set_cons_zero]
          show wpList _ _ _ _ _ _
          go_wp2
          go_ret
          rw [HE.out]
          exact ⟨rfl, HOY.out⟩
        · have HT4 := Lib.hid (HT3.out.trans (if_neg (fun h => hc0 h.2)))
          have m1 : decide (0 ≤ C) = false := decide_eq_false hc0
          clear HT3 hc0
          go_upto_region 11 with fail
          refine Steps.region (fun W => W.cell? ⟨b, o3 + j * 5, none⟩ = some (.string (tx pv)) ∧ W.cell? ⟨b, o3 + i * 5, none⟩ = some (.string (tx q.path))) [(true, 0), (true, 1), (true, 2), (true, 3), (true, 4), (true, 5), (true, 6), (true, 7), (true, 8), (true, 9), (true, 10), (true, 11), (true, 12), (true, 13), (false, 14), (true, 15), (true, 16)] (by kernel_rfl) (by kernel_rfl) rfl (by kernel_rfl) (fun _ _ d _ _ h => by cases d <;> exact h) ?_
          have HSW : Hid (w2.drew.cell? ⟨b, o3 + j * 5, none⟩ = some (.string (tx pv)) ∧ w2.drew.cell? ⟨b, o3 + i * 5, none⟩ = some (.string (tx q.path))) := Lib.hid ⟨p0, g0⟩
          refine Steps.wanted (.int .i64 i) rfl (by rfl) HSW.out (fun W hW => by kernel_rfl) ?_
          simp only [Act.put, List.setIfInBounds_toArray, List.set_cons_succ, List.set_cons_zero]
          refine Steps.wanted (.bool true) rfl (by rfl) HSW.out (fun W hW => by go_simp) ?_
          simp only [Act.put, List.setIfInBounds_toArray, List.set_cons_succ, List.set_cons_zero]
          refine Steps.wanted (.bool true) rfl (by rfl) HSW.out (fun W hW => by kernel_rfl) ?_
          simp only [Act.put, List.setIfInBounds_toArray, List.set_cons_succ, List.set_cons_zero]
          refine Steps.wanted (.slice (some ⟨b, o3, none⟩) n c) rfl (by rfl) HSW.out (fun W hW => by kernel_rfl) ?_
          simp only [Act.put, List.setIfInBounds_toArray, List.set_cons_succ, List.set_cons_zero]
          refine Steps.wanted (.int .i64 i) rfl (by rfl) HSW.out (fun W hW => by kernel_rfl) ?_
          simp only [Act.put, List.setIfInBounds_toArray, List.set_cons_succ, List.set_cons_zero]
          refine Steps.wanted (.int .i64 j) rfl (by rfl) HSW.out (fun W hW => by go_simp) ?_
          simp only [Act.put, List.setIfInBounds_toArray, List.set_cons_succ, List.set_cons_zero]
          refine Steps.wanted (.pointer (some ⟨b, o3 + j * 5, none⟩)) rfl (by rfl) HSW.out (fun W hW => by go_simp) ?_
          simp only [Act.put, List.setIfInBounds_toArray, List.set_cons_succ, List.set_cons_zero]
          refine Steps.wanted (.pointer (some ⟨b, o3 + j * 5, none⟩)) rfl (by rfl) HSW.out (fun W hW => by go_simp) ?_
          simp only [Act.put, List.setIfInBounds_toArray, List.set_cons_succ, List.set_cons_zero]
          refine Steps.wanted (.string (tx pv)) rfl (by rfl) HSW.out (fun W hW => by have cc := hW.1; go_simp) ?_
          simp only [Act.put, List.setIfInBounds_toArray, List.set_cons_succ, List.set_cons_zero]
          refine Steps.wanted (.slice (some ⟨b, o3, none⟩) n c) rfl (by rfl) HSW.out (fun W hW => by kernel_rfl) ?_
          simp only [Act.put, List.setIfInBounds_toArray, List.set_cons_succ, List.set_cons_zero]
          refine Steps.wanted (.int .i64 i) rfl (by rfl) HSW.out (fun W hW => by kernel_rfl) ?_
          simp only [Act.put, List.setIfInBounds_toArray, List.set_cons_succ, List.set_cons_zero]
          refine Steps.wanted (.pointer (some ⟨b, o3 + i * 5, none⟩)) rfl (by rfl) HSW.out (fun W hW => by go_simp) ?_
          simp only [Act.put, List.setIfInBounds_toArray, List.set_cons_succ, List.set_cons_zero]
          refine Steps.wanted (.pointer (some ⟨b, o3 + i * 5, none⟩)) rfl (by rfl) HSW.out (fun W hW => by go_simp) ?_
          simp only [Act.put, List.setIfInBounds_toArray, List.set_cons_succ, List.set_cons_zero]
          refine Steps.wanted (.string (tx q.path)) rfl (by rfl) HSW.out (fun W hW => by have cc := hW.2; go_simp) ?_
          simp only [Act.put, List.setIfInBounds_toArray, List.set_cons_succ, List.set_cons_zero]
          refine Steps.callG 27 #[.string (tx pv), .string (tx q.path)] rfl (by rfl) (by kernel_rfl) ((HC2.out _).mono ?_)
          rintro e w5 ⟨rfl, o5⟩
          have HOY := Lib.hid (HO2.out.drew.trans o5)
          have HSW2 := Lib.hid (And.intro (only_cell HSW.out.1 o5) (only_cell HSW.out.2 o5))
          have g5 := HSW2.out.2
          clear HSW o5 HO2 p0 g0 HC2
          refine ⟨_, rfl, HSW2.out, ?_⟩
          simp only [Act.put, List.setIfInBounds_toArray, List.set_cons_succ, List.set_cons_zero]
          refine Steps.wanted (.bool false) rfl (by rfl) HSW2.out (fun W hW => by go_simp) ?_
          simp only [Act.put, List.setIfInBounds_toArray, List.set_cons_succ, List.set_cons_zero]
          refine Steps.wanted (.bool false) rfl (by rfl) HSW2.out (fun W hW => by kernel_rfl) ?_
          simp only [Act.put, List.setIfInBounds_toArray, List.set_cons_succ, List.set_cons_zero]
          show wpList _ _ _ _ _ _
          go_wp2_with fail
          refine (HP.out w5).mono ?_
          rintro e _ ⟨rfl, rfl⟩
          clear HP
          cases ok with
          | false =>
            have HT5 : Hid (checkG (ps.take i) (ps.drop i) = if D = true then 6 else checkG (ps.take (i + 1)) (ps.drop (i + 1))) := Lib.hid (HT4.out.trans (if_neg (by simp)))
            clear HT4
            have HQ := Lib.hid fun w1 (ho : Only (fun _ => False) w w1) => HCL.out w1 ho
            go_upto_region 16 with fail
            go_region_held3 (fun W => W.cell? ⟨b, o3 + i * 5, none⟩ = some (.string (tx q.path))) (first | exact g5 | assumption)
              (first
                | (go_at_call 30; refine (HQ.out _ (HOY.out.drewN 1)).mono ?_; rintro e w8 ⟨rfl, o8⟩
                   have g8 : w8.cell? ⟨b, o3 + i * 5, none⟩ = some (.string (tx q.path)) := only_cell (by first | assumption | exact g5) o8
                   have HO8 := Lib.hid o8
                   clear o8))
            have HOX : Hid (Only (fun _ => False) w w8) := Lib.hid ((HOY.out.drewN 1).trans HO8.out)
            clear HO8
            cases D with
            | true =>
              have HE : Hid (R = 6) := Lib.hid (by rw [HK.out, HT5.out, if_pos rfl])
              clear HT5 HK
              go_wp2
              go_ret
              rw [HE.out]
              exact ⟨rfl, HOX.out⟩
            | false =>
              have HE : Hid (R = checkG (ps.take (i + 1)) (ps.drop (i + 1))) := Lib.hid (by rw [HK.out, HT5.out, if_neg (by decide)])
              clear HT5 HK
              go_wp2_with fail
              go_roundg (gk - 1)
              case measure => omega
              case rel => exact ⟨i + 1, by go_num, by omega, HOX, HE⟩
          | true =>
            have HDQ := Lib.hid (HD.out pq w5 HOY.out)
            generalize isDirT (ps.take i) pq = E at HDQ HT4
            go_wp2_with fail
            refine HDQ.out.mono ?_
            rintro e _ ⟨rfl, rfl⟩
            clear HDQ
            cases E with
            | false =>
              have HE : Hid (R = 8) := Lib.hid (by rw [HK.out, HT4.out, if_pos (by simp)])
              clear HT4 HK
              go_wp2
              go_ret
              rw [HE.out]
              exact ⟨rfl, HOY.out⟩
            | true =>
              have HT5 : Hid (checkG (ps.take i) (ps.drop i) = if D = true then 6 else checkG (ps.take (i + 1)) (ps.drop (i + 1))) := Lib.hid (HT4.out.trans (if_neg (by simp)))
              clear HT4
              have HQ := Lib.hid fun w1 (ho : Only (fun _ => False) w w1) => HCL.out w1 ho
              go_upto_region 16 with fail
              go_region_held3 (fun W => W.cell? ⟨b, o3 + i * 5, none⟩ = some (.string (tx q.path))) (first | exact g5 | assumption)
                (first
                  | (go_at_call 30; refine (HQ.out _ (HOY.out.drewN 1)).mono ?_; rintro e w8 ⟨rfl, o8⟩
                     have g8 : w8.cell? ⟨b, o3 + i * 5, none⟩ = some (.string (tx q.path)) := only_cell (by first | assumption | exact g5) o8
                     have HO8 := Lib.hid o8
                     clear o8))
              have HOX : Hid (Only (fun _ => False) w w8) := Lib.hid ((HOY.out.drewN 1).trans HO8.out)
              clear HO8
              cases D with
              | true =>
                have HE : Hid (R = 6) := Lib.hid (by rw [HK.out, HT5.out, if_pos rfl])
                clear HT5 HK
                go_wp2
                go_ret
                rw [HE.out]
                exact ⟨rfl, HOX.out⟩
              | false =>
                have HE : Hid (R = checkG (ps.take (i + 1)) (ps.drop (i + 1))) := Lib.hid (by rw [HK.out, HT5.out, if_neg (by decide)])
                clear HT5 HK
                go_wp2_with fail
                go_roundg (gk - 1)
                case measure => omega
                case rel => exact ⟨i + 1, by go_num, by omega, HOX, HE⟩
    · obtain rfl : i = n := by omega
      have l5 : ¬ (i : Int) < (i : Int) := by omega
      have HE : Hid (R = if 4194304 < bytesT ps then 7 else 0) := Lib.hid (by
        rw [HK.out, List.drop_eq_nil_iff.2 (by rw [HN.out]; exact Nat.le_refl _), List.take_of_length_le (by rw [HN.out]; exact Nat.le_refl _)]
        rfl)
      have HY := Lib.hid (HBY.out wr HO.out)
      generalize bytesT ps = S at HY HE HBB
      clear HK
      go_wp2_with fail
      refine HY.out.mono ?_
      rintro e _ ⟨rfl, rfl⟩
      clear HY
      by_cases hS : 4194304 < S
      · have m1 : (4194304 : Int) < (S : Int) := by omega
        have HE2 : Hid (R = 7) := Lib.hid (by rw [HE.out, if_pos hS])
        go_wp2
        go_ret
        rw [HE2.out]
        exact ⟨rfl, HO.out⟩
      · have m1 : ¬ (4194304 : Int) < (S : Int) := by omega
        have HE2 : Hid (R = 0) := Lib.hid (by rw [HE.out, if_neg hS])
        go_wp2
        go_ret
        rw [HE2.out]
        exact ⟨rfl, HO.out⟩
end Go.Proofs.YtaeaomlhbdbbfaaDoor
