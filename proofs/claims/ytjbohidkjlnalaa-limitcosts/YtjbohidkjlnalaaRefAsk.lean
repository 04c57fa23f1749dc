/- Layer 6: which limits may be, and what packages cost at least, in the document. -/
import Derived.Test.YtjbohidkjlnalaaRefLeast
namespace Go.Proofs.Ytjbohidkjlnalaa
open Go.RowKit

/-- append inside a region that draws its order. -/
theorem step_append_row {P : Program} {k : IntKind} {B : Nat} {w : World} {ops : Array Oper} {o : Oper} {a : Act} {K : Act → World → Prop} {Q : Exit → Act → World → Prop} {E : Prop} (hgd : o.guard = none) (s x : Operand) (t tx e : TypeId)
    (ho : o.op = .call { callee := .builtin .append, args := #[s, x], argTypes := #[t, tx] }) (ht : P.underlying t = some (.slice e))
    (hi : (P.info? e).map (fun i => (i.zero, i.size, i.bytes)) = some (some (.int k 0), 1, B)) (A : Option Addr) (n c m : Nat) (l r : List Value) (y : Value) (hsv : a.eval s = .slice A n c) (hxv : a.eval x = y)
    (h : Row e w A n c l) (hr : r.length = m) (hs : Src P 1 tx y m r w) (hB : B ≤ 8) (hb : n + m ≤ 1099511627776)
    (hk : ∀ A' c' w', Row e w' A' (n + m) c' (l ++ r) → Only (Lies A) w w' → (A' = A ∨ A' = some ⟨w.heap.size, 0, none⟩) → K (a.put o.dst (.slice A' (n + m) c')) w') :
    if Region.wanted o (yielded ops a.tmps) = true then Oper.wp P o a w K Q else E := by
  have hw : Region.wanted o (yielded ops a.tmps) = true := by simp [Region.wanted, hgd]
  rw [if_pos hw]
  obtain ⟨A', c', w', hrun, h2, h3, h4⟩ := run_append_row (ty := o.type) ht hi h hr hs hB hb
  unfold Oper.wp execOp
  simp only [ho, resolve, invoke, builtin, Sem.run_bind, Sem.run_pure, Result.andThen_ok, List.map_toArray, List.map_cons, List.map_nil, hsv, hxv, hrun]
  exact hk A' c' w' h2 h3 h4

def AskPost (w : World) (r : Nat) (e : Ending) (w' : World) : Prop := e = .returned (.int .i64 (r : Nat)) ∧ Only (fun _ => False) w w'
set_option maxHeartbeats 2000000 in
theorem asked_bad (A : Option Addr) (n k : Nat) (most : Int) (b : Bool) (w : World) (h : Calls Try.prog 21 #[.slice A n k] w fun e w' => e = .returned (.bool b) ∧ w = w') (hm : b = false ∨ most < 1 ∨ 15 < most) :
    Calls Try.prog 8 #[.slice A n k, .int .i64 most] w (AskPost w 1) := by
  have HAl := Lib.hid h
  clear h
  cases b with
  | false =>
    clear hm
    go_enter Try.func8, Try.ntmps8
    go_wp2_with fail
    refine HAl.out.mono ?_
    rintro e w1 ⟨rfl, rfl⟩
    go_wp2
    go_ret
    exact ⟨rfl, Only.refl _ _⟩
  | true =>
    by_cases h1 : most < 1
    · have d1 : decide (most < 1) = true := by simpa using h1
      clear hm
      go_enter Try.func8, Try.ntmps8
      go_wp2_with fail
      refine HAl.out.mono ?_
      rintro e w1 ⟨rfl, rfl⟩
      go_wp2
      go_ret
      exact ⟨rfl, Only.refl _ _⟩
    · have h2 : 15 < most := by rcases hm with h | h | h <;> simp_all
      have d1 : decide (most < 1) = false := by simpa using h1
      have d2 : decide (15 < most) = true := by simpa using h2
      clear hm
      go_enter Try.func8, Try.ntmps8
      go_wp2_with fail
      refine HAl.out.mono ?_
      rintro e w1 ⟨rfl, rfl⟩
      go_wp2
      go_ret
      exact ⟨rfl, Only.refl _ _⟩

theorem Wt.len {c W : List Nat} (h : Wt c W) : W.length = some_ c := h.2.length_eq
set_option maxHeartbeats 4000000 in
theorem asked (A : Option Addr) (n k most B : Nat) (c : List Nat) (w : World) (h : See w B A (ints c)) (hn : c.length = n) (h288 : n ≤ 288) (hl : Low c) (hm1 : 1 ≤ most) (hm15 : most ≤ 15) :
    Calls Try.prog 8 #[.slice A n k, .int .i64 most] w (AskPost w (if some_ c ≤ 2 ^ most then 0 else 1)) := by
  have HR := Lib.hid (right_yes A n k B c w h hn h288 hl)
  have HSo := Lib.hid (someOf A n k B c w h hn h288 hl)
  have d1 : decide ((most : Int) < 1) = false := by simp; omega
  have d2 : decide (15 < (most : Int)) = false := by simp; omega
  obtain ⟨r, hr⟩ : ∃ r, (if some_ c ≤ 2 ^ most then 0 else 1) = r := ⟨_, rfl⟩
  rw [hr]
  have HRR := Lib.hid hr
  clear h hn hl hr
  go_enter Try.func8, Try.ntmps8
  go_wp2_with fail
  refine HR.out.mono ?_
  rintro e w1 ⟨rfl, rfl⟩
  clear HR
  go_wp2_with fail
  go_loopg [5, 6] most (fun gk v5 v6 wx => ∃ j P : Nat, v5 = .int .i64 P ∧ v6 = .int .i64 j ∧ j + gk ≤ most ∧ most ≤ j + gk ∧ P ≤ 32768 ∧ Hid (2 ^ j = P) ∧ wx = w)
  case atStart => exact ⟨0, 1, rfl, rfl, by omega, by omega, by omega, Lib.hid rfl, rfl⟩
  case round =>
    obtain ⟨j, P, rfl, rfl, hg1, hg2, hP, HP, rfl⟩ := hrel
    by_cases hlt : j < most
    · have hp1 : 2 ^ (j + 1) = 2 * P := by rw [Nat.pow_succ, HP.out]; omega
      have hp2 : 2 ^ (j + 1) ≤ 2 ^ 15 := Nat.pow_le_pow_right (by decide) (by omega)
      rw [hp1] at hp2
      have HP1 := Lib.hid hp1
      clear hp1
      go_wp2_with fail
      go_roundg (gk - 1)
      case measure => omega
      case rel => exact ⟨j + 1, 2 * P, by go_num, by go_num, by omega, by omega, by omega, HP1, rfl⟩
    · obtain rfl : j = most := by omega
      go_wp2_with fail
      refine HSo.out.mono ?_
      rintro e w2 ⟨Aw, cap, W, rfl, hmd, hW⟩
      have hlen := hW.len
      obtain ⟨m, hm⟩ : ∃ m, W.length = m := ⟨_, rfl⟩
      rw [hm] at hlen ⊢
      have hr := HRR.out
      rw [← hlen, HP.out] at hr
      have HO := Lib.hid hmd.2.1
      clear hmd hW hm HSo
      by_cases hPm : m ≤ P
      · rw [if_pos hPm] at hr
        subst hr
        go_wp2
        go_ret
        exact ⟨rfl, HO.out⟩
      · rw [if_neg hPm] at hr
        subst hr
        go_wp2
        go_ret
        exact ⟨rfl, HO.out⟩

theorem rs_at {W : List Nat} (h : Low W) (k i : Nat) (hk : k ≤ 15) : ln (rs W k) i ≤ 34359738368 := by
  rcases Nat.lt_or_ge i (rs W k).length with h1 | h1
  · have h2 := rs_max h k _ (ln_mem (rs W k) i h1)
    have h3 : 2 ^ k ≤ 2 ^ 15 := Nat.pow_le_pow_right (by decide) hk
    have h4 : 1048576 * 2 ^ k ≤ 1048576 * 2 ^ 15 := Nat.mul_le_mul_left _ h3
    omega
  · simp [ln, h1]
theorem prs_snoc (l : List Nat) (j : Nat) (h : 2 * j + 1 < l.length) : (prs l).take (j + 1) = (prs l).take j ++ [ln l (2 * j) + ln l (2 * j + 1)] := by
  have hj : j < (prs l).length := by rw [prs_length]; omega
  rw [List.take_add_one, List.getElem?_eq_getElem hj, ← prs_at l j h]
  simp [ln, hj]
/-- Where a row stands: q rows are made. -/
def RowAt (w1 : World) (W : List Nat) (Ar : Option Addr) (nr q : Nat) (wx : World) : Prop := (rs W q).length = nr ∧ See wx wx.heap.size Ar (ints (rs W q)) ∧ Only (fun _ => False) w1 wx

set_option maxHeartbeats 8000000 in
theorem leastRef (A : Option Addr) (n k most B : Nat) (c W : List Nat) (w : World) (h : See w B A (ints c)) (hn : c.length = n) (h288 : n ≤ 288) (hl : Low c) (hW : Wt c W) (hm1 : 1 ≤ most) (hm15 : most ≤ 15) (hpow : W.length ≤ 2 ^ most) :
    Calls Try.prog 12 #[.slice A n k, .int .i64 most] w (AskPost w (leastOf W most)) := by
  have HSo := Lib.hid (someOf A n k B c w h hn h288 hl)
  have HWl := Lib.hid (hW.low hl)
  have hWn : W.length ≤ n := by
    rw [hW.2.length_eq, ← hn]
    exact List.length_filter_le _ _
  have HW := Lib.hid hW
  have HPow := Lib.hid hpow
  clear h hn hl hW hpow
  go_enter Try.func12, Try.ntmps12
  go_wp2_with fail
  refine HSo.out.mono ?_
  rintro e w1 ⟨Aw, cap, W', rfl, hmd, hW'⟩
  obtain rfl := hW'.eq HW.out
  obtain ⟨m, hm⟩ : ∃ m, W'.length = m := ⟨_, rfl⟩
  have HM := Lib.hid hm
  rw [hm] at hmd hWn ⊢
  have HSee : Hid (∀ wx, Only (fun _ => False) w1 wx → See wx w1.heap.size Aw (ints W')) := Lib.hid fun wx ho => hmd.see.new ho
  have HO1 := Lib.hid hmd.2.1
  clear hm hmd hW' HSo
  by_cases h2 : m < 2
  · go_wp2_with fail
    go_loopg [6, 7] m (fun gk v6 v7 wx => ∃ j s : Nat, v6 = .int .i64 s ∧ v7 = .int .i64 j ∧ j + gk ≤ m ∧ m ≤ j + gk ∧ s ≤ j * 1048576 ∧ Hid (sumTo j (ln W') = s) ∧ wx = w1)
    case atStart => exact ⟨0, 0, rfl, rfl, by omega, by omega, by omega, Lib.hid rfl, rfl⟩
    case round =>
      obtain ⟨j, s, rfl, rfl, hg1, hg2, hs, HP, rfl⟩ := hrel
      by_cases hlt : j < m
      · obtain ⟨b, off, rfl, _, hc⟩ := HSee.out wr (Only.refl _ _) j _ (ints_at W' j (by rw [HM.out]; exact hlt))
        have hx := ln_le HWl.out j
        have hsum : sumTo (j + 1) (ln W') = s + ln W' j := by rw [sumTo, HP.out]
        obtain ⟨x, hx1⟩ : ∃ x, ln W' j = x := ⟨_, rfl⟩
        rw [hx1] at hc hx hsum
        have HSum := Lib.hid hsum
        clear hsum hx1
        go_wp2_with fail
        go_roundg (gk - 1)
        case measure => omega
        case rel => exact ⟨j + 1, s + x, by go_num, by go_num, by omega, by omega, by omega, HSum, rfl⟩
      · obtain rfl : j = m := by omega
        have HZ : Hid (leastOf W' most = s) := Lib.hid (by
          unfold leastOf
          rw [if_pos (by rw [HM.out]; exact h2), ← HP.out, ← take_sum W' j (by rw [HM.out]; exact Nat.le_refl _), List.take_of_length_le (by rw [HM.out]; exact Nat.le_refl _)])
        go_wp2
        go_ret
        exact ⟨by rw [HZ.out]; rfl, HO1.out⟩
  · have HST : Hid (RowAt w1 W' Aw m 0 w1) := Lib.hid ⟨HM.out, HSee.out w1 (Only.refl _ _), Only.refl _ _⟩
    have d22 : decide ((m : Int) < 2) = false := by simp; omega
    go_wp2_with fail
    go_loopg [8, 9] most (fun gk v8 v9 wx => ∃ (q nr cr : Nat) (Ar : Option Addr), v8 = .slice Ar nr cr ∧ v9 = .int .i64 (q + 1 : Nat) ∧ q + gk ≤ most ∧ most ≤ q + gk ∧ q < most ∧ nr ≤ 1000 ∧ Hid (RowAt w1 W' Ar nr q wx))
    case atStart => exact ⟨0, m, cap, Aw, rfl, rfl, by omega, by omega, by omega, by omega, HST⟩
    case round =>
      clear HST
      obtain ⟨q, nr, cr, Ar, rfl, rfl, hg1, hg2, hqm, hnr, HI⟩ := hrel
      obtain ⟨gO, hgO⟩ : ∃ gO, gk = gO := ⟨_, rfl⟩
      obtain ⟨Q1, hQ1⟩ : ∃ Q1, q + 1 = Q1 := ⟨_, rfl⟩
      rw [hQ1]
      by_cases hlt : Q1 < most
      · have HR := Lib.hid HI.out.1
        obtain ⟨wb, hwb⟩ : ∃ wb, wr = wb := ⟨_, rfl⟩
        have HSR : Hid (∀ wx, Only (fun _ => False) wb wx → See wx wb.heap.size Ar (ints (rs W' q))) := Lib.hid fun wx ho => by rw [← hwb] at ho ⊢; exact HI.out.2.1.new ho
        have HOb : Hid (Only (fun _ => False) w1 wb) := Lib.hid (by rw [← hwb]; exact HI.out.2.2)
        have HST : Hid (Made 3 wb none 0 0 (ints ((prs (rs W' q)).take 0)) wb) := Lib.hid ⟨Row.nil 3 wb, Only.refl _ wb, by rintro j ⟨ad, e, _⟩; cases e⟩
        clear HI
        go_wp2_with fail
        try rw [hwb]
        clear hwb
        have mixed := Try.laysSlF20_f38.mixed
        go_loopg [10, 11] nr (fun gk v10 v11 wx => ∃ (j i cp : Nat) (Ap : Option Addr), v10 = .slice Ap j cp ∧ v11 = .int .i64 i ∧ 2 * j = i ∧ nr ≤ i + gk ∧ i ≤ nr ∧ Hid (Made 3 wb Ap j cp (ints ((prs (rs W' q)).take j)) wx))
        case atStart => exact ⟨0, 0, 0, none, rfl, rfl, by omega, by omega, by omega, HST⟩
        case round =>
          clear HST
          obtain ⟨j, i, cp, Ap, rfl, rfl, hij, hig, hinr, HI⟩ := hrel
          by_cases hlt2 : i + 1 < nr
          · obtain ⟨b, off, rfl, _, hc1⟩ := HSR.out wr HI.out.2.1 i _ (ints_at (rs W' q) i (by rw [HR.out]; omega))
            obtain ⟨b2, off2, e2, _, hc2⟩ := HSR.out wr HI.out.2.1 (i + 1) _ (ints_at (rs W' q) (i + 1) (by rw [HR.out]; omega))
            obtain ⟨rfl, rfl⟩ : b = b2 ∧ off = off2 := by simpa using e2
            have hx := rs_at HWl.out q i (by omega)
            have hy := rs_at HWl.out q (i + 1) (by omega)
            have hsn := prs_snoc (rs W' q) j (by rw [HR.out]; omega)
            rw [hij] at hsn
            obtain ⟨x, hx1⟩ : ∃ x, ln (rs W' q) i = x := ⟨_, rfl⟩
            obtain ⟨y, hy1⟩ : ∃ y, ln (rs W' q) (i + 1) = y := ⟨_, rfl⟩
            rw [hx1] at hc1 hx hsn
            rw [hy1] at hc2 hy hsn
            obtain ⟨i1, hi1⟩ : ∃ i1, i + 1 = i1 := ⟨_, rfl⟩
            rw [hi1] at hc2
            obtain ⟨z, hz⟩ : ∃ z, x + y = z := ⟨_, rfl⟩
            rw [hz] at hsn
            have HSN := Lib.hid hsn
            have ei1 : (i : Int) + 1 = (i1 : Int) := by omega
            have ez : (x : Int) + (y : Int) = (z : Int) := by omega
            have ri1 : IntKind.i64.wrap (i1 : Int) = (i1 : Int) := by rw [IntKind.wrap_i64]; omega
            have rz : IntKind.i64.wrap (z : Int) = (z : Int) := by rw [IntKind.wrap_i64]; omega
            have bi : (i : Int) < (nr : Int) := by omega
            have bi1 : (i1 : Int) < (nr : Int) := by omega
            clear hsn hx1 hy1 hz e2
            go_wp2_with fail
            go_region_law (first
              | (refine step_append_row (by rfl) (.tmp 45) (.tmp 56) 22 22 3 (by rfl) Try.underlying22 info3 Ap j cp 1 _ [.int .i64 (z : Int)] (.slice (some ⟨wr.heap.size, 0, none⟩) 1 1) (by rfl) (by rfl) ((HI.out.drewN 1).1.alloc _) rfl (Src.oneInt Try.underlying22 wr.drew .i64 (z : Int) 1 3) (by omega) (by omega) ?_
                 intro A9 c9 w9 hrow9 honly9 hlies9
                 have H9 := Lib.hid ((HI.out.drewN 1).more (x := z) hrow9 honly9 hlies9)
                 clear hrow9 honly9 hlies9))
            all_goals
              obtain ⟨g9, h91, h92⟩ := H9.out
              rw [← HSN.out] at h92
              subst h91
              have H92 := Lib.hid h92
              clear H9 h92
              go_wp2_with fail
              go_roundg (gk - 2)
              case measure => omega
              case rel => exact ⟨j + 1, i + 2, c9, _, rfl, by go_num, by omega, by omega, by omega, H92⟩
          · have hji : (prs (rs W' q)).length = j := by rw [prs_length, HR.out]; omega
            have h1 := HI.out
            rw [List.take_of_length_le (by rw [hji]; exact Nat.le_refl _)] at h1
            have HC := Lib.hid (merged Aw Ap m cap j cp _ _ W' (prs (rs W' q)) wr (HSee.out wr (HOb.out.trans h1.2.1)) h1.see HM.out hji (by omega) (by omega))
            have HO2 := Lib.hid (HOb.out.trans h1.2.1)
            have hlen2 : (mrg W' (prs (rs W' q))).length = m + j := by rw [mrg_length, HM.out, hji]
            have HLN := Lib.hid hlen2
            have hi2 : ¬ (i : Int) + 1 < (nr : Int) := by omega
            clear h1 HI hji hlen2
            go_wp2_with fail
            refine HC.out.mono ?_
            rintro e w2 ⟨Am, cm, rfl, hmd2⟩
            rw [HLN.out] at hmd2 ⊢
            have HZ : Hid (RowAt w1 W' Am (m + j) (q + 1) w2) := Lib.hid ⟨HLN.out, hmd2.see, HO2.out.trans hmd2.2.1⟩
            clear hmd2 HC
            go_wp2_with fail
            go_roundg (gO - 1)
            case measure => omega
            case rel => exact ⟨q + 1, m + j, cm, Am, rfl, by rw [hQ1]; go_num, by omega, by omega, by omega, by omega, HZ⟩
      · obtain rfl : Q1 = most := by omega
        obtain ⟨hr1, hr2, hr3⟩ := HI.out
        have hlong := rs_long W' q (by rw [hQ1]; exact HPow.out)
        rw [HM.out, hr1] at hlong
        have HSR := Lib.hid hr2
        have HO3 := Lib.hid hr3
        have HR1 := Lib.hid hr1
        clear hr1 hr2 hr3 HI
        obtain ⟨T, hT⟩ : ∃ T, 2 * m = T := ⟨_, rfl⟩
        obtain ⟨T2, hT2⟩ : ∃ T2, T - 2 = T2 := ⟨_, rfl⟩
        have eT : 2 * (m : Int) = (T : Int) := by omega
        have eT2 : (T : Int) - 2 = (T2 : Int) := by omega
        obtain ⟨wb, hwb⟩ : ∃ wb, wr = wb := ⟨_, rfl⟩
        rw [hwb] at HSR HO3
        go_wp2_with fail
        try rw [hwb]
        clear hwb
        go_loopg [12, 13] T2 (fun gk v12 v13 wx => ∃ j s : Nat, v12 = .int .i64 s ∧ v13 = .int .i64 j ∧ j + gk ≤ T2 ∧ T2 ≤ j + gk ∧ s ≤ j * 34359738368 ∧ Hid (sumTo j (ln (rs W' q)) = s) ∧ wx = wb)
        case atStart => exact ⟨0, 0, rfl, rfl, by omega, by omega, by omega, Lib.hid rfl, rfl⟩
        case round =>
          obtain ⟨j, s, rfl, rfl, hj1, hj2, hs, HP, rfl⟩ := hrel
          by_cases hlt2 : j < T2
          · obtain ⟨b, off, rfl, _, hc⟩ := HSR.out j _ (ints_at (rs W' q) j (by rw [HR1.out]; omega))
            have hx := rs_at HWl.out q j (by omega)
            have hsum : sumTo (j + 1) (ln (rs W' q)) = s + ln (rs W' q) j := by rw [sumTo, HP.out]
            obtain ⟨x, hx1⟩ : ∃ x, ln (rs W' q) j = x := ⟨_, rfl⟩
            rw [hx1] at hc hx hsum
            have HSum := Lib.hid hsum
            clear hsum hx1
            go_wp2_with fail
            go_roundg (gk - 1)
            case measure => omega
            case rel => exact ⟨j + 1, s + x, by go_num, by go_num, by omega, by omega, by omega, HSum, rfl⟩
          · obtain rfl : j = T2 := by omega
            have HZ : Hid (leastOf W' Q1 = s) := Lib.hid (by
              unfold leastOf
              rw [if_neg (by rw [HM.out]; omega), ← HP.out, ← hQ1, Nat.add_sub_cancel, HM.out, show 2 * (m - 1) = j from by omega, take_sum _ _ (by rw [HR1.out]; omega)])
            go_wp2
            go_ret
            exact ⟨by rw [HZ.out]; rfl, HO1.out.trans HO3.out⟩
end Go.Proofs.Ytjbohidkjlnalaa
