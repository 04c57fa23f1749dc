/- Layer 9, the program: the longest match of so many places. -/
import Derived.Test.YtgkplmjbjbikmaaKeep
namespace Go.Proofs.Ytgkplmjbjbikmaa
open Go.RowKit

def SPost (w : World) (T N O : Nat) (s : ByteArray) (wd W : Nat) (r : (Nat × Nat) × St) (e : Ending) (w' : World) : Prop :=
  e = .returned (.tuple #[.int .i64 r.1.1, .int .i64 r.1.2]) ∧ Tr w' T N O s wd W r.2 ∧ Only (Of T N O) w w'

theorem search_off (T N O a wd W : Nat) (tries : Int) (s : ByteArray) (t : St) (w : World) (h : Tr w T N O s wd W t) (ha : a ≤ s.size + 1) (h3 : ¬ a + 3 ≤ s.size) :
    Calls Try.prog 26 #[.pointer (some ⟨T, 0, none⟩), .int .i64 a, .int .i64 tries] w (SPost w T N O s wd W ((0, 0), t)) := by
  have HT := Lib.hid h
  have hs := h.sz
  clear h
  go_enter Try.func26, Try.ntmps26
  go_wp2_with (go_at_call 27; refine (marked T s wd W N O t.kept a false _ HT.out.it (by omega) (by omega) (by simpa using h3)).mono ?_; rintro e w1 ⟨rfl, ho⟩; have HO := Lib.hid ho; clear ho)
  go_ret2
  exact ⟨rfl, HT.out.new HO.out, HO.out.mono fun _ f => f.elim⟩

set_option maxHeartbeats 4000000 in
theorem search_on (T N O a wd W tries : Nat) (s : ByteArray) (t : St) (w : World) (h : Tr w T N O s wd W t) (h3 : a + 3 ≤ s.size) (hk : t.kept ≤ a) (htr : tries ≤ 1000) :
    Calls Try.prog 26 #[.pointer (some ⟨T, 0, none⟩), .int .i64 a, .int .i64 tries] w (SPost w T N O s wd W (search s.data.toList (markAt s.data.toList wd) tries t a)) := by
  have HT := Lib.hid h
  have hs := h.sz
  have b1 : (a : Int) + 3 ≤ (s.size : Int) := by omega
  have b2 : (s.size : Int) ≤ 16777216 := by omega
  obtain ⟨m, hm⟩ : ∃ m, markAt s.data.toList wd a = m := ⟨_, rfl⟩
  have hml : m < W := by rw [← hm, ← h.w2]; exact markAt_lt _ _ _ (by have := h.w1; omega)
  have hW : W ≤ 32768 := by
    have := Nat.pow_le_pow_right (n := 2) (by decide) h.w1
    rw [h.w2] at this
    omega
  obtain ⟨t1, ht1⟩ : ∃ t1, keepTo (markAt s.data.toList wd) a t = t1 := ⟨_, rfl⟩
  obtain ⟨most, hmo⟩ : ∃ x, mostAt s.data.toList a = x := ⟨_, rfl⟩
  have hm1 : most ≤ 258 := by unfold mostAt at hmo; omega
  have hm2 : a + most ≤ s.size := by
    have : s.data.toList.length = s.size := rfl
    unfold mostAt at hmo; omega
  obtain ⟨f, hf⟩ : ∃ f, t1.nn.getD m 0 = f := ⟨_, rfl⟩
  have hfa : f ≤ a := by
    have h1 := (h.good.keepTo (markAt s.data.toList wd) a).nb m
    rw [keepTo_kept _ _ _ hk, ht1, hf] at h1
    exact h1
  obtain ⟨R, hR⟩ : ∃ R, srch s.data.toList a most t1.oo tries f (0, 0) = R := ⟨_, rfl⟩
  have HS : Hid (search s.data.toList (markAt s.data.toList wd) tries t a = (R, t1)) := Lib.hid (by
    unfold search
    rw [if_pos (show a + 3 ≤ s.data.toList.length from h3), ht1, hmo, hm, hf, hR])
  have HR := Lib.hid hR
  have HF := Lib.hid hf
  have HM := Lib.hid hm
  have HMO := Lib.hid hmo
  have HT1 := Lib.hid ht1
  clear h hR hf hm hmo ht1
  go_enter Try.func26, Try.ntmps26
  go_upto_region 4 with (first
    | (go_at_call 27; refine (marked T s wd W N O t.kept a true _ HT.out.it (by omega) (by omega) (by simpa using h3)).mono ?_; rintro e w1 ⟨rfl, ho⟩; have HO := Lib.hid ho; clear ho)
    | (go_at_call 28; refine (keepUpTo T N O a wd W s t _ (HT.out.new HO.out) (by omega)).mono ?_; rw [HT1.out]; rintro e w2 ⟨rfl, ht2, ho2⟩; have HT2 := Lib.hid ht2; have HO2 := Lib.hid ho2; clear ht2 ho2))
  have c0 := HT2.out.it.cell 0 rfl
  obtain ⟨P, hP⟩ : ∃ P, w2.heap.size = P := ⟨_, rfl⟩
  go_upto_region 5 with (go_at_call 12; refine (newPick s a _ (by omega) (by omega)).mono ?_; rintro e w3 ⟨rfl, hi, ho⟩; rw [HMO.out, hP] at hi; rw [hP]; have HI := Lib.hid hi; have HO3 := Lib.hid ho; clear hi ho)
  have HT3 : Hid (Tr w3 T N O s wd W t1) := Lib.hid (HT2.out.new HO3.out)
  have HO4 : Hid (Only (Of T N O) w w3) := Lib.hid (((HO.out.mono fun _ f => f.elim).trans HO2.out).trans (HO3.out.mono fun _ f => f.elim))
  have HP : Hid (T < P ∧ N < P ∧ O < P ∧ w.heap.size ≤ P) := Lib.hid ⟨hP ▸ HT2.out.it.lt, hP ▸ HT2.out.nn.lt, hP ▸ HT2.out.oo.lt, hP ▸ Nat.le_trans HO.out.size HO2.out.size⟩
  clear HO HO2 HO3 HT HT2 hP c0
  have c2 := HT3.out.it.cell 2 rfl
  have d1 := HT3.out.nn.cell m (nats_at t1.nn m (by rw [HT3.out.good.nl]; exact hml))
  rw [HF.out] at d1
  have CM : Hid (∀ k, Calls Try.prog 29 #[.pointer (some ⟨T, 0, none⟩), .int .i64 a] (w3.drewN k) fun e w' => e = .returned (.int .i64 m) ∧ ∃ n, w' = w3.drewN n) := Lib.hid (by
    intro k
    refine (mark T s wd W N O t1.kept a _ (HT3.out.it.drewN k) (by omega) h3 HT3.out.w1).mono ?_
    rw [HM.out]
    rintro e w' ⟨rfl, n, rfl⟩
    exact ⟨rfl, _, World.drewN_drewN _ _ _⟩)
  have l1 : (m : Int) < (W : Int) := by omega
  obtain ⟨F, hF⟩ : ∃ F : Int, (f : Int) - 1 = F := ⟨_, rfl⟩
  have e1 : IntKind.i64.wrap ((f : Int) - 1) = F := by rw [IntWalk.i64_in _ (by omega)]; exact hF
  go_quiet ((go_at_call 29; exact CM.out _))
  have HI3 : Hid (Is (w3.drewN nq) P 40 (pk s a most 0 0)) := Lib.hid HI.out
  have HT4 : Hid (Tr (w3.drewN nq) T N O s wd W t1) := Lib.hid (HT3.out.new ((Only.refl _ w3).drewN nq))
  have HO5 : Hid (Only (Of T N O) w (w3.drewN nq)) := Lib.hid (HO4.out.drewN nq)
  obtain ⟨w4, hw4⟩ : ∃ w4, w3.drewN nq = w4 := ⟨_, rfl⟩
  rw [hw4] at HI3 HT4 HO5 ⊢
  clear hw4 HI HT3 HO4 CM c2 d1 e1
  have hF2 : F + 1 = (f : Int) := by omega
  go_upto_region 6 with fail
  go_wp2_with fail
  go_loopg [9, 34] tries (fun gk v i wx => ∃ (j f' l b : Nat) (F' : Int), i = .int .i64 j ∧ v = .int .i64 F' ∧ F' + 1 = (f' : Int) ∧ j + gk ≤ tries ∧ tries ≤ j + gk ∧ f' ≤ a ∧ l ≤ most ∧ b ≤ a ∧ Hid (srch s.data.toList a most t1.oo gk f' (l, b) = R) ∧ Hid (Is wx P 40 (pk s a most l b)) ∧ Hid (Tr wx T N O s wd W t1) ∧ Hid (Only (Of T N O) w wx))
  case atStart => exact ⟨0, f, 0, 0, F, rfl, rfl, hF2, by omega, by omega, hfa, by omega, by omega, HR, HI3, HT4, HO5⟩
  case round =>
    clear HI3 HT4 HO5 hF2 hF HF hfa HR
    obtain ⟨j, f', l, b, F', rfl, rfl, hF2, hg1, hg2, hfa, hl, hb, HR, HI, HT, HO⟩ := hrel
    by_cases hlt : j < tries
    · obtain ⟨g, rfl⟩ : ∃ g, gk = g + 1 := ⟨gk - 1, by omega⟩
      have hlt2 : (j : Int) < (tries : Int) := by omega
      rcases Nat.eq_zero_or_pos f' with h0 | h0
      · have HX : Hid ((l, b) = R) := Lib.hid (by rw [← HR.out, h0]; rfl)
        have hneg : F' < 0 := by omega
        clear h0 hF2
        go_upto_region 12 with fail
        have c3 := HI.out.cell 3 rfl
        have c4 := HI.out.cell 4 rfl
        go_quiet (fail)
        go_wp2
        go_ret2
        rw [HS.out, ← HX.out]
        exact ⟨rfl, HT.out.new ((Only.refl _ wr).drewN _), HO.out.drewN _⟩
      · obtain ⟨p, hp⟩ : ∃ p, f' = p + 1 := ⟨f' - 1, by omega⟩
        obtain rfl : F' = (p : Int) := by omega
        subst hp
        have hpa : p < a := by omega
        have hnn : ¬ (p : Int) < 0 := by omega
        by_cases hfar : 32768 < a - p
        · have HX : Hid ((l, b) = R) := Lib.hid (by rw [← HR.out, srch, if_pos (.inl hfar)])
          have hfar2 : (32768 : Int) < (a : Int) - (p : Int) := by omega
          clear hfar hF2
          go_upto_region 12 with fail
          have c3 := HI.out.cell 3 rfl
          have c4 := HI.out.cell 4 rfl
          go_quiet (fail)
          go_wp2
          go_ret2
          rw [HS.out, ← HX.out]
          exact ⟨rfl, HT.out.new ((Only.refl _ wr).drewN _), HO.out.drewN _⟩
        · have hnf : ¬ (32768 : Int) < (a : Int) - (p : Int) := by omega
          by_cases hfull : l = most
          · have HX : Hid ((l, b) = R) := Lib.hid (by rw [← HR.out, srch, if_pos (.inr hfull)])
            have hB : ((l : Int) == (most : Int)) = true := by simp [hfull]
            clear hfull hF2
            go_upto_region 12 with (go_at_call 13; refine (full P s a most l b true _ HI.out hB).mono ?_; rintro e w5 ⟨rfl, ho5⟩; have HO5 := Lib.hid ho5; clear ho5)
            have HI5 := Lib.hid (HI.out.only HO5.out fun f => f)
            have HT5 := Lib.hid (HT.out.new HO5.out)
            have HO6 : Hid (Only (Of T N O) w w5) := Lib.hid (HO.out.trans (HO5.out.mono fun _ f => f.elim))
            have c3 := HI5.out.cell 3 rfl
            have c4 := HI5.out.cell 4 rfl
            go_quiet (fail)
            go_wp2
            go_ret2
            rw [HS.out, ← HX.out]
            exact ⟨rfl, HT5.out.new ((Only.refl _ w5).drewN _), HO6.out.drewN _⟩
          · have hB : ((l : Int) == (most : Int)) = false := by simp; omega
            go_upto_region 9 with (go_at_call 13; refine (full P s a most l b false _ HI.out hB).mono ?_; rintro e w5 ⟨rfl, ho5⟩; have HO5 := Lib.hid ho5; clear ho5)
            have HI5 := Lib.hid (HI.out.only HO5.out fun f => f)
            have HT5 := Lib.hid (HT.out.new HO5.out)
            have HO6 : Hid (Only (Of T N O) w w5) := Lib.hid (HO.out.trans (HO5.out.mono fun _ f => f.elim))
            clear HI HT HO HO5
            obtain ⟨d, hd⟩ : ∃ d, a - p = d := ⟨_, rfl⟩
            have ed : (a : Int) - (p : Int) = (d : Int) := by omega
            go_upto_region 10 with (go_at_call 14; refine (tried P s a most l b d _ HI5.out (by omega) (by omega) (by omega) (by omega) hm1 hl).mono ?_; rintro e w6 ⟨rfl, hi6, ho6⟩; have HI6 := Lib.hid hi6; have HO7 := Lib.hid ho6; clear hi6 ho6)
            have HT6 : Hid (Tr w6 T N O s wd W t1) := Lib.hid (HT5.out.only HO7.out (by have := HP.out; show ¬ _ = P; omega) (by have := HP.out; show ¬ _ = P; omega) (by have := HP.out; show ¬ _ = P; omega))
            have HO8 : Hid (Only (Of T N O) w w6) := Lib.hid (HO6.out.andThen HO7.out fun x hx => .inr (by have := HP.out; have hx2 : x = P := hx; omega))
            obtain ⟨q, hq⟩ : ∃ q, pstep s.data.toList a most (l, b) d = q := ⟨_, rfl⟩
            have hq1 : q.1 ≤ most := by rw [← hq]; exact pstep_le _ _ _ _ _ hl
            have hq2 : q.2 ≤ a := by
              rw [← hq]
              unfold pstep
              split
              · simp only; omega
              · exact hb
            obtain ⟨f2, hf2⟩ : ∃ f2, t1.oo.getD p 0 = f2 := ⟨_, rfl⟩
            have hf3 : f2 ≤ p := by have := HT6.out.good.ob p; omega
            have HX : Hid (srch s.data.toList a most t1.oo g f2 q = R) := Lib.hid (by rw [← HR.out, srch, if_neg (by simp only; omega), hd, hq, hf2])
            rw [hq] at HI6
            have c3 := HT6.out.it.cell 3 rfl
            have d1 := HT6.out.oo.cell p (nats_at t1.oo p (by rw [HT6.out.good.ol]; show p < s.size; omega))
            rw [hf2] at d1
            obtain ⟨F2, hF3⟩ : ∃ F2 : Int, (f2 : Int) - 1 = F2 := ⟨_, rfl⟩
            have hF4 : F2 + 1 = (f2 : Int) := by omega
            clear HI5 HT5 HO6 HO7 HR hq hf2
            go_wp2_with fail
            go_roundg g
            case measure => omega
            case rel => exact ⟨j + 1, f2, q.1, q.2, F2, by go_num, rfl, hF4, by omega, by omega, by omega, hq1, hq2, HX, HI6, HT6, HO8⟩
    · obtain rfl : gk = 0 := by omega
      have HX : Hid ((l, b) = R) := Lib.hid (by rw [← HR.out]; rfl)
      have hlt2 : ¬ (j : Int) < (tries : Int) := by omega
      clear hF2
      go_upto_region 12 with fail
      have c3 := HI.out.cell 3 rfl
      have c4 := HI.out.cell 4 rfl
      go_quiet (fail)
      go_wp2
      go_ret2
      rw [HS.out, ← HX.out]
      exact ⟨rfl, HT.out.new ((Only.refl _ wr).drewN _), HO.out.drewN _⟩

theorem searched (T N O a wd W tries : Nat) (s : ByteArray) (t : St) (w : World) (h : Tr w T N O s wd W t) (ha : a ≤ s.size + 1) (hk : t.kept ≤ a) (htr : tries ≤ 1000) :
    Calls Try.prog 26 #[.pointer (some ⟨T, 0, none⟩), .int .i64 a, .int .i64 tries] w (SPost w T N O s wd W (search s.data.toList (markAt s.data.toList wd) tries t a)) := by
  by_cases h3 : a + 3 ≤ s.size
  · exact search_on T N O a wd W tries s t w h h3 hk htr
  · unfold search
    rw [if_neg (show ¬ a + 3 ≤ s.data.toList.length from h3)]
    exact search_off T N O a wd W tries s t w h ha h3
end Go.Proofs.Ytgkplmjbjbikmaa
