/- Layer 9, the program: what looks for matches; tokens of a text at a level; how many bytes tokens say. -/
import Derived.Test.YtaicihghndoclaaGreatN1
import Derived.Test.YtaicihghndoclaaGreatRTree
import Derived.Test.YtaicihghndoclaaGreatXP
import Derived.Laws.MakeOwn
/- Layer 9, the program: the longest9 match of so many places. -/
namespace Go.Proofs.YtaicihghndoclaaGreat
open Go.RowKit

def SPost (w : World) (T N O : Nat) (s : ByteArray) (wd W : Nat) (r : (Nat × Nat) × St9) (e : Ending) (w' : World) : Prop :=
  e = .returned (.tuple #[.int .i64 r.1.1, .int .i64 r.1.2]) ∧ Tr w' T N O s wd W r.2 ∧ Only (Of T N O) w w'

theorem search_off (T N O a wd W : Nat) (tries : Int) (s : ByteArray) (t : St9) (w : World) (h : Tr w T N O s wd W t) (ha : a ≤ s.size + 1) (h3 : ¬ a + 3 ≤ s.size) :
    Calls Tryz.prog 51 #[.pointer (some ⟨T, 0, none⟩), .int .i64 a, .int .i64 tries] w (SPost w T N O s wd W ((0, 0), t)) := by
  have HT := Lib.hid h
  have hs := h.sz
  clear h
  go_enter Tryz.func51, Tryz.ntmps51
  go_wp2_with (go_at_call 71; refine (marked T s wd W N O t.kept a false _ HT.out.it (by omega) (by omega) (by simpa using h3)).mono ?_; rintro e w1 ⟨rfl, ho⟩; have HO := Lib.hid ho; clear ho)
  go_ret2
  exact ⟨rfl, HT.out.new HO.out, HO.out.mono fun _ f => f.elim⟩

set_option maxHeartbeats 4000000 in
theorem search_on (T N O a wd W tries : Nat) (s : ByteArray) (t : St9) (w : World) (h : Tr w T N O s wd W t) (h3 : a + 3 ≤ s.size) (hk : t.kept ≤ a) (htr : tries ≤ 1000) :
    Calls Tryz.prog 51 #[.pointer (some ⟨T, 0, none⟩), .int .i64 a, .int .i64 tries] w (SPost w T N O s wd W (search s.data.toList (markAt s.data.toList wd) tries t a)) := by
  have HT := Lib.hid h
  have hs := h.sz
  have b1 : (a : Int) + 3 ≤ (s.size : Int) := by omega
  have b2 : (s.size : Int) ≤ 16777216 := by omega
  obtain ⟨m, hm⟩ : ∃ m, markAt s.data.toList wd a = m := ⟨_, rfl⟩
  have hml : m < W := by rw [← hm, ← h.w2]; exact markAt_lt _ _ _ (by have := h.w1; omega)
  have hW : W ≤ 32768 := by
    have := Nat.pow_le_pow_right (n := 2) (by decide) h.w1
    rw [h.w2] at this
    omega
  obtain ⟨t1, ht1⟩ : ∃ t1, keepTo (markAt s.data.toList wd) a t = t1 := ⟨_, rfl⟩
  obtain ⟨most, hmo⟩ : ∃ x, mostAt s.data.toList a = x := ⟨_, rfl⟩
  have hm1 : most ≤ 258 := by unfold mostAt at hmo; omega
  have hm2 : a + most ≤ s.size := by
    have : s.data.toList.length = s.size := rfl
    unfold mostAt at hmo; omega
  obtain ⟨f, hf⟩ : ∃ f, t1.nn.getD m 0 = f := ⟨_, rfl⟩
  have hfa : f ≤ a := by
    have h1 := (h.good.keepTo (markAt s.data.toList wd) a).nb m
    rw [keepTo_kept _ _ _ hk, ht1, hf] at h1
    exact h1
  obtain ⟨R, hR⟩ : ∃ R, srch s.data.toList a most t1.oo tries f (0, 0) = R := ⟨_, rfl⟩
  have HS : Hid (search s.data.toList (markAt s.data.toList wd) tries t a = (R, t1)) := Lib.hid (by
    unfold search
    rw [if_pos (show a + 3 ≤ s.data.toList.length from h3), ht1, hmo, hm, hf, hR])
  have HR := Lib.hid hR
  have HF := Lib.hid hf
  have HM := Lib.hid hm
  have HMO := Lib.hid hmo
  have HT1 := Lib.hid ht1
  clear h hR hf hm hmo ht1
  go_enter Tryz.func51, Tryz.ntmps51
  go_upto_region 4 with (first
    | (go_at_call 71; refine (marked T s wd W N O t.kept a true _ HT.out.it (by omega) (by omega) (by simpa using h3)).mono ?_; rintro e w1 ⟨rfl, ho⟩; have HO := Lib.hid ho; clear ho)
    | (go_at_call 72; refine (keepUpTo T N O a wd W s t _ (HT.out.new HO.out) (by omega)).mono ?_; rw [HT1.out]; rintro e w2 ⟨rfl, ht2, ho2⟩; have HT2 := Lib.hid ht2; have HO2 := Lib.hid ho2; clear ht2 ho2))
  have c0 := HT2.out.it.cell 0 rfl
  obtain ⟨P, hP⟩ : ∃ P, w2.heap.size = P := ⟨_, rfl⟩
  go_upto_region 5 with (go_at_call 73; refine (newPick s a _ (by omega) (by omega)).mono ?_; rintro e w3 ⟨rfl, hi, ho⟩; rw [HMO.out, hP] at hi; rw [hP]; have HI := Lib.hid hi; have HO3 := Lib.hid ho; clear hi ho)
  have HT3 : Hid (Tr w3 T N O s wd W t1) := Lib.hid (HT2.out.new HO3.out)
  have HO4 : Hid (Only (Of T N O) w w3) := Lib.hid (((HO.out.mono fun _ f => f.elim).trans HO2.out).trans (HO3.out.mono fun _ f => f.elim))
  have HP : Hid (T < P ∧ N < P ∧ O < P ∧ w.heap.size ≤ P) := Lib.hid ⟨hP ▸ HT2.out.it.lt, hP ▸ HT2.out.nn.lt, hP ▸ HT2.out.oo.lt, hP ▸ Nat.le_trans HO.out.size HO2.out.size⟩
  clear HO HO2 HO3 HT HT2 hP c0
  have c2 := HT3.out.it.cell 2 rfl
  have d1 := HT3.out.nn.cell m (nats_at t1.nn m (by rw [HT3.out.good.nl]; exact hml))
  rw [HF.out] at d1
  have CM : Hid (∀ k, Calls Tryz.prog 74 #[.pointer (some ⟨T, 0, none⟩), .int .i64 a] (w3.drewN k) fun e w' => e = .returned (.int .i64 m) ∧ ∃ n, w' = w3.drewN n) := Lib.hid (by
    intro k
    refine (mark T s wd W N O t1.kept a _ (HT3.out.it.drewN k) (by omega) h3 HT3.out.w1).mono ?_
    rw [HM.out]
    rintro e w' ⟨rfl, n, rfl⟩
    exact ⟨rfl, _, World.drewN_drewN _ _ _⟩)
  have l1 : (m : Int) < (W : Int) := by omega
  obtain ⟨F, hF⟩ : ∃ F : Int, (f : Int) - 1 = F := ⟨_, rfl⟩
  have e1 : IntKind.i64.wrap ((f : Int) - 1) = F := by rw [IntWalk.i64_in _ (by omega)]; exact hF
  go_quiet ((go_at_call 74; exact CM.out _))
  have HI3 : Hid (Is (w3.drewN nq) P 119 (pk s a most 0 0)) := Lib.hid HI.out
  have HT4 : Hid (Tr (w3.drewN nq) T N O s wd W t1) := Lib.hid (HT3.out.new ((Only.refl _ w3).drewN nq))
  have HO5 : Hid (Only (Of T N O) w (w3.drewN nq)) := Lib.hid (HO4.out.drewN nq)
  obtain ⟨w4, hw4⟩ : ∃ w4, w3.drewN nq = w4 := ⟨_, rfl⟩
  rw [hw4] at HI3 HT4 HO5 ⊢
  clear hw4 HI HT3 HO4 CM c2 d1 e1
  have hF2 : F + 1 = (f : Int) := by omega
  go_upto_region 6 with fail
  go_wp2_with fail
  go_loopg [9, 34] tries (fun gk v i wx => ∃ (j f' l b : Nat) (F' : Int), i = .int .i64 j ∧ v = .int .i64 F' ∧ F' + 1 = (f' : Int) ∧ j + gk ≤ tries ∧ tries ≤ j + gk ∧ f' ≤ a ∧ l ≤ most ∧ b ≤ a ∧ Hid (srch s.data.toList a most t1.oo gk f' (l, b) = R) ∧ Hid (Is wx P 119 (pk s a most l b)) ∧ Hid (Tr wx T N O s wd W t1) ∧ Hid (Only (Of T N O) w wx))
  case atStart => exact ⟨0, f, 0, 0, F, rfl, rfl, hF2, by omega, by omega, hfa, by omega, by omega, HR, HI3, HT4, HO5⟩
  case round =>
    clear HI3 HT4 HO5 hF2 hF HF hfa HR
    obtain ⟨j, f', l, b, F', rfl, rfl, hF2, hg1, hg2, hfa, hl, hb, HR, HI, HT, HO⟩ := hrel
    by_cases hlt : j < tries
    · obtain ⟨g, rfl⟩ : ∃ g, gk = g + 1 := ⟨gk - 1, by omega⟩
      have hlt2 : (j : Int) < (tries : Int) := by omega
      rcases Nat.eq_zero_or_pos f' with h0 | h0
      · have HX : Hid ((l, b) = R) := Lib.hid (by rw [← HR.out, h0]; rfl)
        have hneg : F' < 0 := by omega
        clear h0 hF2
        go_upto_region 12 with fail
        have c3 := HI.out.cell 3 rfl
        have c4 := HI.out.cell 4 rfl
        go_quiet (fail)
        go_wp2
        go_ret2
        rw [HS.out, ← HX.out]
        exact ⟨rfl, HT.out.new ((Only.refl _ wr).drewN _), HO.out.drewN _⟩
      · obtain ⟨p, hp⟩ : ∃ p, f' = p + 1 := ⟨f' - 1, by omega⟩
        obtain rfl : F' = (p : Int) := by omega
        subst hp
        have hpa : p < a := by omega
        have hnn : ¬ (p : Int) < 0 := by omega
        by_cases hfar : 32768 < a - p
        · have HX : Hid ((l, b) = R) := Lib.hid (by rw [← HR.out, srch, if_pos (.inl hfar)])
          have hfar2 : (32768 : Int) < (a : Int) - (p : Int) := by omega
          clear hfar hF2
          go_upto_region 12 with fail
          have c3 := HI.out.cell 3 rfl
          have c4 := HI.out.cell 4 rfl
          go_quiet (fail)
          go_wp2
          go_ret2
          rw [HS.out, ← HX.out]
          exact ⟨rfl, HT.out.new ((Only.refl _ wr).drewN _), HO.out.drewN _⟩
        · have hnf : ¬ (32768 : Int) < (a : Int) - (p : Int) := by omega
          by_cases hfull : l = most
          · have HX : Hid ((l, b) = R) := Lib.hid (by rw [← HR.out, srch, if_pos (.inr hfull)])
            have hB : ((l : Int) == (most : Int)) = true := by simp [hfull]
            clear hfull hF2
            go_upto_region 12 with (go_at_call 75; refine (full P s a most l b true _ HI.out hB).mono ?_; rintro e w5 ⟨rfl, ho5⟩; have HO5 := Lib.hid ho5; clear ho5)
            have HI5 := Lib.hid (HI.out.only HO5.out fun f => f)
            have HT5 := Lib.hid (HT.out.new HO5.out)
            have HO6 : Hid (Only (Of T N O) w w5) := Lib.hid (HO.out.trans (HO5.out.mono fun _ f => f.elim))
            have c3 := HI5.out.cell 3 rfl
            have c4 := HI5.out.cell 4 rfl
            go_quiet (fail)
            go_wp2
            go_ret2
            rw [HS.out, ← HX.out]
            exact ⟨rfl, HT5.out.new ((Only.refl _ w5).drewN _), HO6.out.drewN _⟩
          · have hB : ((l : Int) == (most : Int)) = false := by simp; omega
            go_upto_region 9 with (go_at_call 75; refine (full P s a most l b false _ HI.out hB).mono ?_; rintro e w5 ⟨rfl, ho5⟩; have HO5 := Lib.hid ho5; clear ho5)
            have HI5 := Lib.hid (HI.out.only HO5.out fun f => f)
            have HT5 := Lib.hid (HT.out.new HO5.out)
            have HO6 : Hid (Only (Of T N O) w w5) := Lib.hid (HO.out.trans (HO5.out.mono fun _ f => f.elim))
            clear HI HT HO HO5
            obtain ⟨d, hd⟩ : ∃ d, a - p = d := ⟨_, rfl⟩
            have ed : (a : Int) - (p : Int) = (d : Int) := by omega
            go_upto_region 10 with (go_at_call 76; refine (tried P s a most l b d _ HI5.out (by omega) (by omega) (by omega) (by omega) hm1 hl).mono ?_; rintro e w6 ⟨rfl, hi6, ho6⟩; have HI6 := Lib.hid hi6; have HO7 := Lib.hid ho6; clear hi6 ho6)
            have HT6 : Hid (Tr w6 T N O s wd W t1) := Lib.hid (HT5.out.only HO7.out (by have := HP.out; show ¬ _ = P; omega) (by have := HP.out; show ¬ _ = P; omega) (by have := HP.out; show ¬ _ = P; omega))
            have HO8 : Hid (Only (Of T N O) w w6) := Lib.hid (HO6.out.andThen HO7.out fun x hx => .inr (by have := HP.out; have hx2 : x = P := hx; omega))
            obtain ⟨q, hq⟩ : ∃ q, pstep s.data.toList a most (l, b) d = q := ⟨_, rfl⟩
            have hq1 : q.1 ≤ most := by rw [← hq]; exact pstep_le _ _ _ _ _ hl
            have hq2 : q.2 ≤ a := by
              rw [← hq]
              unfold pstep
              split
              · simp only; omega
              · exact hb
            obtain ⟨f2, hf2⟩ : ∃ f2, t1.oo.getD p 0 = f2 := ⟨_, rfl⟩
            have hf3 : f2 ≤ p := by have := HT6.out.good.ob p; omega
            have HX : Hid (srch s.data.toList a most t1.oo g f2 q = R) := Lib.hid (by rw [← HR.out, srch, if_neg (by simp only; omega), hd, hq, hf2])
            rw [hq] at HI6
            have c3 := HT6.out.it.cell 3 rfl
            have d1 := HT6.out.oo.cell p (nats_at t1.oo p (by rw [HT6.out.good.ol]; show p < s.size; omega))
            rw [hf2] at d1
            obtain ⟨F2, hF3⟩ : ∃ F2 : Int, (f2 : Int) - 1 = F2 := ⟨_, rfl⟩
            have hF4 : F2 + 1 = (f2 : Int) := by omega
            clear HI5 HT5 HO6 HO7 HR hq hf2
            go_wp2_with fail
            go_roundg g
            case measure => omega
            case rel => exact ⟨j + 1, f2, q.1, q.2, F2, by go_num, rfl, hF4, by omega, by omega, by omega, hq1, hq2, HX, HI6, HT6, HO8⟩
    · obtain rfl : gk = 0 := by omega
      have HX : Hid ((l, b) = R) := Lib.hid (by rw [← HR.out]; rfl)
      have hlt2 : ¬ (j : Int) < (tries : Int) := by omega
      clear hF2
      go_upto_region 12 with fail
      have c3 := HI.out.cell 3 rfl
      have c4 := HI.out.cell 4 rfl
      go_quiet (fail)
      go_wp2
      go_ret2
      rw [HS.out, ← HX.out]
      exact ⟨rfl, HT.out.new ((Only.refl _ wr).drewN _), HO.out.drewN _⟩

theorem searched (T N O a wd W tries : Nat) (s : ByteArray) (t : St9) (w : World) (h : Tr w T N O s wd W t) (ha : a ≤ s.size + 1) (hk : t.kept ≤ a) (htr : tries ≤ 1000) :
    Calls Tryz.prog 51 #[.pointer (some ⟨T, 0, none⟩), .int .i64 a, .int .i64 tries] w (SPost w T N O s wd W (search s.data.toList (markAt s.data.toList wd) tries t a)) := by
  by_cases h3 : a + 3 ≤ s.size
  · exact search_on T N O a wd W tries s t w h h3 hk htr
  · unfold search
    rw [if_neg (show ¬ a + 3 ≤ s.data.toList.length from h3)]
    exact search_off T N O a wd W tries s t w h ha h3
end Go.Proofs.YtaicihghndoclaaGreat

/- Layer 9, the program: how each level looks for matches. -/
namespace Go.Proofs.YtaicihghndoclaaGreat
open Go.RowKit

theorem latest (T N O a wd W : Nat) (s : ByteArray) (t : St9) (w : World) (h : Tr w T N O s wd W t) (ha : a ≤ s.size) (hk : t.kept ≤ a) :
    Calls Tryz.prog 32 #[.pointer (some ⟨T, 0, none⟩), .int .i64 a] w (SPost w T N O s wd W (look s.data.toList (markAt s.data.toList wd) 1 t a)) := by
  have HT := Lib.hid h
  obtain ⟨R, hR⟩ : ∃ R, search s.data.toList (markAt s.data.toList wd) 1 t a = R := ⟨_, rfl⟩
  have HR := Lib.hid hR
  have HL : Hid (look s.data.toList (markAt s.data.toList wd) 1 t a = R) := Lib.hid (by unfold look; rw [if_neg (by decide), if_pos rfl, hR])
  clear h hR
  go_enter Tryz.func32, Tryz.ntmps32
  go_wp2_with (go_at_call 51; refine (searched T N O a wd W 1 s t _ HT.out (by omega) hk (by omega)).mono ?_; rw [HR.out]; rintro e w1 ⟨rfl, h1, h2⟩; have H1 := Lib.hid h1; have H2 := Lib.hid h2; clear h1 h2)
  go_ret2
  rw [HL.out]
  exact ⟨rfl, H1.out, H2.out⟩
theorem longest9 (T N O a wd W : Nat) (s : ByteArray) (t : St9) (w : World) (h : Tr w T N O s wd W t) (ha : a ≤ s.size) (hk : t.kept ≤ a) :
    Calls Tryz.prog 33 #[.pointer (some ⟨T, 0, none⟩), .int .i64 a] w (SPost w T N O s wd W (look s.data.toList (markAt s.data.toList wd) 2 t a)) := by
  have HT := Lib.hid h
  obtain ⟨R, hR⟩ : ∃ R, search s.data.toList (markAt s.data.toList wd) 8 t a = R := ⟨_, rfl⟩
  have HR := Lib.hid hR
  have HL : Hid (look s.data.toList (markAt s.data.toList wd) 2 t a = R) := Lib.hid (by unfold look; rw [if_neg (by decide), if_neg (by decide), if_pos rfl, hR])
  clear h hR
  go_enter Tryz.func33, Tryz.ntmps33
  go_wp2_with (go_at_call 51; refine (searched T N O a wd W 8 s t _ HT.out (by omega) hk (by omega)).mono ?_; rw [HR.out]; rintro e w1 ⟨rfl, h1, h2⟩; have H1 := Lib.hid h1; have H2 := Lib.hid h2; clear h1 h2)
  go_ret2
  rw [HL.out]
  exact ⟨rfl, H1.out, H2.out⟩
theorem noneC (T N O a wd W : Nat) (s : ByteArray) (t : St9) (w : World) (h : Tr w T N O s wd W t) :
    Calls Tryz.prog 35 #[.pointer (some ⟨T, 0, none⟩), .int .i64 a] w (SPost w T N O s wd W (look s.data.toList (markAt s.data.toList wd) 0 t a)) := by
  have HT := Lib.hid h
  have HL : Hid (look s.data.toList (markAt s.data.toList wd) 0 t a = ((0, 0), t)) := Lib.hid (by unfold look; rw [if_pos rfl])
  clear h
  go_enter Tryz.func35, Tryz.ntmps35
  go_wp2
  go_ret2
  rw [HL.out]
  exact ⟨rfl, HT.out, Only.refl _ _⟩
set_option maxHeartbeats 2000000 in
theorem patientC (T N O a wd W : Nat) (s : ByteArray) (t : St9) (w : World) (h : Tr w T N O s wd W t) (ha : a ≤ s.size) (hk : t.kept ≤ a) :
    Calls Tryz.prog 34 #[.pointer (some ⟨T, 0, none⟩), .int .i64 a] w (SPost w T N O s wd W (look s.data.toList (markAt s.data.toList wd) 3 t a)) := by
  have HT := Lib.hid h
  have hs := h.sz
  have b1 : (a : Int) ≤ 16777216 := by omega
  obtain ⟨R, hR⟩ : ∃ R, search s.data.toList (markAt s.data.toList wd) 128 t a = R := ⟨_, rfl⟩
  obtain ⟨v1, v2, v3⟩ := search_valid (markAt s.data.toList wd) 128 a h.good hk
  have v4 := v1.le
  rw [hR] at v3 v4
  obtain ⟨⟨l, b⟩, t1⟩ := R
  simp only at v3 v4
  obtain ⟨A1, hA1⟩ : ∃ A1, a + 1 = A1 := ⟨_, rfl⟩
  have eA : (a : Int) + 1 = (A1 : Int) := by omega
  obtain ⟨Q, hQ⟩ : ∃ Q, search s.data.toList (markAt s.data.toList wd) 128 t1 A1 = Q := ⟨_, rfl⟩
  obtain ⟨⟨l2, b2⟩, t2⟩ := Q
  have HR := Lib.hid hR
  have HQ := Lib.hid hQ
  have HL : Hid (look s.data.toList (markAt s.data.toList wd) 3 t a = if l = 0 ∨ 32 ≤ l then ((l, b), t1) else if l < l2 then ((0, 0), t2) else ((l, b), t2)) := Lib.hid (by
    unfold look
    rw [if_neg (by decide), if_neg (by decide), if_neg (by decide)]
    unfold patient
    simp only [hR, hA1, hQ])
  clear h hR hQ v1 v2
  by_cases h0 : l = 0 ∨ 32 ≤ l
  · have HX : Hid (look s.data.toList (markAt s.data.toList wd) 3 t a = ((l, b), t1)) := Lib.hid (by rw [HL.out, if_pos h0])
    rcases h0 with h0 | h0
    · have g0 : ((l : Int) == 0) = true := by simp [h0]
      go_enter Tryz.func34, Tryz.ntmps34
      clear h0
      go_wp2_with (go_at_call 51; refine (searched T N O a wd W 128 s t _ HT.out (by omega) hk (by omega)).mono ?_; rw [HR.out]; rintro e w1 ⟨rfl, h1, h2⟩; have H1 := Lib.hid h1; have H2 := Lib.hid h2; clear h1 h2)
      go_ret2
      rw [HX.out]
      exact ⟨rfl, H1.out, H2.out⟩
    · have g0 : ((l : Int) == 0) = false := by simp; omega
      have g1 : (32 : Int) ≤ (l : Int) := by omega
      go_enter Tryz.func34, Tryz.ntmps34
      go_wp2_with (go_at_call 51; refine (searched T N O a wd W 128 s t _ HT.out (by omega) hk (by omega)).mono ?_; rw [HR.out]; rintro e w1 ⟨rfl, h1, h2⟩; have H1 := Lib.hid h1; have H2 := Lib.hid h2; clear h1 h2)
      go_ret2
      rw [HX.out]
      exact ⟨rfl, H1.out, H2.out⟩
  · have g0 : ((l : Int) == 0) = false := by simp; omega
    have g1 : ¬ (32 : Int) ≤ (l : Int) := by omega
    have g2 : ¬ (l : Int) = 0 := by omega
    by_cases h2 : l < l2
    · have HX : Hid (look s.data.toList (markAt s.data.toList wd) 3 t a = ((0, 0), t2)) := Lib.hid (by rw [HL.out, if_neg h0, if_pos h2])
      have g3 : (l : Int) < (l2 : Int) := by omega
      clear h0
      go_enter Tryz.func34, Tryz.ntmps34
      go_upto_region 4 with (go_at_call 51; refine (searched T N O a wd W 128 s t _ HT.out (by omega) hk (by omega)).mono ?_; rw [HR.out]; rintro e w1 ⟨rfl, h1, h2⟩; have H1 := Lib.hid h1; have H2 := Lib.hid h2; clear h1 h2)
      go_wp2_with (go_at_call 51; refine (searched T N O A1 wd W 128 s t1 _ H1.out (by omega) (by omega) (by omega)).mono ?_; rw [HQ.out]; rintro e w2 ⟨rfl, h3, h4⟩; have H3 := Lib.hid h3; have H4 := Lib.hid h4; clear h3 h4)
      go_ret2
      rw [HX.out]
      exact ⟨rfl, H3.out, H2.out.trans H4.out⟩
    · have HX : Hid (look s.data.toList (markAt s.data.toList wd) 3 t a = ((l, b), t2)) := Lib.hid (by rw [HL.out, if_neg h0, if_neg h2])
      have g3 : ¬ (l : Int) < (l2 : Int) := by omega
      clear h0
      go_enter Tryz.func34, Tryz.ntmps34
      go_upto_region 4 with (go_at_call 51; refine (searched T N O a wd W 128 s t _ HT.out (by omega) hk (by omega)).mono ?_; rw [HR.out]; rintro e w1 ⟨rfl, h1, h2⟩; have H1 := Lib.hid h1; have H2 := Lib.hid h2; clear h1 h2)
      go_wp2_with (go_at_call 51; refine (searched T N O A1 wd W 128 s t1 _ H1.out (by omega) (by omega) (by omega)).mono ?_; rw [HQ.out]; rintro e w2 ⟨rfl, h3, h4⟩; have H3 := Lib.hid h3; have H4 := Lib.hid h4; clear h3 h4)
      go_ret2
      rw [HX.out]
      exact ⟨rfl, H3.out, H2.out.trans H4.out⟩
end Go.Proofs.YtaicihghndoclaaGreat

/- Layer 9, the program: a new trail. -/
namespace Go.Proofs.YtaicihghndoclaaGreat
open Go.RowKit

/-- A trail with no place kept. -/
def st0 (W n : Nat) : St9 := ⟨List.replicate W 0, List.replicate n 0, 0⟩
theorem getD_zeros (n i : Nat) : (List.replicate n 0).getD i 0 = 0 := by
  rw [List.getD_eq_getElem?_getD, List.getElem?_replicate]
  split <;> rfl
theorem good0 (L : List UInt8) (W : Nat) : Good9 L W (st0 W L.length) :=
  ⟨by simp [st0], by simp [st0], fun i => by simp only [st0]; rw [getD_zeros]; exact Nat.le_refl _, fun j => by simp only [st0]; rw [getD_zeros]; exact Nat.zero_le _⟩
theorem nats_zeros (n : Nat) : nats (List.replicate n 0) = List.replicate n (Value.int .i64 0) := by simp [nats]
/-- How wide the marks of a text are. -/
def wdOf (n : Nat) : Nat := min (Lib.bitLen n) 15
/-- What a new trail is. -/
def NewPost (w : World) (s : ByteArray) (e : Ending) (w' : World) : Prop :=
  ∃ T N O wd W, e = .returned (.pointer (some ⟨T, 0, none⟩)) ∧ Tr w' T N O s wd W (st0 W s.size) ∧ Only (fun _ => False) w w' ∧ w.heap.size ≤ T ∧ w.heap.size ≤ N ∧ w.heap.size ≤ O ∧ wd = wdOf s.size

set_option maxHeartbeats 2000000 in
theorem newTrail (s : ByteArray) (w : World) (hs : s.size ≤ 16777216) : Calls Tryz.prog 21 #[.string s] w (NewPost w s) := by
  have b1 : (s.size : Int) ≤ 16777216 := by omega
  obtain ⟨q, hq⟩ : ∃ q, Lib.bitLen s.size = q := ⟨_, rfl⟩
  obtain ⟨wd, hwd⟩ : ∃ wd, min q 15 = wd := ⟨_, rfl⟩
  have hwd2 : wd ≤ 15 := by omega
  have HWF : Hid (wd = wdOf s.size) := Lib.hid (by rw [← hwd, ← hq]; rfl)
  obtain ⟨W, hW⟩ : ∃ W, 2 ^ wd = W := ⟨_, rfl⟩
  have hW2 : W ≤ 32768 := by
    have := Nat.pow_le_pow_right (n := 2) (by decide) hwd2
    rw [hW] at this
    omega
  have HQ := Lib.hid hq
  have hL : Hid (∀ w1 : World, Calls Tryz.prog 31 #[.int .u64 s.size] w1 fun e w' => e = .returned (.int .i64 q) ∧ w' = w1) := Lib.hid (fun w1 => by
    have := Tryz.bits_Len s.size w1 (by omega) (by omega)
    rw [Int.toNat_natCast, hq] at this
    exact this)
  have e0 : IntKind.i64.wrap (2 ^ wd) = (W : Int) := by
    have : ((2 : Int) ^ wd) = ((2 ^ wd : Nat) : Int) := by simp
    rw [this, hW]
    exact IntWalk.i64_in _ (by omega)
  have m1 : ∀ w1 : World, (Instr.makeSlice 26 (.int .i64 (W : Nat)) (.int .i64 (W : Nat))).run Tryz.prog w1 = .ok (.slice (some ⟨w1.heap.size, 0, none⟩) W W) (w1.alloc (.cells (List.replicate W (.int .i64 0)).toArray 3)) := fun w1 => run_make_row Tryz.underlying26 info3 (by decide) W (by omega) w1
  have m2 : ∀ w1 : World, (Instr.makeSlice 26 (.int .i64 (s.size : Nat)) (.int .i64 (s.size : Nat))).run Tryz.prog w1 = .ok (.slice (some ⟨w1.heap.size, 0, none⟩) s.size s.size) (w1.alloc (.cells (List.replicate s.size (.int .i64 0)).toArray 3)) := fun w1 => run_make_row Tryz.underlying26 info3 (by decide) s.size (by omega) w1
  have M1 := Lib.hid m1
  have M2 := Lib.hid m2
  clear m1 m2 hq
  have g1 : min (q : Int) 15 = (wd : Int) := by omega
  clear hwd
  go_enter Tryz.func21, Tryz.ntmps21
  go_upto_region 2 with (go_at_call 31; refine (hL.out _).mono ?_; rintro e w1 ⟨rfl, rfl⟩)
  obtain ⟨B, hB⟩ : ∃ B, w1.heap.size = B := ⟨_, rfl⟩
  refine Walk.region (fun _ => True) (.t 0 (.t 1 (.t 2 (.t 3 (.t 5 (.t 6 (.two 4 7 (.f 7 (.t 8 (.f 9 (.t 10 .nil)))) (.f 4 (.t 8 (.f 9 (.t 10 .nil))))))))))) (by kernel_rfl) (by kernel_rfl) (by kernel_rfl) (fun _ _ d _ _ h => by cases d <;> exact h) ?_
  refine Walk.take (.string s) rfl trivial (fun _ _ => by kernel_rfl) ?_
  simp only [Act.put, List.setIfInBounds_toArray, List.set_cons_succ, List.set_cons_zero]
  refine Walk.take (.int .i64 wd) rfl trivial (fun _ _ => by kernel_rfl) ?_
  simp only [Act.put, List.setIfInBounds_toArray, List.set_cons_succ, List.set_cons_zero]
  refine Walk.take (.int .i64 wd) rfl trivial (fun _ _ => by kernel_rfl) ?_
  simp only [Act.put, List.setIfInBounds_toArray, List.set_cons_succ, List.set_cons_zero]
  refine Walk.take (.int .i64 W) rfl trivial (fun _ _ => by go_simp) ?_
  simp only [Act.put, List.setIfInBounds_toArray, List.set_cons_succ, List.set_cons_zero]
  refine Walk.take (.string s) rfl trivial (fun _ _ => by kernel_rfl) ?_
  simp only [Act.put, List.setIfInBounds_toArray, List.set_cons_succ, List.set_cons_zero]
  refine Walk.take (.int .i64 s.size) rfl trivial (fun _ _ => by kernel_rfl) ?_
  simp only [Act.put, List.setIfInBounds_toArray, List.set_cons_succ, List.set_cons_zero]
  constructor
  · refine op_value (w' := w1.drew.alloc (.cells (List.replicate W (Value.int .i64 0)).toArray 3)) (.slice (some ⟨B, 0, none⟩) W W) rfl (by go_simp; rw [M1.out, ← hB]; rfl) ⟨trivial, ?_⟩
    simp only [Act.put, List.setIfInBounds_toArray, List.set_cons_succ, List.set_cons_zero]
    obtain ⟨wa, hwa⟩ : ∃ wa, w1.drew.alloc (.cells (List.replicate W (Value.int .i64 0)).toArray 3) = wa := ⟨_, rfl⟩
    have haB : wa.heap.size = B + 1 := by rw [← hwa, ← hB]; simp
    have ia : Is wa B 3 (List.replicate W (Value.int .i64 0)) := by rw [← hwa, ← hB]; exact Is.new w1.drew 3 _
    have oa : Only (fun _ => False) w1 wa := by rw [← hwa]; exact ((Only.refl _ w1).drew).alloc _
    rw [hwa]
    clear hwa
    refine op_value (w' := wa.alloc (.cells (List.replicate s.size (Value.int .i64 0)).toArray 3)) (.slice (some ⟨B + 1, 0, none⟩) s.size s.size) rfl (by go_simp; rw [M2.out, ← haB]; rfl) ⟨trivial, ?_⟩
    simp only [Act.put, List.setIfInBounds_toArray, List.set_cons_succ, List.set_cons_zero]
    obtain ⟨wb, hwb⟩ : ∃ wb, wa.alloc (.cells (List.replicate s.size (Value.int .i64 0)).toArray 3) = wb := ⟨_, rfl⟩
    have hbB : wb.heap.size = B + 2 := by rw [← hwb]; simp [haB]
    have ib : Is wb B 3 (List.replicate W (Value.int .i64 0)) := by rw [← hwb]; exact ia.alloc _
    have jb : Is wb (B + 1) 3 (List.replicate s.size (Value.int .i64 0)) := by rw [← hwb, ← haB]; exact Is.new wa 3 _
    have ob : Only (fun _ => False) w1 wb := by rw [← hwb]; exact oa.alloc _
    rw [hwb]
    clear hwb
    refine Walk.take (.agg #[.string s, .int .i64 wd, .slice (some ⟨B, 0, none⟩) W W, .slice (some ⟨(B + 1), 0, none⟩) s.size s.size, .int .i64 0]) rfl trivial (fun _ _ => by kernel_rfl) ?_
    simp only [Act.put, List.setIfInBounds_toArray, List.set_cons_succ, List.set_cons_zero]
    refine op_value (w' := wb.alloc (.cells #[.string s, .int .i64 wd, .slice (some ⟨B, 0, none⟩) W W, .slice (some ⟨(B + 1), 0, none⟩) s.size s.size, .int .i64 0] 71)) (.pointer (some ⟨B + 2, 0, none⟩)) rfl (by go_simp) ⟨trivial, ?_⟩
    simp only [Act.put, List.setIfInBounds_toArray, List.set_cons_succ, List.set_cons_zero]
    have HT : Hid (Tr (wb.alloc (.cells #[.string s, .int .i64 wd, .slice (some ⟨B, 0, none⟩) W W, .slice (some ⟨(B + 1), 0, none⟩) s.size s.size, .int .i64 0] 71)) (B + 2) B (B + 1) s wd W (st0 W s.size)) := Lib.hid (by
      refine ⟨?_, ?_, ?_, by omega, by omega, by omega, good0 s.data.toList W, hwd2, hW, hs⟩
      · rw [← hbB]; exact Is.new wb 71 _
      · simp only [st0]; rw [nats_zeros]; exact ib.alloc _
      · simp only [st0]; rw [nats_zeros]; exact jb.alloc _)
    have HO : Hid (Only (fun _ => False) w1 (wb.alloc (.cells #[.string s, .int .i64 wd, .slice (some ⟨B, 0, none⟩) W W, .slice (some ⟨(B + 1), 0, none⟩) s.size s.size, .int .i64 0] 71))) := Lib.hid (ob.alloc _)
    obtain ⟨wc, hwc⟩ : ∃ wc, wb.alloc (.cells #[.string s, .int .i64 wd, .slice (some ⟨B, 0, none⟩) W W, .slice (some ⟨(B + 1), 0, none⟩) s.size s.size, .int .i64 0] 71) = wc := ⟨_, rfl⟩
    rw [hwc] at HT HO ⊢
    clear hwc ia ib jb oa ob
    refine Walk.take (.pointer (some ⟨B + 2, 0, none⟩)) rfl trivial (fun _ _ => by kernel_rfl) ?_
    simp only [Act.put, List.setIfInBounds_toArray, List.set_cons_succ, List.set_cons_zero]
    show wpList _ _ _ _ _ _
    go_wp2
    go_ret
    exact ⟨B + 2, B, (B + 1), wd, W, rfl, HT.out, HO.out, by omega, by omega, by omega, HWF.out⟩
  · refine op_value (w' := w1.drew.alloc (.cells (List.replicate s.size (Value.int .i64 0)).toArray 3)) (.slice (some ⟨B, 0, none⟩) s.size s.size) rfl (by go_simp; rw [M2.out, ← hB]; rfl) ⟨trivial, ?_⟩
    simp only [Act.put, List.setIfInBounds_toArray, List.set_cons_succ, List.set_cons_zero]
    obtain ⟨wa, hwa⟩ : ∃ wa, w1.drew.alloc (.cells (List.replicate s.size (Value.int .i64 0)).toArray 3) = wa := ⟨_, rfl⟩
    have haB : wa.heap.size = B + 1 := by rw [← hwa, ← hB]; simp
    have ia : Is wa B 3 (List.replicate s.size (Value.int .i64 0)) := by rw [← hwa, ← hB]; exact Is.new w1.drew 3 _
    have oa : Only (fun _ => False) w1 wa := by rw [← hwa]; exact ((Only.refl _ w1).drew).alloc _
    rw [hwa]
    clear hwa
    refine op_value (w' := wa.alloc (.cells (List.replicate W (Value.int .i64 0)).toArray 3)) (.slice (some ⟨B + 1, 0, none⟩) W W) rfl (by go_simp; rw [M1.out, ← haB]; rfl) ⟨trivial, ?_⟩
    simp only [Act.put, List.setIfInBounds_toArray, List.set_cons_succ, List.set_cons_zero]
    obtain ⟨wb, hwb⟩ : ∃ wb, wa.alloc (.cells (List.replicate W (Value.int .i64 0)).toArray 3) = wb := ⟨_, rfl⟩
    have hbB : wb.heap.size = B + 2 := by rw [← hwb]; simp [haB]
    have ib : Is wb B 3 (List.replicate s.size (Value.int .i64 0)) := by rw [← hwb]; exact ia.alloc _
    have jb : Is wb (B + 1) 3 (List.replicate W (Value.int .i64 0)) := by rw [← hwb, ← haB]; exact Is.new wa 3 _
    have ob : Only (fun _ => False) w1 wb := by rw [← hwb]; exact oa.alloc _
    rw [hwb]
    clear hwb
    refine Walk.take (.agg #[.string s, .int .i64 wd, .slice (some ⟨(B + 1), 0, none⟩) W W, .slice (some ⟨B, 0, none⟩) s.size s.size, .int .i64 0]) rfl trivial (fun _ _ => by kernel_rfl) ?_
    simp only [Act.put, List.setIfInBounds_toArray, List.set_cons_succ, List.set_cons_zero]
    refine op_value (w' := wb.alloc (.cells #[.string s, .int .i64 wd, .slice (some ⟨(B + 1), 0, none⟩) W W, .slice (some ⟨B, 0, none⟩) s.size s.size, .int .i64 0] 71)) (.pointer (some ⟨B + 2, 0, none⟩)) rfl (by go_simp) ⟨trivial, ?_⟩
    simp only [Act.put, List.setIfInBounds_toArray, List.set_cons_succ, List.set_cons_zero]
    have HT : Hid (Tr (wb.alloc (.cells #[.string s, .int .i64 wd, .slice (some ⟨(B + 1), 0, none⟩) W W, .slice (some ⟨B, 0, none⟩) s.size s.size, .int .i64 0] 71)) (B + 2) (B + 1) B s wd W (st0 W s.size)) := Lib.hid (by
      refine ⟨?_, ?_, ?_, by omega, by omega, by omega, good0 s.data.toList W, hwd2, hW, hs⟩
      · rw [← hbB]; exact Is.new wb 71 _
      · simp only [st0]; rw [nats_zeros]; exact jb.alloc _
      · simp only [st0]; rw [nats_zeros]; exact ib.alloc _)
    have HO : Hid (Only (fun _ => False) w1 (wb.alloc (.cells #[.string s, .int .i64 wd, .slice (some ⟨(B + 1), 0, none⟩) W W, .slice (some ⟨B, 0, none⟩) s.size s.size, .int .i64 0] 71))) := Lib.hid (ob.alloc _)
    obtain ⟨wc, hwc⟩ : ∃ wc, wb.alloc (.cells #[.string s, .int .i64 wd, .slice (some ⟨(B + 1), 0, none⟩) W W, .slice (some ⟨B, 0, none⟩) s.size s.size, .int .i64 0] 71) = wc := ⟨_, rfl⟩
    rw [hwc] at HT HO ⊢
    clear hwc ia ib jb oa ob
    refine Walk.take (.pointer (some ⟨B + 2, 0, none⟩)) rfl trivial (fun _ _ => by kernel_rfl) ?_
    simp only [Act.put, List.setIfInBounds_toArray, List.set_cons_succ, List.set_cons_zero]
    show wpList _ _ _ _ _ _
    go_wp2
    go_ret
    exact ⟨B + 2, (B + 1), B, wd, W, rfl, HT.out, HO.out, by omega, by omega, by omega, HWF.out⟩
end Go.Proofs.YtaicihghndoclaaGreat

/- Rows of structs of the call's own, and append onto such a row (over any program); tokens as cells. -/
namespace Go.Proofs.YtaicihghndoclaaGreat
open Go.RowKit

section
variable {S : Nat → Prop} {e : TypeId} {sz : Nat} {w w' : World} {A : Option Addr} {n c : Nat} {vs : List Value}
end
theorem tks_snoc (ts : List Tk) (t : Tk) : tks ts ++ tkc t = tks (ts ++ [t]) := by simp [tks]
theorem tks_length (ts : List Tk) : (tks ts).length = ts.length * 3 := by
  induction ts with
  | nil => rfl
  | cons x r ih => simp [tks, tkc] at ih ⊢; omega
theorem Src.oneTk (w : World) (b : UInt8) (l k : Int) (c : Nat) (t : TypeId) : Src Tryz.prog 3 35 (.slice (some ⟨w.heap.size, 0, none⟩) 1 c) 1 [.int .u8 (b.toNat : Nat), .int .i64 l, .int .i64 k] (w.alloc (.cells #[.int .u8 (b.toNat : Nat), .int .i64 l, .int .i64 k] t)) := by
  refine Src.ofSlice _ Tryz.underlying35 _ 1 c _ rfl (fun j u hu => ?_) (by simp [Value.oneCell'])
  have h := Is.new w t [.int .u8 (b.toNat : Nat), .int .i64 l, .int .i64 k]
  rw [Addr.add_lit, Nat.zero_add]
  exact h.cell j hu
theorem infoT9 : (Tryz.prog.info? 67).map (fun i => (i.zero, i.size, i.bytes)) = some (some (.agg #[.int .u8 0, .int .i64 0, .int .i64 0]), 3, 24) := by kernel_rfl
theorem zero47 : (Value.agg #[.int .u8 0, .int .i64 0, .int .i64 0]).cells.size = 3 := by simp [Value.cells]
end Go.Proofs.YtaicihghndoclaaGreat

/- Layer 9, the program: tokens of a text, by any way of looking. -/
namespace Go.Proofs.YtaicihghndoclaaGreat
open Go.RowKit

/-- Where the tokens of a text stand. -/
structure TB (w : World) (T N O : Nat) (s : ByteArray) (wd W : Nat) (t : St9) (A : Option Addr) (n c : Nat) (ts : List Tk) (wx : World) : Prop where
  tr : Tr wx T N O s wd W t
  rs : Rs 67 3 wx A n c (tks ts)
  only : Only (Of T N O) w wx
  lies : ∀ j, Lies A j → w.heap.size ≤ j
  old : T < w.heap.size ∧ N < w.heap.size ∧ O < w.heap.size
section
variable {w wx wy : World} {T N O wd W n c n' c' : Nat} {s : ByteArray} {t t' : St9} {A A' : Option Addr} {ts ts' : List Tk}
theorem TB.look (h : TB w T N O s wd W t A n c ts wx) (ht : Tr wy T N O s wd W t') (ho : Only (Of T N O) wx wy) : TB w T N O s wd W t' A n c ts wy := by
  refine ⟨ht, h.rs.only ho fun j hj hf => ?_, h.only.trans ho, h.lies, h.old⟩
  have h1 := h.lies j hj
  have h2 := h.old
  rcases hf with e | e | e <;> omega
theorem TB.append {o : Obj} (h : TB w T N O s wd W t A n c ts wx) (hr : Rs 67 3 wy A' n' c' (tks ts')) (ho : Only (Lies A) (wx.alloc o) wy) (ha : A' = A ∨ A' = some ⟨(wx.alloc o).heap.size, 0, none⟩) : TB w T N O s wd W t A' n' c' ts' wy := by
  have hl : ∀ j, j < w.heap.size → ¬ Lies A j := fun j hj hh => by have := h.lies j hh; omega
  have h2 := h.old
  refine ⟨(h.tr.new ((Only.refl _ wx).alloc o)).only ho (hl _ h2.1) (hl _ h2.2.1) (hl _ h2.2.2), hr, (h.only.alloc o).andThen ho fun j hj => .inr (h.lies j hj), fun j hj => ?_, h2⟩
  rcases ha with e1 | e1
  · exact h.lies j (e1 ▸ hj)
  · obtain ⟨ad, e2, e3⟩ := hj
    rw [e1] at e2
    obtain rfl := Option.some.inj e2
    have h1 := h.only.size
    have h2 : (wx.alloc o).heap.size = j := e3
    simp at h2
    omega
end
def TBPost (w : World) (T N O : Nat) (ts : List Tk) (e : Ending) (w' : World) : Prop := ∃ A c, e = .returned (.slice A ts.length c) ∧ Rs 67 3 w' A ts.length c (tks ts) ∧ Only (Of T N O) w w'

set_option maxHeartbeats 4000000 in
theorem tokensBy (T N O wd W K lvl : Nat) (s : ByteArray) (t : St9) (w : World) (h : Tr w T N O s wd W t) (hk : t.kept = 0) (hs : s.size ≤ 1000000)
    (hK : ∀ (w1 : World) (t1 : St9) (a : Nat), Tr w1 T N O s wd W t1 → a < s.size → t1.kept ≤ a → Calls Tryz.prog K #[.pointer (some ⟨T, 0, none⟩), .int .i64 a] w1 (SPost w1 T N O s wd W (look s.data.toList (markAt s.data.toList wd) lvl t1 a)))
    (eK : ∀ (args : Array Value) (w1 : World), (callFunc K args).run Tryz.prog w1 = .ok (.enter K args) w1) :
    Calls Tryz.prog 20 #[.string s, .func (.func K) #[.pointer (some ⟨T, 0, none⟩)] #[]] w (TBPost w T N O (toks s.data.toList (markAt s.data.toList wd) lvl s.size t 0)) := by
  have b1 : (s.size : Int) ≤ 1000000 := by omega
  have HT : Hid (TB w T N O s wd W t none 0 0 [] w) := Lib.hid ⟨h, Rs.nil _ _ _, Only.refl _ _, fun j hj => (by obtain ⟨ad, e, _⟩ := hj; cases e), ⟨h.it.lt, h.nn.lt, h.oo.lt⟩⟩
  obtain ⟨R, hR⟩ : ∃ R, toks s.data.toList (markAt s.data.toList wd) lvl s.size t 0 = R := ⟨_, rfl⟩
  rw [hR]
  have HR := Lib.hid hR
  have HK := Lib.hid hK
  clear h hK hR
  go_enter Tryz.func20, Tryz.ntmps20
  go_wp2_with fail
  go_loopg [5, 6, 7, 8] s.size (fun gk v i u7 u8 wx => ∃ (a n c : Nat) (A : Option Addr) (ts : List Tk) (t1 : St9), i = .int .i64 a ∧ v = .slice A n c ∧ a ≤ s.size ∧ n ≤ a ∧ s.size ≤ a + gk ∧ t1.kept ≤ a ∧ Hid (ts.length = n ∧ ts ++ toks s.data.toList (markAt s.data.toList wd) lvl gk t1 a = R) ∧ Hid (TB w T N O s wd W t1 A n c ts wx))
  case atStart => exact ⟨0, 0, 0, none, [], t, rfl, rfl, by omega, by omega, by omega, by omega, Lib.hid ⟨rfl, HR.out⟩, HT⟩
  case round =>
    clear HT HR
    obtain ⟨a, n, c, A, ts, t1, rfl, rfl, ha, hna, hg, hk1, HR, HT⟩ := hrel
    by_cases hlt : a < s.size
    · have hlt2 : (a : Int) < (s.size : Int) := by omega
      obtain ⟨g, rfl⟩ : ∃ g, gk = g + 1 := ⟨gk - 1, by omega⟩
      obtain ⟨r, hr⟩ : ∃ r, look s.data.toList (markAt s.data.toList wd) lvl t1 a = r := ⟨_, rfl⟩
      obtain ⟨v1, v2, v3⟩ := look_valid (markAt s.data.toList wd) lvl a HT.out.tr.good hk1
      have v4 := v1.le
      have HL := Lib.hid hr
      rw [hr] at v1 v3 v4
      have HV := Lib.hid v1
      clear v1 v2 hr
      obtain ⟨⟨l, b⟩, t2⟩ := r
      simp only at v3 v4
      have v5 : l ≤ s.size - a := v4.1
      obtain ⟨x, hx⟩ : ∃ x, s[a]'hlt = x := ⟨_, rfl⟩
      have HX : Hid (s.data.toList.getD a 0 = x) := Lib.hid (by rw [← byte_at s a hlt, hx])
      go_upto_region 5 with fail
      refine (HK.out wr t1 a HT.out.tr hlt hk1).mono ?_
      rw [HL.out]
      rintro e w2 ⟨rfl, ht2, ho2⟩
      have HT2 := Lib.hid (HT.out.look ht2 ho2)
      clear ht2 ho2 HT
      by_cases h0 : l = 0
      · have HN : Hid ((ts ++ [Tk.mk x 0 0]).length = n + 1 ∧ (ts ++ [Tk.mk x 0 0]) ++ toks s.data.toList (markAt s.data.toList wd) lvl g t2 (a + 1) = R) := Lib.hid (by
          refine ⟨by rw [List.length_append, HR.out.1]; rfl, ?_⟩
          rw [← HR.out.2, toks, if_pos (show a < s.data.toList.length from hlt), HL.out, if_pos h0, HX.out, List.append_assoc]
          rfl)
        have g0 : ((l : Int) == 0) = true := by simp [h0]
        clear h0
        go_upto_region 6 with fail
        go_wp2_with (at_builtin
                     refine wpList_append_rs rfl (.tmp 21) (.tmp 26) 35 35 67 rfl Tryz.underlying35 infoT9 zero47 A n c (tks ts) [.int .u8 ((x).toNat : Nat), .int .i64 (0), .int .i64 (0)] (.slice (some ⟨w2.heap.size, 0, none⟩) 1 1) (by rfl) (by rfl) (HT2.out.rs.alloc _) (Src.oneTk w2 (x) (0) (0) 1 67) (by omega) (by omega) ?_
                     intro A3 c3 w3 hrow3 honly3 hlies3
                     have HR3 := Lib.hid hrow3
                     have HO3 := Lib.hid honly3
                     have HL3 := Lib.hid hlies3
                     clear hrow3 honly3 hlies3)
        have HT3 : Hid (TB w T N O s wd W t2 A3 (n + 1) c3 (ts ++ [Tk.mk x 0 0]) w3) := Lib.hid (HT2.out.append (by rw [← tks_snoc]; exact HR3.out) HO3.out HL3.out)
        go_roundg g
        case measure => omega
        case rel => exact ⟨a + 1, n + 1, c3, A3, _, t2, by go_num, rfl, by omega, by omega, by omega, v3, HN, HT3⟩
      · have HN : Hid ((ts ++ [Tk.mk 0 l b]).length = n + 1 ∧ (ts ++ [Tk.mk 0 l b]) ++ toks s.data.toList (markAt s.data.toList wd) lvl g t2 (a + l) = R) := Lib.hid (by
          refine ⟨by rw [List.length_append, HR.out.1]; rfl, ?_⟩
          rw [← HR.out.2, toks, if_pos (show a < s.data.toList.length from hlt), HL.out, if_neg h0, List.append_assoc]
          rfl)
        have g0 : ((l : Int) == 0) = false := by simp; omega
        have g1 : ¬ (l : Int) = 0 := by omega
        clear h0
        go_upto_region 8 with fail
        go_wp2_with (at_builtin
                     refine wpList_append_rs rfl (.tmp 30) (.tmp 34) 35 35 67 rfl Tryz.underlying35 infoT9 zero47 A n c (tks ts) [.int .u8 (((0 : UInt8)).toNat : Nat), .int .i64 ((l : Nat)), .int .i64 ((b : Nat))] (.slice (some ⟨w2.heap.size, 0, none⟩) 1 1) (by rfl) (by rfl) (HT2.out.rs.alloc _) (Src.oneTk w2 ((0 : UInt8)) ((l : Nat)) ((b : Nat)) 1 67) (by omega) (by omega) ?_
                     intro A3 c3 w3 hrow3 honly3 hlies3
                     have HR3 := Lib.hid hrow3
                     have HO3 := Lib.hid honly3
                     have HL3 := Lib.hid hlies3
                     clear hrow3 honly3 hlies3)
        have HT3 : Hid (TB w T N O s wd W t2 A3 (n + 1) c3 (ts ++ [Tk.mk 0 l b]) w3) := Lib.hid (HT2.out.append (by rw [← tks_snoc]; exact HR3.out) HO3.out HL3.out)
        go_roundg g
        case measure => omega
        case rel => exact ⟨a + l, n + 1, c3, A3, _, t2, by go_num, rfl, by omega, by omega, by omega, by omega, HN, HT3⟩
    · have HX : Hid (ts = R) := Lib.hid (by
        rw [← HR.out.2]
        cases gk with
        | zero => rw [toks, List.append_nil]
        | succ g => rw [toks, if_neg (show ¬ a < s.data.toList.length from hlt), List.append_nil])
      have hlt2 : ¬ (a : Int) < (s.size : Int) := by omega
      go_wp2
      go_ret
      rw [← HX.out]
      unfold TBPost
      rw [HR.out.1]
      exact ⟨A, c, rfl, HT.out.rs, HT.out.only⟩
end Go.Proofs.YtaicihghndoclaaGreat

/- Layer 9, the program: tokens of a text at a level; how many bytes tokens say. -/
namespace Go.Proofs.YtaicihghndoclaaGreat
open Go.RowKit

/-- Which function looks for matches at a level. -/
def IsWay (lvl K : Nat) : Prop := (lvl = 0 ∧ K = 35) ∨ (lvl = 1 ∧ K = 32) ∨ (lvl = 2 ∧ K = 33) ∨ (lvl = 3 ∧ K = 34)
theorem isWay (lvl : Nat) (h : lvl ≤ 3) : ∃ K, IsWay lvl K := by
  unfold IsWay
  match lvl, h with
  | 0, _ => exact ⟨35, .inl ⟨rfl, rfl⟩⟩
  | 1, _ => exact ⟨32, .inr (.inl ⟨rfl, rfl⟩)⟩
  | 2, _ => exact ⟨33, .inr (.inr (.inl ⟨rfl, rfl⟩))⟩
  | 3, _ => exact ⟨34, .inr (.inr (.inr ⟨rfl, rfl⟩))⟩
theorem way (T lvl K : Nat) (w : World) (h : IsWay lvl K) : Calls Tryz.prog 22 #[.pointer (some ⟨T, 0, none⟩), .int .i64 lvl] w fun e w' => e = .returned (.func (.func K) #[.pointer (some ⟨T, 0, none⟩)] #[]) ∧ w = w' := by
  have hmf : ∀ (fn : Fn) (first cap : Array Value) (w : World), (Instr.makeFunc fn first cap).run Tryz.prog w = .ok (.func fn first cap) w := fun _ _ _ _ => rfl
  rcases h with ⟨rfl, rfl⟩ | ⟨rfl, rfl⟩ | ⟨rfl, rfl⟩ | ⟨rfl, rfl⟩
  · go_enter Tryz.func22, Tryz.ntmps22
    go_wp2
    go_ret
    exact ⟨rfl, rfl⟩
  · go_enter Tryz.func22, Tryz.ntmps22
    go_wp2
    go_ret
    exact ⟨rfl, rfl⟩
  · go_enter Tryz.func22, Tryz.ntmps22
    go_wp2
    go_ret
    exact ⟨rfl, rfl⟩
  · go_enter Tryz.func22, Tryz.ntmps22
    go_wp2
    go_ret
    exact ⟨rfl, rfl⟩
theorem way_enters (lvl K : Nat) (h : IsWay lvl K) (args : Array Value) (w : World) : (callFunc K args).run Tryz.prog w = .ok (.enter K args) w := by
  rcases h with ⟨_, rfl⟩ | ⟨_, rfl⟩ | ⟨_, rfl⟩ | ⟨_, rfl⟩ <;> kernel_rfl
theorem way_looks (lvl K T N O wd W : Nat) (s : ByteArray) (h : IsWay lvl K) (w1 : World) (t1 : St9) (a : Nat) (ht : Tr w1 T N O s wd W t1) (ha : a < s.size) (hk : t1.kept ≤ a) :
    Calls Tryz.prog K #[.pointer (some ⟨T, 0, none⟩), .int .i64 a] w1 (SPost w1 T N O s wd W (look s.data.toList (markAt s.data.toList wd) lvl t1 a)) := by
  rcases h with ⟨rfl, rfl⟩ | ⟨rfl, rfl⟩ | ⟨rfl, rfl⟩ | ⟨rfl, rfl⟩
  · exact noneC T N O a wd W s t1 w1 ht
  · exact latest T N O a wd W s t1 w1 ht (by omega) hk
  · exact longest9 T N O a wd W s t1 w1 ht (by omega) hk
  · exact patientC T N O a wd W s t1 w1 ht (by omega) hk

/-- The tokens that are answered. -/
def toksF (s : ByteArray) (lvl : Nat) : List Tk := toks s.data.toList (markAt s.data.toList (wdOf s.size)) lvl s.size (st0 (2 ^ wdOf s.size) s.size) 0
def TokPost9 (w : World) (s : ByteArray) (lvl : Nat) (e : Ending) (w' : World) : Prop :=
  ∃ A c, e = .returned (.tuple #[.slice A (toksF s lvl).length c, .int .i64 0]) ∧ Rs 67 3 w' A (toksF s lvl).length c (tks (toksF s lvl)) ∧ Only (fun _ => False) w w'

set_option maxHeartbeats 2000000 in
theorem tokens (s : ByteArray) (lvl : Nat) (w : World) (hs : s.size ≤ 1000000) (hl : lvl ≤ 3) : Calls Tryz.prog 13 #[.string s, .int .i64 lvl] w (TokPost9 w s lvl) := by
  have b1 : (s.size : Int) ≤ 1000000 := by omega
  have b2 : (lvl : Int) ≤ 3 := by omega
  obtain ⟨K, hK⟩ := isWay lvl hl
  have HK := Lib.hid hK
  clear hK
  go_enter Tryz.func13, Tryz.ntmps13
  go_wp2_with (first
    | (go_at_call 21; refine (newTrail s _ (by omega)).mono ?_; rintro e w1 ⟨T, N, O, wd, W, rfl, ht, ho, hT, hN, hO, rfl⟩; have HT := Lib.hid ht; have HO := Lib.hid ho; have HP := Lib.hid (And.intro hT (And.intro hN hO)); clear ht ho hT hN hO)
    | (go_at_call 22; refine (way T lvl K _ HK.out).mono ?_; rintro e w2 ⟨rfl, rfl⟩)
    | (go_at_call 20; refine (tokensBy T N O _ W K lvl s _ _ HT.out rfl hs (fun w1 t1 a => way_looks lvl K T N O _ W s HK.out w1 t1 a) (way_enters lvl K HK.out)).mono ?_; rintro e w3 ⟨A, c, rfl, hr, ho⟩; have HR := Lib.hid hr; have HO3 := Lib.hid ho; clear hr ho))
  go_ret2
  refine ⟨A, c, ?_, ?_, HO.out.andThen HO3.out fun j hj => .inr ?_⟩
  · unfold toksF
    rw [HT.out.w2]
    rfl
  · unfold toksF
    rw [HT.out.w2]
    exact HR.out
  · have h1 := HP.out
    rcases hj with e | e | e <;> omega
theorem tokens_no (s : ByteArray) (lvl : Int) (w : World) (hl : lvl < 0 ∨ 3 < lvl) : Calls Tryz.prog 13 #[.string s, .int .i64 lvl] w fun e w' => e = .returned (.tuple #[.slice none 0 0, .int .i64 1]) ∧ Only (fun _ => False) w w' := by
  by_cases h : lvl < 0
  · clear hl
    go_enter Tryz.func13, Tryz.ntmps13
    go_wp2
    go_ret2
    exact ⟨rfl, Only.refl _ _⟩
  · have h2 : 3 < lvl := by omega
    clear hl
    go_enter Tryz.func13, Tryz.ntmps13
    go_wp2
    go_ret2
    exact ⟨rfl, Only.refl _ _⟩

theorem sumT_append (a b : List Tk) : sumT (a ++ b) = sumT a + sumT b := by
  induction a with
  | nil => simp [sumT]
  | cons x r ih => rw [List.cons_append, sumT, sumT, ih]; omega
set_option maxHeartbeats 4000000 in
theorem size (A : Option Addr) (n c B : Nat) (ts : List Tk) (w : World) (h : See w B A (tks ts)) (hn : ts.length = n) (h60 : n ≤ 1000000) : Calls Tryz.prog 23 #[.slice A n c] w fun e w' => e = .returned (.int .i64 (sumT ts)) ∧ Only (fun _ => False) w w' := by
  have HS := Lib.hid h
  have HN := Lib.hid hn
  clear h hn
  go_enter Tryz.func23, Tryz.ntmps23
  go_wp2_with fail
  go_loopg [3, 5, 8] n (fun gk v u5 i wx => ∃ (j : Nat) (S : Int), i = .int .i64 j ∧ v = .int .i64 S ∧ j + gk ≤ n ∧ n ≤ j + gk ∧ 0 ≤ S ∧ S ≤ 258 * j ∧ Hid (sumT (ts.take j) = S) ∧ Hid (Only (fun _ => False) w wx))
  case atStart => exact ⟨0, 0, rfl, rfl, by omega, by omega, by omega, by omega, Lib.hid rfl, Lib.hid (Only.refl _ w)⟩
  case round =>
    obtain ⟨j, S, rfl, rfl, hg1, hg2, hS1, hS2, HX, HO⟩ := hrel
    by_cases hlt : j < n
    · obtain ⟨t, ht⟩ : ∃ t, ts[j]? = some t := ⟨ts[j]'(by rw [HN.out]; exact hlt), by simp [HN.out, hlt]⟩
      obtain ⟨b0, off, rfl, _, c0, c1, c2⟩ := (HS.out.new HO.out).token j t ht
      obtain ⟨b, tn, tk⟩ := t
      simp only at c0 c1 c2
      obtain ⟨v, hv⟩ : ∃ v : Int, max 1 (min tn 258) = v := ⟨_, rfl⟩
      have hv1 : 1 ≤ v ∧ v ≤ 258 := by omega
      have HXN : Hid (sumT (ts.take (j + 1)) = S + v) := Lib.hid (by rw [take_next ts j _ ht, sumT_append, HX.out]; simp only [sumT]; omega)
      clear ht
      go_upto_region 5 with fail
      obtain ⟨wa, hwa⟩ : ∃ wa, wr.alloc (.cells #[.int .u8 b.toNat, .int .i64 tn, .int .i64 tk] 67) = wa := ⟨_, rfl⟩
      obtain ⟨g, hg⟩ : ∃ g, wr.heap.size = g := ⟨_, rfl⟩
      have hIa : Is wa g 67 (tkc ⟨b, tn, tk⟩) := by rw [← hwa, ← hg]; exact Is.new wr 67 _
      have HOa : Hid (Only (fun _ => False) w wa) := Lib.hid (hwa ▸ HO.out.alloc _)
      have ca1 := hIa.cell 1 rfl
      rw [hwa, hg]
      clear hwa hg hIa HO c0 c1 c2 HX
      go_wp2_with fail
      trace_state
      go_roundg (gk - 1)
      case measure => omega
      case rel => exact ⟨j + 1, S + v, by go_num, rfl, by omega, by omega, by omega, by omega, HXN, HOa⟩
    · obtain rfl : j = n := by omega
      have HF : Hid (sumT ts = S) := Lib.hid (by rw [← HX.out, List.take_of_length_le (by rw [HN.out]; exact Nat.le_refl _)])
      go_wp2
      go_ret
      rw [HF.out]
      exact ⟨rfl, HO.out⟩
end Go.Proofs.YtaicihghndoclaaGreat

