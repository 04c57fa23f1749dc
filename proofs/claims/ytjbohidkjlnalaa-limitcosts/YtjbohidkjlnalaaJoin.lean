/- Layer 6: the two lightest nodes put under a pair, in the program. -/
import Derived.Test.YtjbohidkjlnalaaForest
namespace Go.Proofs.Ytjbohidkjlnalaa
open Go.RowKit

theorem Row.setNum {w : World} {g n c : Nat} {l : List Nat} (h : Row 3 w (some ⟨g, 0, none⟩) n c (ints l)) (i y : Nat) : Row 3 (w.setCell ⟨g, i, none⟩ (.int .i64 (y : Nat))) (some ⟨g, 0, none⟩) n c (ints (l.set i y)) := by
  rw [← ints_set]
  exact h.set i _
def JoinPost (w : World) (F gs U n N : Nat) (W s ab : List Nat) (p q : Nat) (e : Ending) (w' : World) : Prop :=
  e = .returned (.tuple #[]) ∧ ∃ i j p2 q2 gs2 cs2 pm qm, For w' F gs2 U n N p2 q2 cs2 (s ++ [ln s i + ln s j]) ((ab.set i s.length).set j s.length) ∧ Only (fun k => k = F ∨ k = gs ∨ k = U) w w' ∧ (gs2 = gs ∨ w.heap.size ≤ gs2) ∧ Takes W s n p q i pm qm ∧ Takes W s n pm qm j p2 q2

set_option maxHeartbeats 16000000 in
theorem join (F gs U n N p q cs : Nat) (W s ab : List Nat) (w : World) (h : For w F gs U n N p q cs s ab) (hn : W.length = n) (hl : ∀ v, v < n → ln s v = ln W v) (hpn : p ≤ n) (hnq : n ≤ q) (hq : q ≤ s.length) (hs : s.length ≤ 1000) (hN : s.length < N) (hab : ab.length = N)
    (htwo : n + s.length ≥ p + q + 2) (hsm : ∀ i, ln s i ≤ 1099511627776) :
    Calls Try.prog 32 #[.pointer (some ⟨F, 0, none⟩)] w (JoinPost w F gs U n N W s ab p q) := by
  have HL1 := Lib.hid (light F gs U n N p q cs W s ab w h hn hl hpn hnq hq (by omega) hs)
  have HN := Lib.hid hn
  have HLf := Lib.hid hl
  have HSM := Lib.hid hsm
  have HAB := Lib.hid hab
  have mixed := Try.laysSlF20_f38.mixed
  have hgs : gs < w.heap.size := h.sums.lies gs ⟨_, rfl, rfl⟩
  have hF : F < w.heap.size := h.blk.lt
  have hU : U < w.heap.size := h.above.lies U ⟨_, rfl, rfl⟩
  clear h hn hl hsm hab
  go_enter Try.func32, Try.ntmps32
  go_wp2_with fail
  refine HL1.out.mono ?_
  rintro e w1 ⟨i, pm, qm, ⟨rfl, hf1, ho1⟩, ht1⟩
  have htm := ht1.one
  have HL2 := Lib.hid (light F gs U n N pm qm cs W s ab w1 hf1 HN.out HLf.out ht1.pn (by have := ht1.qq; omega) ht1.qs (by have := ht1.pn; have := ht1.qs; omega) hs)
  have HO1 := Lib.hid ho1
  have HT1 := Lib.hid ht1
  clear hf1 ho1 ht1 HL1
  go_wp2_with fail
  refine HL2.out.mono ?_
  rintro e w2 ⟨j, p2, q2, ⟨rfl, hf2, ho2⟩, ht2⟩
  have HO2 := Lib.hid (HO1.out.trans ho2)
  have hi : i < s.length := by have := HT1.out.took; have := HT1.out.qs; have := HT1.out.pn; unfold Tk at *; omega
  have hj : j < s.length := by have := ht2.took; have := ht2.qs; have := ht2.pn; unfold Tk at *; omega
  have HT2 := Lib.hid ht2
  obtain ⟨L, hL⟩ : ∃ L, s.length = L := ⟨_, rfl⟩
  have HL := Lib.hid hL
  have c1 := hf2.blk.cell 1 (v := .slice (some ⟨gs, 0, none⟩) s.length cs) rfl
  have c2 := hf2.blk.cell 2 (v := .slice (some ⟨U, 0, none⟩) N N) rfl
  obtain ⟨u1, u2⟩ := hf2.above.num i (by rw [HAB.out]; omega)
  obtain ⟨u3, u4⟩ := hf2.above.num j (by rw [HAB.out]; omega)
  have u5 : ∃ v, (w2.setCell ⟨U, i, none⟩ (.int .i64 (L : Int))).cell? ⟨U, j, none⟩ = some v := by
    have := (Row.setNum hf2.above i L).num j (by simp; rw [HAB.out]; omega)
    exact ⟨_, this.1⟩
  obtain ⟨v5, u5⟩ := u5
  rw [hL] at c1 hi hj hq hs hN htwo
  have bi : (i : Int) < (N : Int) := by omega
  have bj : (j : Int) < (N : Int) := by omega
  have HA : Hid (Row 3 ((w2.setCell ⟨U, i, none⟩ (.int .i64 (L : Int))).setCell ⟨U, j, none⟩ (.int .i64 (L : Int))).drew (some ⟨U, 0, none⟩) N N (ints ((ab.set i L).set j L))) := Lib.hid ((Row.setNum (Row.setNum hf2.above i L) j L).drew)
  have HO3 : Hid (Only (fun k => k = U) w2 ((w2.setCell ⟨U, i, none⟩ (.int .i64 (L : Int))).setCell ⟨U, j, none⟩ (.int .i64 (L : Int))).drew) := Lib.hid (((Only.one w2 U i _).trans (Only.one _ U j _)).drew)
  have HF2 := Lib.hid hf2
  clear hf2 ho2 ht2 HL2 hL
  go_wp2_with fail
  go_big_region_o
  clear c1 c2 u1 u2 u3 u4 u5
  generalize ((w2.setCell ⟨U, i, none⟩ (.int .i64 (L : Int))).setCell ⟨U, j, none⟩ (.int .i64 (L : Int))).drew = w3 at HA HO3 ⊢
  have hfu := HF2.out.fu
  have hfs := HF2.out.fs
  have hsu := HF2.out.su
  have HFU := Lib.hid hfu
  have HB3 := Lib.hid (HF2.out.blk.only HO3.out (fun e => hfu e))
  have HS3 : Hid (Row 3 w3 (some ⟨gs, 0, none⟩) L cs (ints s)) := Lib.hid (by rw [← HL.out]; exact HF2.out.sums.only HO3.out (by rintro k ⟨ad, e, rfl⟩ e2; obtain rfl := Option.some.inj e; exact hsu e2))
  have HO4 : Hid (Only (fun k => k = F ∨ k = gs ∨ k = U) w w3) := Lib.hid ((HO2.out.mono fun k hk => .inl hk).trans (HO3.out.mono fun k hk => .inr (.inr hk)))
  have d1 := HB3.out.cell 1 (v := .slice (some ⟨gs, 0, none⟩) s.length cs) rfl
  rw [HL.out] at d1
  obtain ⟨x1, _⟩ := HS3.out.num i (by rw [HL.out]; exact hi)
  obtain ⟨x2, _⟩ := HS3.out.num j (by rw [HL.out]; exact hj)
  have hx := HSM.out i
  have hy := HSM.out j
  obtain ⟨x, hx1⟩ : ∃ x, ln s i = x := ⟨_, rfl⟩
  obtain ⟨y, hy1⟩ : ∃ y, ln s j = y := ⟨_, rfl⟩
  rw [hx1] at x1 hx
  rw [hy1] at x2 hy
  obtain ⟨z, hz⟩ : ∃ z, x + y = z := ⟨_, rfl⟩
  have ez : (x : Int) + (y : Int) = (z : Int) := by omega
  have rz : IntKind.i64.wrap (z : Int) = (z : Int) := by rw [IntKind.wrap_i64]; omega
  have HZ : Hid (ln s i + ln s j = z) := Lib.hid (by rw [hx1, hy1, hz])
  have biL : (i : Int) < (L : Int) := by omega
  have bjL : (j : Int) < (L : Int) := by omega
  have hs3 : w.heap.size ≤ w3.heap.size := HO4.out.size
  have d2 : (w3.alloc (.cells #[.int .i64 (z : Int)] 3)).cell? ⟨F, 1, none⟩ = some (.slice (some ⟨gs, 0, none⟩) L cs) := (HB3.out.alloc _).cell 1 (by rw [fcells, HL.out]; rfl)
  have hlF : ¬ Lies (some ⟨gs, 0, none⟩) F := by rintro ⟨ad, e, e2⟩; obtain rfl := Option.some.inj e; exact hfs e2.symm
  have hlU : ¬ Lies (some ⟨gs, 0, none⟩) U := by rintro ⟨ad, e, e2⟩; obtain rfl := Option.some.inj e; exact hsu e2
  have hF3 : F < w3.heap.size := HB3.out.lt
  have hU3 : U < w3.heap.size := HA.out.lies U ⟨_, rfl, rfl⟩
  have K1 : Hid (∀ w9, Only (Lies (some ⟨gs, 0, none⟩)) (w3.drew.alloc (.cells #[.int .i64 (z : Int)] 3)) w9 → w9.cell? ⟨F, 1, none⟩ = some (.slice (some ⟨gs, 0, none⟩) L cs) ∧ w9.frozen? ⟨F, 1, none⟩ = false) := Lib.hid fun w9 h9 => by
    have hb := (HB3.out.drew.alloc (.cells #[.int .i64 (z : Int)] 3)).only h9 hlF
    exact ⟨hb.cell 1 (by rw [fcells, HL.out]; rfl), hb.frozen 1⟩
  have FIN : Hid (∀ A9 c9 w9, Row 3 w9 A9 (L + 1) c9 (ints s ++ [.int .i64 (z : Int)]) → Only (Lies (some ⟨gs, 0, none⟩)) (w3.drew.alloc (.cells #[.int .i64 (z : Int)] 3)) w9 → (A9 = some ⟨gs, 0, none⟩ ∨ A9 = some ⟨(w3.drew.alloc (.cells #[.int .i64 (z : Int)] 3)).heap.size, 0, none⟩) →
      JoinPost w F gs U n N W s ab p q (.returned (.tuple #[])) (w9.setCell ⟨F, 1, none⟩ (.slice A9 (L + 1) c9))) := Lib.hid fun A9 c9 w9 h1 h2 h3 => by
    have hb := ((HB3.out.drew.alloc (.cells #[.int .i64 (z : Int)] 3)).only h2 hlF).set 1 (.slice A9 (L + 1) c9)
    have ho : Only (fun k => k = F) w9 (w9.setCell ⟨F, 1, none⟩ (.slice A9 (L + 1) c9)) := Only.one w9 F 1 _
    have hz3 : (w3.drew.alloc (.cells #[.int .i64 (z : Int)] 3)).heap.size = w3.heap.size + 1 := by simp
    rw [hz3] at h3
    obtain ⟨g2, hg2, hne⟩ : ∃ g2, A9 = some ⟨g2, 0, none⟩ ∧ (g2 = gs ∨ g2 = w3.heap.size + 1) := by
      rcases h3 with e | e
      · exact ⟨gs, e, .inl rfl⟩
      · exact ⟨_, e, .inr rfl⟩
    subst hg2
    have hlen : (s ++ [ln s i + ln s j]).length = L + 1 := by simp [HL.out]
    refine ⟨rfl, i, j, p2, q2, g2, c9, pm, qm, ⟨?_, ?_, ?_, ?_, HFU.out, ?_⟩, ?_, ?_, HT1.out, HT2.out⟩
    · rw [hlen]
      exact hb
    · rw [hlen, HZ.out, ints_snoc]
      refine h1.only ho ?_
      rintro k ⟨ad, e, rfl⟩ e2
      obtain rfl := Option.some.inj e
      have e2 : g2 = F := e2
      omega
    · rw [HL.out]
      refine ((HA.out.drew.alloc _).only h2 ?_).only ho ?_
      · rintro k ⟨ad, e, rfl⟩ e2
        obtain rfl := Option.some.inj e
        exact hlU e2
      · rintro k ⟨ad, e, rfl⟩ e2
        obtain rfl := Option.some.inj e
        exact HFU.out e2.symm
    · omega
    · omega
    · refine (((HO4.out.drew.alloc _).andThen h2 fun k hk => ?_).andThen ho fun k hk => .inl (.inl hk))
      obtain ⟨ad, e, e2⟩ := hk
      obtain rfl := Option.some.inj e
      exact .inl (.inr (.inl e2.symm))
    · omega
  have B1 : (8 : Nat) ≤ 8 := Nat.le_refl _
  have B2 : L + 1 ≤ 1099511627776 := by omega
  clear hx1 hy1 hz HO3 HF2 HB3 HA HO4 HT1 HT2 HO2 HO1 HZ HSM HAB HN HLf hlF hlU hF3 hU3 hs3 hgs hF hU hpn hnq hq hs hN htwo htm hi hj bi bj hfu hfs hsu hx hy HL
  go_wp2_with fail
  go_region_law (first
    | (refine step_append_row (by rfl) (.tmp 34) (.tmp 50) 22 22 3 (by rfl) Try.underlying22 info3 (some ⟨gs, 0, none⟩) L cs 1 (ints s) [.int .i64 (z : Int)] (.slice (some ⟨w3.heap.size, 0, none⟩) 1 1) (by rfl) (by rfl) (HS3.out.drew.alloc _) rfl (Src.oneInt Try.underlying22 w3.drew .i64 (z : Int) 1 3) B1 B2 ?_
       intro A9 c9 w9 hrow9 honly9 hlies9
       have H9 := Lib.hid (FIN.out A9 c9 w9 hrow9 honly9 hlies9)
       have k1 := (K1.out w9 honly9).1
       have k2 := (K1.out w9 honly9).2
       clear hrow9 honly9 hlies9))
  all_goals
    go_end0
    exact H9.out
end Go.Proofs.Ytjbohidkjlnalaa
