/- Layer 15, the law's helper: what a deed makes of nodes. -/
import Derived.Test.YtaeaomlhbdbbfaaGreatDoorTnR
import Derived.Test.YtaeaomlhbdbbfaaGreatDoorTnI
namespace Go.Proofs.YtaeaomlhbdbbfaaGreatDoor
open Go.RowKit

/-- A deed as a value. -/
abbrev ddV (d : Dd) : Value := .agg #[.int .u8 d.k, .string (tx d.n.path), .bool d.n.dir, .string (tx d.n.data), .int .i64 d.n.mode, .int .i64 d.n.time]
/-- What a deed hands back: nodes, and a number. -/
def DoneP (w : World) (A0 : Option Addr) (ps : List Nd) (m : Int) (e : Ending) (w' : World) : Prop := ∃ A c B, e = .returned (.tuple #[.slice A ps.length c, .int .i64 m]) ∧ See w' B A (nds ps) ∧ ps.length ≤ c ∧ Only (fun _ => False) w w' ∧ ∀ j, Lies A j → Lies A0 j ∨ (w.heap.size ≤ j ∧ j < w'.heap.size)
set_option maxHeartbeats 8000000 in
theorem rdone (A : Option Addr) (k c B : Nat) (ps : List Nd) (d : Dd) (w : World) (hS : See w B A (nds ps)) (hk : ps.length = k) (hb : k ≤ 4000) (hin : ∀ n ∈ ps, NdIn n) (hc : k ≤ c) (hd : NdSm d.n) (hkd : d.k < 256) : Calls Tryz.prog 11 #[.slice A k c, ddV d] w (DoneP w A (doneT ps d).1 (doneT ps d).2) := by
  obtain ⟨kk, n⟩ := d
  have hn : NdIn n := hd.1
  have h60 : n.path.length ≤ 60 := hd.2.1
  replace hkd : kk < 256 := hkd
  have h2 : n.path.length ≤ 2000 := by omega
  obtain ⟨X, hX⟩ : ∃ X, w.heap.size = X := ⟨_, rfl⟩
  obtain ⟨w0, hw0⟩ : ∃ w0, w.alloc (.cells #[.int .u8 kk, .string (tx n.path), .bool n.dir, .string (tx n.data), .int .i64 n.mode, .int .i64 n.time] 31) = w0 := ⟨_, rfl⟩
  have HI : Hid (Is w0 X 31 (.int .u8 kk :: ndVals n)) := Lib.hid (by
    rw [← hw0, ← hX]
    exact Is.new w _ _)
  have HFR : Hid (Only (fun _ => False) w w0) := Lib.hid (by
    rw [← hw0]
    exact (Only.refl _ w).alloc _)
  have HM := Lib.hid (rmay n w0 hn)
  have y0 := HI.out.cell 1 rfl
  have y1 := HI.out.cell 2 rfl
  have y2 := HI.out.cell 3 rfl
  have y3 := HI.out.cell 4 rfl
  have y4 := HI.out.cell 5 rfl
  obtain ⟨P, hP⟩ : ∃ P, mayPath n = P := ⟨_, rfl⟩
  obtain ⟨R, hR⟩ : ∃ R, mayRest n = R := ⟨_, rfl⟩
  rw [hP, hR] at HM
  have HSS := Lib.hid (hS.new HFR.out)
  have HIN := Lib.hid hin
  have HT : Hid (doneT ps ⟨kk, n⟩ = if kk % 5 < 3 ∧ P = false then (ps, 5) else if kk % 5 < 2 ∧ R = false then (ps, 1) else if kk % 5 < 2 then (putT ps n, 0) else if kk % 5 = 2 then (ensureT ps n.path, 0) else if P = false ∧ (kk % 5 = 3 ∨ n.path ≠ []) then (ps, 0) else (dropT ps n.path (decide (kk % 5 = 3)), (ps.length : Int) - ((dropT ps n.path (decide (kk % 5 = 3))).length : Int))) := Lib.hid (by
    rw [← hP, ← hR]
    rfl)
  clear hP hR hd hS hin hkd
  go_enter Tryz.func11, Tryz.ntmps11
  go_wp2_with fail
  refine HM.out.mono ?_
  rintro e w1 ⟨rfl, o1⟩
  have HI1 := Lib.hid (HI.out.only o1 fun f => f)
  have HO1 := Lib.hid (HFR.out.trans o1)
  have HS1 := Lib.hid (HSS.out.new o1)
  clear HM HI HFR HSS o1 hw0 hX y0 y1 y2 y3 y4
  have z0 := HI1.out.cell 0 rfl
  obtain ⟨K, hK⟩ : ∃ K, kk % 5 = K := ⟨_, rfl⟩
  have hK2 : (kk : Int) % 5 = (K : Int) := by omega
  have hK5 : K < 5 := by omega
  rw [hK] at HT
  clear hK
  by_cases hK1 : K < 2
  · have k1 : (K : Int) < 3 := by omega
    have k2 : (K : Int) < 2 := by omega
    cases P with
    | false =>
      have HA : Hid (doneT ps ⟨kk, n⟩ = (ps, 5)) := Lib.hid (by rw [HT.out, if_pos ⟨by omega, rfl⟩])
      clear HT
      go_wp2
      go_ret2
      rw [HA.out]
      exact ⟨A, c, _, by rw [hk]; rfl, HS1.out, by rw [hk]; exact hc, HO1.out, fun j hj => .inl hj⟩
    | true =>
      cases R with
      | false =>
        have HA : Hid (doneT ps ⟨kk, n⟩ = (ps, 1)) := Lib.hid (by rw [HT.out, if_neg (fun h => by cases h.2), if_pos ⟨hK1, rfl⟩])
        clear HT
        go_wp2
        go_ret2
        rw [HA.out]
        exact ⟨A, c, _, by rw [hk]; rfl, HS1.out, by rw [hk]; exact hc, HO1.out, fun j hj => .inl hj⟩
      | true =>
        have HA : Hid (doneT ps ⟨kk, n⟩ = (putT ps n, 0)) := Lib.hid (by rw [HT.out, if_neg (fun h => by cases h.2), if_neg (fun h => by cases h.2), if_pos hK1])
        clear HT
        have y0 := HI1.out.cell 1 rfl
        have y1 := HI1.out.cell 2 rfl
        have y2 := HI1.out.cell 3 rfl
        have y3 := HI1.out.cell 4 rfl
        have y4 := HI1.out.cell 5 rfl
        have HC := Lib.hid (rput A k c _ ps n w1 HS1.out hk (by omega) HIN.out hc hn)
        go_wp2_with fail
        refine HC.out.mono ?_
        intro e w6 h6
        obtain ⟨A6, c6, B6, rfl, s1, s2, s3, s4⟩ := SeeP.from (A0 := A) h6 HO1.out fun j hj => .inl hj
        have HF := Lib.hid (And.intro s1 (And.intro s2 (And.intro s3 s4)))
        clear h6 s1 s2 s3 s4 HC
        go_wp2
        go_ret2
        rw [HA.out]
        exact ⟨A6, c6, B6, rfl, HF.out⟩
  by_cases hK3 : K = 2
  · subst hK3
    replace hK2 : (kk : Int) % 5 = 2 := hK2
    cases P with
    | false =>
      have HA : Hid (doneT ps ⟨kk, n⟩ = (ps, 5)) := Lib.hid (by rw [HT.out, if_pos ⟨by decide, rfl⟩])
      clear HT
      go_wp2
      go_ret2
      rw [HA.out]
      exact ⟨A, c, _, by rw [hk]; rfl, HS1.out, by rw [hk]; exact hc, HO1.out, fun j hj => .inl hj⟩
    | true =>
      have HA : Hid (doneT ps ⟨kk, n⟩ = (ensureT ps n.path, 0)) := Lib.hid (by rw [HT.out, if_neg (fun h => by cases h.2), if_neg (fun h => absurd h.1 (by decide)), if_neg (by decide), if_pos rfl])
      clear HT
      have y0 := HI1.out.cell 1 rfl
      have HC := Lib.hid (rensure _ n.path A k c _ ps w1 (Nat.lt_succ_self _) h2 HS1.out hk (by omega) HIN.out hc)
      go_wp2_with fail
      refine HC.out.mono ?_
      intro e w6 h6
      obtain ⟨A6, c6, B6, rfl, s1, s2, s3, s4⟩ := SeeP.from (A0 := A) h6 HO1.out fun j hj => .inl hj
      have HF := Lib.hid (And.intro s1 (And.intro s2 (And.intro s3 s4)))
      clear h6 s1 s2 s3 s4 HC
      go_wp2
      go_ret2
      rw [HA.out]
      exact ⟨A6, c6, B6, rfl, HF.out⟩
  by_cases hK4 : K = 3
  · subst hK4
    replace hK2 : (kk : Int) % 5 = 3 := hK2
    cases P with
    | false =>
      have HA : Hid (doneT ps ⟨kk, n⟩ = (ps, 0)) := Lib.hid (by rw [HT.out, if_neg (fun h => absurd h.1 (by decide)), if_neg (fun h => absurd h.1 (by decide)), if_neg (by decide), if_neg (by decide), if_pos ⟨rfl, .inl rfl⟩])
      clear HT
      go_wp2
      go_ret2
      rw [HA.out]
      exact ⟨A, c, _, by rw [hk]; rfl, HS1.out, by rw [hk]; exact hc, HO1.out, fun j hj => .inl hj⟩
    | true =>
      have HA : Hid (doneT ps ⟨kk, n⟩ = (dropT ps n.path true, (ps.length : Int) - ((dropT ps n.path true).length : Int))) := Lib.hid (by rw [HT.out, if_neg (fun h => by cases h.2), if_neg (fun h => absurd h.1 (by decide)), if_neg (by decide), if_neg (by decide), if_neg (fun h => by cases h.1)]; rfl)
      clear HT
      have y0 := HI1.out.cell 1 rfl
      have HC := Lib.hid (rdrop A k c _ ps n.path true w1 HS1.out hk ⟨by omega, HIN.out⟩ h2)
      have hdl := dropT_len ps n.path true
      generalize dropT ps n.path true = T at HA HC hdl
      obtain ⟨t, ht⟩ : ∃ t, T.length = t := ⟨_, rfl⟩
      rw [hk, ht] at hdl HA
      have HTT := Lib.hid ht
      go_wp2_with fail
      refine HC.out.mono ?_
      intro e w6 h6
      obtain ⟨A6, c6, B6, rfl, s1, s2, s3, s4⟩ := SeeP.from (A0 := A) (NdsP.see (A0 := A) h6) HO1.out fun j hj => .inl hj
      have HF := Lib.hid (And.intro s1 (And.intro s2 (And.intro s3 s4)))
      clear h6 s1 s2 s3 s4 HC
      rw [ht]
      clear ht
      go_wp2
      go_ret2
      rw [HA.out]
      exact ⟨A6, c6, B6, by rw [HTT.out]; rfl, HF.out⟩
  obtain rfl : K = 4 := by omega
  replace hK2 : (kk : Int) % 5 = 4 := hK2
  cases P with
  | false =>
    by_cases hp0 : n.path = []
    · have HA : Hid (doneT ps ⟨kk, n⟩ = (dropT ps n.path false, (ps.length : Int) - ((dropT ps n.path false).length : Int))) := Lib.hid (by rw [HT.out, if_neg (fun h => absurd h.1 (by decide)), if_neg (fun h => absurd h.1 (by decide)), if_neg (by decide), if_neg (by decide), if_neg (fun h => h.2.elim (by decide) fun g => g hp0)]; rfl)
      have q0 : n.path.isEmpty = true := by rw [hp0]; rfl
      have q1 := tx_toList n.path
      clear hp0
      clear HT
      have y0 := HI1.out.cell 1 rfl
      have HC := Lib.hid (rdrop A k c _ ps n.path false w1 HS1.out hk ⟨by omega, HIN.out⟩ h2)
      have hdl := dropT_len ps n.path false
      generalize dropT ps n.path false = T at HA HC hdl
      obtain ⟨t, ht⟩ : ∃ t, T.length = t := ⟨_, rfl⟩
      rw [hk, ht] at hdl HA
      have HTT := Lib.hid ht
      go_wp2_with fail
      refine HC.out.mono ?_
      intro e w6 h6
      obtain ⟨A6, c6, B6, rfl, s1, s2, s3, s4⟩ := SeeP.from (A0 := A) (NdsP.see (A0 := A) h6) HO1.out fun j hj => .inl hj
      have HF := Lib.hid (And.intro s1 (And.intro s2 (And.intro s3 s4)))
      clear h6 s1 s2 s3 s4 HC
      rw [ht]
      clear ht
      go_wp2
      go_ret2
      rw [HA.out]
      exact ⟨A6, c6, B6, by rw [HTT.out]; rfl, HF.out⟩
    · have HA : Hid (doneT ps ⟨kk, n⟩ = (ps, 0)) := Lib.hid (by rw [HT.out, if_neg (fun h => absurd h.1 (by decide)), if_neg (fun h => absurd h.1 (by decide)), if_neg (by decide), if_neg (by decide), if_pos ⟨rfl, .inr hp0⟩])
      have q0 : n.path.isEmpty = false := by rw [List.isEmpty_eq_false_iff]; exact hp0
      have q1 := tx_toList n.path
      have y0 := HI1.out.cell 1 rfl
      clear hp0
      clear HT
      go_wp2
      go_ret2
      rw [HA.out]
      exact ⟨A, c, _, by rw [hk]; rfl, HS1.out, by rw [hk]; exact hc, HO1.out, fun j hj => .inl hj⟩
  | true =>
    have HA : Hid (doneT ps ⟨kk, n⟩ = (dropT ps n.path false, (ps.length : Int) - ((dropT ps n.path false).length : Int))) := Lib.hid (by rw [HT.out, if_neg (fun h => by cases h.2), if_neg (fun h => absurd h.1 (by decide)), if_neg (by decide), if_neg (by decide), if_neg (fun h => by cases h.1)]; rfl)
    clear HT
    have y0 := HI1.out.cell 1 rfl
    have HC := Lib.hid (rdrop A k c _ ps n.path false w1 HS1.out hk ⟨by omega, HIN.out⟩ h2)
    have hdl := dropT_len ps n.path false
    generalize dropT ps n.path false = T at HA HC hdl
    obtain ⟨t, ht⟩ : ∃ t, T.length = t := ⟨_, rfl⟩
    rw [hk, ht] at hdl HA
    have HTT := Lib.hid ht
    go_wp2_with fail
    refine HC.out.mono ?_
    intro e w6 h6
    obtain ⟨A6, c6, B6, rfl, s1, s2, s3, s4⟩ := SeeP.from (A0 := A) (NdsP.see (A0 := A) h6) HO1.out fun j hj => .inl hj
    have HF := Lib.hid (And.intro s1 (And.intro s2 (And.intro s3 s4)))
    clear h6 s1 s2 s3 s4 HC
    rw [ht]
    clear ht
    go_wp2
    go_ret2
    rw [HA.out]
    exact ⟨A6, c6, B6, by rw [HTT.out]; rfl, HF.out⟩
end Go.Proofs.YtaeaomlhbdbbfaaGreatDoor
