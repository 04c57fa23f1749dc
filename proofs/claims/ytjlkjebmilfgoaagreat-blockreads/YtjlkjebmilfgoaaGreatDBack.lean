/- Layer 8, the document: a length's symbol, and what is behind it. -/
import Derived.Test.YtjlkjebmilfgoaaGreatDP
import Derived.Test.YtjlkjebmilfgoaaGreatIA
namespace Go.Proofs.YtjlkjebmilfgoaaGreat
open Go.RowKit

def DoneR (p : RP) (w : World) (A : Option Addr) (kv : Value) (r : Ans) (e : Ending) (w' : World) : Prop :=
  e = .returned (.int .i64 r.1) ∧ Only (MineR p.r A) w w' ∧ (r.1 = 0 → ∃ A' c', Rf p w' r.2.1 A' r.2.2.length c' kv r.2.2 ∧ ∀ j, Lies A' j → Lies A j ∨ w.heap.size ≤ j)

section
variable {p : RP} {w w' wx w2 : World} {a n c c2 m : Nat} {A A2 : Option Addr} {kv : Value} {out r : List UInt8}
theorem Rf.append (h : Rf p wx a A n c kv out) (hr : Row 5 w2 A2 (n + m) c2 (bcells (out ++ r))) (hl : r.length = m) (ho : Only (Lies A) wx w2) (ha : A2 = A ∨ A2 = some ⟨wx.heap.size, 0, none⟩) :
    Rf p (w2.setCell ⟨p.r, 2, none⟩ (.slice A2 (n + m) c2)) a A2 (n + m) c2 kv (out ++ r) ∧ Only (MineR p.r A) wx (w2.setCell ⟨p.r, 2, none⟩ (.slice A2 (n + m) c2)) ∧ ∀ j, Lies A2 j → Lies A j ∨ wx.heap.size ≤ j := by
  have hlies : ∀ j, Lies A2 j → Lies A j ∨ wx.heap.size ≤ j := by
    intro j hj
    rcases ha with e | e
    · exact .inl (e ▸ hj)
    · obtain ⟨ad, e1, e2⟩ := hj
      rw [e] at e1
      obtain rfl := Option.some.inj e1
      exact .inr (Nat.le_of_eq e2)
  have hrl := h.is.lt
  have hnr : ¬ Lies A p.r := fun e => Nat.lt_irrefl _ (h.an _ e)
  have han : ∀ j, Lies A2 j → p.r < j := fun j hj => (hlies j hj).elim (h.an j) fun x => by omega
  have ow := Only.one w2 p.r 2 (.slice A2 (n + m) c2)
  refine ⟨⟨(h.is.only ho hnr).set 2 _, ?_, hr.only ow (fun j hj e => by have := han j hj; omega), by rw [List.length_append, h.len, hl], han⟩, ?_, hlies⟩
  · exact (h.bits.keep (ho.mono fun j hj => Nat.le_of_lt (h.an j hj))).keep (ow.mono fun j hj => Nat.le_of_eq hj.symm)
  · exact (ho.mono fun j hj => .inr hj).trans (ow.mono fun j hj => .inl hj)
end

def CopR (p : RP) (w : World) (A : Option Addr) (kv : Value) (a3 far n k : Nat) (out : List UInt8) (wx : World) : Prop :=
  ∃ A' c', Rf p wx a3 A' (n + k) c' kv (copyF far k out) ∧ Only (MineR p.r A) w wx ∧ ∀ j, Lies A' j → Lies A j ∨ w.heap.size ≤ j

set_option maxRecDepth 100000 in
set_option maxHeartbeats 8000000 in
theorem dback (p : RP) (hp : RB p) (a : Nat) (A : Option Addr) (n c : Nat) (kv : Value) (out : List UInt8) (Al : Option Addr) (nl cl Bd : Nat) (l : List Nat) (y : Nat) (w : World) (h : Rf p w a A n c kv out) (ha : a ≤ p.nB) (hl : See w Bd Al (ints l)) (hlr : ∀ j, Lies Al j → j ≠ p.r) (hnl : l.length = nl) (hL : Lens l) (hk : (kd l).2 = 0)
    (hn : n ≤ 100000) (hmost : p.most ≤ 100000) (hy1 : 257 ≤ y) (hy2 : y ≤ 1000) :
    Calls Tryz.prog 98 #[.pointer (some ⟨p.r, 0, none⟩), .int .i64 y, .slice Al nl cl] w (DoneR p w A kv (mBack p.B l p.most y a out)) := by
  obtain ⟨R, hR⟩ : ∃ R, mBack p.B l p.most y a out = R := ⟨_, rfl⟩
  rw [hR]
  unfold mBack at hR
  have hlen := h.len
  rw [hlen] at hR
  have hle := hp.le
  have hpl := hp.len
  by_cases hy : 285 < y
  · have hm : mLen p.B y a = (2, a, 0) := by unfold mLen; rw [if_pos hy]
    rw [hm, if_pos (by simp)] at hR
    have HR := Lib.hid hR
    have hyi : (285 : Int) < (y : Int) := by omega
    clear h hp hl hlr hL hk hR hm
    go_enter Tryz.func98, Tryz.ntmps98
    go_wp2
    go_ret
    rw [← HR.out]
    exact ⟨rfl, Only.refl _ _, fun h => by cases h⟩
  · have hyi : ¬ (285 : Int) < (y : Int) := by omega
    have hm : mLen p.B y a = if p.nB < a + lw y then (3, a, 0) else (0, a + lw y, lv y + nm p.B a (lw y)) := by unfold mLen; rw [if_neg hy, hpl]
    have hw5 : lw y ≤ 5 ∧ lv y ≤ 258 := by
      have e1 : ∀ t : Fin 29, lv (257 + t.val) ≤ 258 ∧ lw (257 + t.val) ≤ 5 := by decide +kernel
      have e2 := e1 ⟨y - 257, by omega⟩
      rw [show 257 + (y - 257) = y from by omega] at e2
      exact ⟨e2.2, e2.1⟩
    have HB1 := Lib.hid (fun w => dlengthBits y w hy1 (by omega))
    have HN1 : Hid (∀ w2, Only (fun _ => False) w w2 → Calls Tryz.prog 65 #[.pointer (some ⟨p.r, 0, none⟩), .int .i64 (lw y : Nat)] w2 (DVal p w2 A n c kv out (mNum p.B a (lw y)))) := Lib.hid fun w2 ho => dbits p hp a (lw y) A n c kv out w2 (h.new ho) ha (by omega)
    unfold mNum at HN1
    rw [hpl] at HN1
    have hnm := nm_lt p.B a (lw y)
    have hp5 : 2 ^ lw y ≤ 2 ^ 5 := Nat.pow_le_pow_right (by decide) hw5.1
    by_cases hend : p.nB < a + lw y
    · rw [if_pos hend] at hm HN1
      rw [hm, if_pos (by simp)] at hR
      have HR := Lib.hid hR
      obtain ⟨v, hv⟩ : ∃ v, lw y = v := ⟨_, rfl⟩
      rw [hv] at HB1 HN1
      clear h hp hl hlr hL hk hR hm hnm hp5 hw5 hend hv
      go_enter Tryz.func98, Tryz.ntmps98
      go_wp2_with fail
      refine (HB1.out w).mono ?_
      rintro e w1 ⟨rfl, ho1⟩
      have HO1 := Lib.hid ho1
      clear ho1
      go_wp2_with fail
      refine (HN1.out w1 HO1.out).mono ?_
      rintro e w2 ⟨rfl, ho2, _⟩
      have HO2 : Hid (Only (MineR p.r A) w w2) := Lib.hid ((HO1.out.mono fun _ f => f.elim).trans (ho2.mono fun _ e => .inl e))
      clear ho2
      go_wp2
      go_ret
      rw [← HR.out]
      exact ⟨rfl, HO2.out, fun h => by cases h⟩
    · rw [if_neg hend] at hm HN1
      rw [hm, if_neg (by simp)] at hR
      simp only at hR
      obtain ⟨x, hx⟩ : ∃ x, nm p.B a (lw y) = x := ⟨_, rfl⟩
      rw [hx] at hR HN1 hnm
      obtain ⟨N, hN⟩ : ∃ N, lv y + x = N := ⟨_, rfl⟩
      rw [hN] at hR
      have hNb : N ≤ 1000 := by omega
      have ha2 : a + lw y ≤ p.nB := by omega
      -- what LengthOf says
      have HLO : Hid (y < 285 → (y = 284 ∧ x = 31 ∧ N = 258) ∨ (¬ (y = 284 ∧ x = 31) ∧ LofIs y x (N : Nat) true)) := Lib.hid fun hlt => by
        obtain ⟨t, rfl⟩ : ∃ t, y = 257 + t := ⟨y - 257, by omega⟩
        have e1 : lw (257 + t) = lb t := by unfold lw; rw [if_neg (by omega), Nat.add_sub_cancel_left]
        have e2 : lv (257 + t) = lf t := by unfold lv; rw [if_neg (by omega), Nat.add_sub_cancel_left]
        rw [e1] at hnm
        rw [e2] at hN
        have ht : t < 28 := by omega
        rcases lrow_top ⟨t, ht⟩ with h5 | ⟨h5, h6, h7⟩
        · simp only at h5
          refine .inr ⟨fun ⟨q1, q2⟩ => ?_, ?_⟩
          · have ht27 : t = 27 := by omega
            subst ht27
            have q3 : lf 27 = 227 := by decide +kernel
            have q4 : lb 27 = 5 := by decide +kernel
            rw [q3, q4] at h5
            omega
          · rw [← hN]
            exact LofIs.row t x ht hnm (by omega)
        · simp only at h5 h6 h7
          subst h5
          rw [h6] at hN
          rw [h7] at hnm
          by_cases h31 : x = 31
          · exact .inl ⟨by omega, h31, by omega⟩
          · refine .inr ⟨fun q => h31 q.2, ?_⟩
            have := LofIs.row 27 x (by decide) (by rw [h7]; exact hnm) (by rw [h6]; omega)
            rw [h6, hN] at this
            exact this
      have H285 : Hid (y = 285 → N = 258) := Lib.hid fun e => by
        subst e
        have e1 : lw 285 = 0 := rfl
        have e2 : lv 285 = 258 := rfl
        rw [e1] at hnm
        rw [e2] at hN
        omega
      obtain ⟨a2, ha2e⟩ : ∃ a2, a + lw y = a2 := ⟨_, rfl⟩
      rw [ha2e] at HN1 hR ha2
      have HSY : Hid (∀ w2, Only (· = p.r) w w2 → Rf p w2 a2 A n c kv out → Calls Tryz.prog 97 #[.pointer (some ⟨p.r, 0, none⟩), .slice Al nl cl] w2 (DSym p w2 A n c kv out (rdp l p.B a2))) := Lib.hid fun w2 ho h2 => dsymbol p hp a2 A n c kv out Al nl cl Bd l w2 h2 ha2 (hl.off ho fun j hj e => hlr j hj e) hnl hL hk
      have hmv := rdp_moves l p.B a2
      rw [hpl] at hmv
      have hmd := mDist_ok p.B l a2
      obtain ⟨⟨x5, a5, far⟩, hD⟩ : ∃ q, mDist p.B l a2 = q := ⟨_, rfl⟩
      rw [hD] at hR hmd
      simp only at hR hmd
      unfold mDist at hD
      obtain ⟨⟨y2, a3, x2⟩, hq⟩ : ∃ q, rdp l p.B a2 = q := ⟨_, rfl⟩
      rw [hq] at HSY hmv hD
      simp only at hmv hD
      rw [hpl] at hD hmd
      have HDD := Lib.hid hD
      obtain ⟨v, hv⟩ : ∃ v, lw y = v := ⟨_, rfl⟩
      rw [hv] at HB1 HN1
      have HR := Lib.hid hR
      have HMV := Lib.hid hmv
      have HMD := Lib.hid hmd
      have HPP := Lib.hid hp
      have HL := Lib.hid hlen
      clear h hp hl hlr hL hk hR hm hnm hp5 hw5 hend hv hq hmv hmd hx hN ha2e hD
      go_enter Tryz.func98, Tryz.ntmps98
      go_wp2_with fail
      refine (HB1.out w).mono ?_
      rintro e w1 ⟨rfl, ho1⟩
      have HO1 := Lib.hid ho1
      clear ho1 HB1
      go_wp2_with fail
      refine (HN1.out w1 HO1.out).mono ?_
      rintro e w2 ⟨rfl, ho2, hr2⟩
      have HO2 : Hid (Only (· = p.r) w w2) := Lib.hid ((HO1.out.mono fun _ f => f.elim).trans ho2)
      have HR2 := Lib.hid (hr2 rfl)
      clear ho2 hr2 HN1 HO1
      go_upto_if 30 with fail
      go_cut [9] (fun u wx => u = .int .i64 (N : Nat) ∧ Hid (Rf p wx a2 A n c kv out) ∧ Hid (Only (· = p.r) w wx))
      case first =>
        by_cases h285 : y = 285
        · have e := H285.out h285
          subst h285
          subst e
          go_wp2_with fail
          go_meet
          exact ⟨rfl, HR2, HO2⟩
        · have hlt : (y : Int) < 285 := by omega
          rcases HLO.out (by omega) with ⟨q1, q2, q3⟩ | ⟨q1, q2⟩
          · subst q1
            subst q2
            subst q3
            have HLF := Lib.hid (rlengthOf 284 31 0 false w2 .row284)
            go_wp2_with fail
            refine HLF.out.mono ?_
            rintro e w3 ⟨rfl, ho3⟩
            have HR3 := Lib.hid (HR2.out.new ho3)
            have HO3 : Hid (Only (· = p.r) w w3) := Lib.hid (HO2.out.trans (ho3.mono fun _ f => f.elim))
            clear ho3
            go_wp2_with fail
            go_meet
            exact ⟨rfl, HR3, HO3⟩
          · have HLF := Lib.hid (rlengthOf y x (N : Nat) true w2 q2)
            clear q2
            by_cases h284 : y = 284
            · have h31 : ¬ x = 31 := fun e => q1 ⟨h284, e⟩
              have k1 : ((x : Int) == 31) = false := by simp; omega
              have k2 : ¬ (x : Int) = 31 := by omega
              have k3 : decide ((x : Int) = 31) = false := by simp; omega
              subst h284
              go_wp2_with fail
              refine HLF.out.mono ?_
              rintro e w3 ⟨rfl, ho3⟩
              have HR3 := Lib.hid (HR2.out.new ho3)
              have HO3 : Hid (Only (· = p.r) w w3) := Lib.hid (HO2.out.trans (ho3.mono fun _ f => f.elim))
              clear ho3
              go_wp2_with fail
              go_meet
              exact ⟨rfl, HR3, HO3⟩
            · have k1 : ((y : Int) == 284) = false := by simp; omega
              have k2 : ¬ (y : Int) = 284 := by omega
              have k3 : decide ((y : Int) = 284) = false := by simp; omega
              go_wp2_with fail
              refine HLF.out.mono ?_
              rintro e w3 ⟨rfl, ho3⟩
              have HR3 := Lib.hid (HR2.out.new ho3)
              have HO3 : Hid (Only (· = p.r) w w3) := Lib.hid (HO2.out.trans (ho3.mono fun _ f => f.elim))
              clear ho3
              go_wp2_with fail
              go_meet
              exact ⟨rfl, HR3, HO3⟩
      case rest =>
        obtain ⟨rfl, HR3, HO3⟩ := hcut
        clear HR2 HO2 HLO H285
        go_wp2_with fail
        refine (HSY.out wc HO3.out HR3.out).mono ?_
        rintro e w4 ⟨rfl, ho4, hr4⟩
        have HR4 := Lib.hid hr4
        have HO4 : Hid (Only (· = p.r) w w4) := Lib.hid (HO3.out.trans ho4)
        clear ho4 hr4 HSY HR3 HO3
        have hD := HDD.out
        have hR := HR.out
        by_cases hx2 : x2 = 0
        · subst hx2
          rw [if_neg (show ¬ ((0 : Nat) ≠ 0) from by simp)] at hD
          obtain ⟨m1, m2⟩ := HMV.out rfl
          by_cases h29 : 29 < y2
          · rw [if_pos h29] at hD
            obtain ⟨rfl, rfl, rfl⟩ : 2 = x5 ∧ a2 = a5 ∧ 0 = far := by simpa using hD
            rw [if_pos (by simp)] at hR
            have HRR := Lib.hid hR
            have h29i : (29 : Int) < (y2 : Int) := by omega
            clear hR hD HR HDD HMV HMD
            go_wp2
            go_ret
            rw [← HRR.out]
            exact ⟨rfl, HO4.out.mono fun _ e => .inl e, fun h => by cases h⟩
          · rw [if_neg h29] at hD
            have h29i : ¬ (29 : Int) < (y2 : Int) := by omega
            have hyt : y2 < 30 := by omega
            have hdb : db y2 ≤ 13 := by unfold db; split <;> omega
            have HB2 := Lib.hid (fun w => ddistBits y2 w hyt)
            have HN2 : Hid (∀ w5, Only (fun _ => False) w4 w5 → Calls Tryz.prog 65 #[.pointer (some ⟨p.r, 0, none⟩), .int .i64 (db y2 : Nat)] w5 (DVal p w5 A n c kv out (mNum p.B a3 (db y2)))) := Lib.hid fun w5 ho => dbits p HPP.out a3 (db y2) A n c kv out w5 (HR4.out.new ho) m2 (by omega)
            unfold mNum at HN2
            rw [hpl] at HN2
            by_cases hend2 : p.nB < a3 + db y2
            · rw [if_pos hend2] at hD HN2
              obtain ⟨rfl, rfl, rfl⟩ : 3 = x5 ∧ a2 = a5 ∧ 0 = far := by simpa using hD
              rw [if_pos (by simp)] at hR
              have HRR := Lib.hid hR
              obtain ⟨v2, hv2⟩ : ∃ v, db y2 = v := ⟨_, rfl⟩
              rw [hv2] at HB2 HN2
              clear hR hD HR HDD HMV HMD hend2 hv2 hdb
              go_wp2_with fail
              refine (HB2.out w4).mono ?_
              rintro e w5 ⟨rfl, ho5⟩
              have HO5 := Lib.hid ho5
              clear ho5 HB2
              go_wp2_with fail
              refine (HN2.out w5 HO5.out).mono ?_
              rintro e w6 ⟨rfl, ho6, _⟩
              have HO6 : Hid (Only (MineR p.r A) w w6) := Lib.hid (((HO4.out.trans (HO5.out.mono fun _ f => f.elim)).trans ho6).mono fun _ e => .inl e)
              clear ho6 HN2
              go_wp2
              go_ret
              rw [← HRR.out]
              exact ⟨rfl, HO6.out, fun h => by cases h⟩
            · rw [if_neg hend2] at hD HN2
              have hnm2 := nm_lt p.B a3 (db y2)
              obtain ⟨x6, hx6⟩ : ∃ x, nm p.B a3 (db y2) = x := ⟨_, rfl⟩
              rw [hx6] at hD HN2 hnm2
              obtain ⟨rfl, rfl, hfar⟩ : 0 = x5 ∧ a3 + db y2 = a5 ∧ df y2 + x6 = far := by simpa using hD
              rw [if_neg (by simp)] at hR
              obtain ⟨k1, k2, k3, k4⟩ := HMD.out rfl
              have HDO : Hid (∀ w, Calls Tryz.prog 119 #[.int .i64 y2, .int .i64 x6] w (TwoPost w (far : Nat) true)) := Lib.hid fun w => by
                rw [← hfar]
                exact rdistanceOf y2 x6 _ true w (DofIs.row y2 x6 hyt hnm2)
              obtain ⟨a6, ha6⟩ : ∃ a6, a3 + db y2 = a6 := ⟨_, rfl⟩
              rw [ha6] at hR HN2
              obtain ⟨v2, hv2⟩ : ∃ v, db y2 = v := ⟨_, rfl⟩
              rw [hv2] at HB2 HN2
              have HRR := Lib.hid hR
              clear hR hD HR HDD HMV HMD hend2 hv2 hdb hx6 hnm2 hfar ha6 k1 k2
              go_wp2_with fail
              refine (HB2.out w4).mono ?_
              rintro e w5 ⟨rfl, ho5⟩
              have HO5 := Lib.hid ho5
              clear ho5 HB2
              go_wp2_with fail
              refine (HN2.out w5 HO5.out).mono ?_
              rintro e w6 ⟨rfl, ho6, hr6⟩
              have HO6 : Hid (Only (· = p.r) w w6) := Lib.hid ((HO4.out.trans (HO5.out.mono fun _ f => f.elim)).trans ho6)
              have HR6 := Lib.hid (hr6 rfl)
              clear ho6 hr6 HN2 HO5 HR4 HO4
              go_wp2_with fail
              refine (HDO.out w6).mono ?_
              rintro e w7 ⟨rfl, ho7⟩
              have HO7 : Hid (Only (· = p.r) w w7) := Lib.hid (HO6.out.trans (ho7.mono fun _ f => f.elim))
              have HR7 := Lib.hid (HR6.out.new ho7)
              have d2 := HR7.out.is.cell 2 rfl
              have d3 := HR7.out.is.cell 3 rfl
              clear ho7 HDO HO6 HR6
              have hR := HRR.out
              by_cases hfr : n < far
              · rw [if_pos hfr] at hR
                have hfi : (n : Int) < (far : Int) := by omega
                have HRX := Lib.hid hR
                clear hR
                go_wp2
                go_ret
                rw [← HRX.out]
                exact ⟨rfl, HO7.out.mono fun _ e => .inl e, fun h => by cases h⟩
              · rw [if_neg hfr] at hR
                have hfi : ¬ (n : Int) < (far : Int) := by omega
                have ew : IntKind.i64.wrap ((n : Int) + (N : Int)) = (n : Int) + (N : Int) := IntWalk.i64_in _ (by omega)
                by_cases hroom : p.most < (n : Int) + N
                · rw [if_pos hroom] at hR
                  have HRX := Lib.hid hR
                  clear hR
                  go_wp2_with fail
                  go_quiet (fail)
                  go_wp2
                  go_ret
                  rw [← HRX.out]
                  exact ⟨rfl, (HO7.out.mono fun _ e => .inl e).drewN _, fun h => by cases h⟩
                · rw [if_neg hroom] at hR
                  have HRX := Lib.hid hR
                  have HNN : Hid (n + N ≤ 100000) := Lib.hid (by omega)
                  have HDN : Hid (∀ wx, CopR p w A kv a6 far n N out wx → DoneR p w A kv (0, a6, copyF far N out) (.returned (.int .i64 0)) wx) := Lib.hid fun wx hc => by
                    obtain ⟨A', c', g1, g3, g4⟩ := hc
                    refine ⟨rfl, g3, fun _ => ⟨A', c', ?_, g4⟩⟩
                    rw [copyF_length, HL.out]
                    exact g1
                  clear hR HRR
                  go_wp2_with fail
                  go_quiet (fail)
                  have HC : Hid (CopR p w A kv a6 far n 0 out (w7.drewN nq)) := Lib.hid ⟨A, c, HR7.out.new ((Only.refl _ w7).drewN nq), (HO7.out.mono fun _ e => .inl e).drewN nq, fun j hj => .inl hj⟩
                  clear HR7 HO7 d2 d3
                  go_wp2_with fail
                  go_loopg [16] N (fun gk v wx => ∃ k : Nat, v = .int .i64 k ∧ k + gk ≤ N ∧ N ≤ k + gk ∧ Hid (CopR p w A kv a6 far n k out wx))
                  case atStart => exact ⟨0, rfl, by omega, by omega, HC⟩
                  case round =>
                    clear HC
                    obtain ⟨k, rfl, hk, hk2, HC⟩ := hrel
                    by_cases hlt : k < N
                    · obtain ⟨A', c', g1, g3, g4⟩ := HC.out
                      have hl1 := copyF_length far k out
                      obtain ⟨L, hL⟩ : ∃ L, n + k = L := ⟨_, rfl⟩
                      rw [hL] at g1
                      have hsn := copyF_snoc far k out
                      have hl2 := g1.len
                      rw [hl2] at hsn
                      obtain ⟨g, e1, e2, _⟩ := g1.row.cell (bcells_at (copyF far k out) (L - far) (by omega))
                      subst e1
                      obtain ⟨yb, hyb⟩ : ∃ yb, (copyF far k out).getD (L - far) 0 = yb := ⟨_, rfl⟩
                      rw [hyb] at hsn e2
                      obtain ⟨z, hz⟩ : ∃ z, yb.toNat = z := ⟨_, rfl⟩
                      rw [hz] at e2
                      have d2 := g1.is.cell 2 rfl
                      have eI : (L : Int) - (far : Int) = ((L - far : Nat) : Int) := by omega
                      obtain ⟨i, hi⟩ : ∃ i, L - far = i := ⟨_, rfl⟩
                      have hiL : i < L := by omega
                      rw [hi] at eI e2
                      have eW : IntKind.i64.wrap (i : Int) = (i : Int) := IntWalk.i64_in _ (by omega)
                      have iL : (i : Int) < (L : Int) := by omega
                      have i0 : 0 ≤ (i : Int) := by omega
                      obtain ⟨wy, hwy⟩ : ∃ wy, wr.drew.alloc (.cells #[.int .u8 (z : Nat)] 5) = wy := ⟨_, rfl⟩
                      have hoy : Only (fun _ => False) wr wy := by rw [← hwy]; exact ((Only.refl _ wr).drew).alloc _
                      have hS := Src.oneInt Tryz.underlying34 wr.drew .u8 z 1 5
                      rw [hwy] at hS
                      have gy := g1.new hoy
                      have FIN : Hid (∀ A9 c9 w9, Row 5 w9 A9 (L + 1) c9 (bcells (copyF far k out) ++ [.int .u8 (z : Nat)]) → Only (Lies (some ⟨g, 0, none⟩)) wy w9 → (A9 = some ⟨g, 0, none⟩ ∨ A9 = some ⟨wy.heap.size, 0, none⟩) →
                          CopR p w A kv a6 far n (k + 1) out (w9.setCell ⟨p.r, 2, none⟩ (.slice A9 (L + 1) c9)) ∧ w9.cell? ⟨p.r, 2, none⟩ = some (.slice (some ⟨g, 0, none⟩) L c') ∧ w9.frozen? ⟨p.r, 2, none⟩ = false) := Lib.hid fun A9 c9 w9 r1 r2 r3 => by
                        rw [← hz, bcells_snoc] at r1
                        obtain ⟨f1, f2, f3⟩ := gy.append r1 rfl r2 r3
                        have i9 := gy.is.only r2 (fun e => Nat.lt_irrefl _ (gy.an _ e))
                        refine ⟨⟨A9, c9, ?_, ?_, fun j hj => ?_⟩, i9.cell 2 rfl, i9.frozen 2⟩
                        · rw [hsn, show n + (k + 1) = L + 1 from by omega]
                          exact f1
                        · refine (g3.trans (hoy.mono fun _ f => f.elim)).andThen f2 ?_
                          rintro j (e | e)
                          · exact .inl (.inl e)
                          · exact (g4 j e).imp (fun x => .inr x) id
                        · rcases f3 j hj with e | e
                          · exact g4 j e
                          · exact .inr (Nat.le_trans (g3.trans (hoy.mono fun _ f => f.elim)).size e)
                      have HRW := Lib.hid gy.row
                      have d2y := gy.is.cell 2 rfl
                      have HS := Lib.hid hS
                      have B1 : (1 : Nat) ≤ 8 := by decide
                      have B2 : L + 1 ≤ 1099511627776 := by have := HNN.out; omega
                      clear g1 g3 g4 gy hsn hl1 hl2 hyb hz hS hoy
                      go_wp2_with fail
                      go_region_law (first
                        | (refine step_append_row (by rfl) (.tmp 98) (.tmp 112) 34 34 5 (by rfl) Tryz.underlying34 info5 (some ⟨g, 0, none⟩) L c' 1 (bcells (copyF far k out)) [.int .u8 (z : Nat)] (.slice (some ⟨wr.heap.size, 0, none⟩) 1 1) (by rfl) (by rfl) (by first | exact HRW.out | (rw [hwy]; exact HRW.out)) rfl (by first | exact HS.out | (rw [hwy]; exact HS.out)) B1 B2 ?_
                           intro A9 c9 w9 hrow9 honly9 hlies9
                           try rw [hwy] at honly9 hlies9
                           obtain ⟨H9, k1', k2'⟩ := FIN.out A9 c9 w9 hrow9 honly9 hlies9
                           have H9 := Lib.hid H9
                           clear hrow9 honly9 hlies9))
                      all_goals
                        go_wp2_with fail
                        go_roundg (gk - 1)
                        case measure => omega
                        case rel => exact ⟨k + 1, by go_num, by omega, by omega, H9⟩
                    · obtain rfl : k = N := by omega
                      have HF := Lib.hid (HDN.out wr HC.out)
                      clear HC HDN
                      go_wp2
                      go_ret
                      rw [← HRX.out]
                      exact HF.out
        · rw [if_pos hx2] at hD
          obtain ⟨rfl, rfl, rfl⟩ : x2 = x5 ∧ a2 = a5 ∧ 0 = far := by simpa using hD
          rw [if_pos hx2] at hR
          have HRR := Lib.hid hR
          have hxi : ¬ (x2 : Int) = 0 := by omega
          clear hR hD HR HDD HMV HMD
          go_wp2
          go_ret
          rw [← HRR.out]
          exact ⟨rfl, HO4.out.mono fun _ e => .inl e, fun h => absurd h hx2⟩
end Go.Proofs.YtjlkjebmilfgoaaGreat
