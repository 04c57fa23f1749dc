/- Layer 8, the document: lengths by the first code. -/
import Derived.Test.YtackcgiokkbhdaaDoorDBack
namespace Go.Proofs.YtackcgiokkbhdaaDoor
open Go.RowKit

/-- Where reading the lengths stands. -/
structure RAtD (p : RP) (w : World) (A : Option Addr) (n c : Nat) (kv : Value) (out : List UInt8) (a : Nat) (Ao : Option Addr) (z co : Nat) (o : List Nat) (wx : World) : Prop where
  rf : Rf p wx a A n c kv out
  row : Row 3 wx Ao z co (ints o)
  len : o.length = z
  only : Only (· = p.r) w wx
  lies : ∀ j, Lies Ao j → w.heap.size ≤ j
  rl : p.r < w.heap.size
  al : ∀ j, Lies A j → j < w.heap.size
section
variable {p : RP} {w wx wy : World} {A Ao A2 : Option Addr} {n c : Nat} {kv : Value} {out : List UInt8} {a a2 z co c2 m : Nat} {o r : List Nat}
theorem RAtD.read (h : RAtD p w A n c kv out a Ao z co o wx) (k : Only (· = p.r) wx wy) (hr : Rf p wy a2 A n c kv out) : RAtD p w A n c kv out a2 Ao z co o wy :=
  ⟨hr, h.row.only k (fun j hj e => by have := h.lies j hj; have := h.rl; omega), h.len, h.only.trans k, h.lies, h.rl, h.al⟩
theorem RAtD.new (h : RAtD p w A n c kv out a Ao z co o wx) (k : Only (fun _ => False) wx wy) : RAtD p w A n c kv out a Ao z co o wy :=
  ⟨h.rf.new k, h.row.only k (fun _ _ f => f), h.len, h.only.trans (k.mono fun _ f => f.elim), h.lies, h.rl, h.al⟩
theorem RAtD.more (h : RAtD p w A n c kv out a Ao z co o wx) (hr : Row 3 wy A2 (z + m) c2 (ints (o ++ r))) (hl : r.length = m) (ho : Only (Lies Ao) wx wy) (ha : ∀ j, Lies A2 j → Lies Ao j ∨ wx.heap.size ≤ j) : RAtD p w A n c kv out a A2 (z + m) c2 (o ++ r) wy := by
  have hsz := h.only.size
  have hrl := h.rl
  refine ⟨h.rf.keep ho (fun j hj e => by have := h.lies j e; omega) (fun j hj e => by have := h.lies j e; have := h.al j hj; omega), hr, by rw [List.length_append, h.len, hl], h.only.andThen ho fun j hj => .inr (h.lies j hj), fun j hj => (ha j hj).elim (h.lies j) (fun x => by omega), hrl, h.al⟩
end

def DRowPost (p : RP) (w : World) (A : Option Addr) (n c : Nat) (kv : Value) (out : List UInt8) (m : Nat) (r : Nat × Nat × List Nat) (e : Ending) (w' : World) : Prop := Only (· = p.r) w w' ∧
  if r.1 ≠ 0 then e = .returned (.tuple #[.slice none 0 0, .int .i64 r.1]) else ∃ Ao co, e = .returned (.tuple #[.slice Ao m co, .int .i64 0]) ∧ RAtD p w A n c kv out r.2.1 Ao m co r.2.2 w'

set_option maxRecDepth 100000 in
set_option maxHeartbeats 8000000 in
theorem drow_ (p : RP) (hp : RB p) (a : Nat) (A : Option Addr) (n c : Nat) (kv : Value) (out : List UInt8) (Al : Option Addr) (cl Bd : Nat) (l : List Nat) (m : Nat) (w : World) (h : Rf p w a A n c kv out) (ha : a ≤ p.nB) (hl : See w Bd Al (ints l)) (hlr : ∀ j, Lies Al j → j ≠ p.r) (hll : ∀ j, Lies Al j → j < w.heap.size)
    (h19 : l.length = 19) (hL : Lens l) (hk : (kd l).2 = 0) (hm1 : 1 ≤ m) (hm : m ≤ 400) :
    Calls Tryd.prog 45 #[.pointer (some ⟨p.r, 0, none⟩), .slice Al 19 cl, .int .i64 m] w (DRowPost p w A n c kv out m (mRow p.B l m m a [])) := by
  obtain ⟨R, hR⟩ : ∃ R, mRow p.B l m m a [] = R := ⟨_, rfl⟩
  rw [hR]
  have hple := hp.le
  have hpl := hp.len
  have H0 : Hid (RAtD p w A n c kv out a none 0 0 [] w) := Lib.hid ⟨h, Row.nil 3 w, rfl, Only.refl _ _, (by rintro j ⟨ad, e, _⟩; cases e), h.is.lt, h.row.lies⟩
  have HR := Lib.hid hR
  have HSY : Hid (∀ Ao z co o wx a', RAtD p w A n c kv out a' Ao z co o wx → a' ≤ p.nB → See wx Bd Al (ints l) → Calls Tryd.prog 46 #[.pointer (some ⟨p.r, 0, none⟩), .slice Al 19 cl] wx (DSym p wx A n c kv out (rdp l p.B a'))) := Lib.hid fun Ao z co o wx a' h' ha' hs' => dsymbol p hp a' A n c kv out Al 19 cl Bd l wx h'.rf ha' hs' h19 hL hk
  have HN : Hid (∀ v wx a', Rf p wx a' A n c kv out → a' ≤ p.nB → v ≤ 16 → Calls Tryd.prog 30 #[.pointer (some ⟨p.r, 0, none⟩), .int .i64 (v : Nat)] wx (DVal p wx A n c kv out (mNum p.B a' v))) := Lib.hid fun v wx a' h' ha' hv => dbits p hp a' v A n c kv out wx h' ha' hv
  unfold mNum at HN
  rw [hpl] at HN
  have HSE : Hid (See w Bd Al (ints l)) := Lib.hid hl
  have HLR := Lib.hid hlr
  have HLL := Lib.hid hll
  have h19' : l.length ≤ 19 := by omega
  clear h hR hp hl hlr hll hk hL h19
  go_enter Tryd.func45, Tryd.ntmps45
  go_wp2_with fail
  go_loopg [8, 9, 10, 11, 12, 13, 14] m (fun gk v u1 u2 u3 u4 u5 u6 wx => ∃ (a : Nat) (Ao : Option Addr) (z co : Nat) (o : List Nat), v = .slice Ao z co ∧ z ≤ m ∧ m ≤ z + gk ∧ a ≤ p.nB ∧ Hid (RAtD p w A n c kv out a Ao z co o wx) ∧ Hid (See wx Bd Al (ints l)) ∧ Hid (mRow p.B l m gk a o = R))
  case atStart => exact ⟨a, _, 0, 0, [], rfl, by omega, by omega, ha, H0, HSE, HR⟩
  case round =>
    clear H0 HR ha HSE
    obtain ⟨a, Ao, z, co, o, rfl, hz, hgk, ha, HRA, HSE, HR0⟩ := hrel
    have hozl := HRA.out.len
    by_cases hlt : z < m
    · obtain ⟨f, rfl⟩ : ∃ f, gk = f + 1 := ⟨gk - 1, by omega⟩
      have hm := HR0.out
      rw [mRow_step, hozl, if_neg (by omega), hpl] at hm
      have HRD := Lib.hid (HSY.out Ao z co o wr a HRA.out ha HSE.out)
      have hmv := rdp_moves l p.B a
      have hsy := rdp_symbol19 l p.B a h19'
      rw [hpl] at hmv
      obtain ⟨⟨y, a2, x⟩, hq⟩ : ∃ q, rdp l p.B a = q := ⟨_, rfl⟩
      rw [hq] at HRD hm hmv hsy
      simp only at hm hmv hsy
      clear hq HR0
      have HNX : Hid (∀ w2, Only (· = p.r) wr w2 → Rf p w2 a2 A n c kv out → RAtD p w A n c kv out a2 Ao z co o w2 ∧ See w2 Bd Al (ints l)) := Lib.hid fun w2 ho hr2 => ⟨HRA.out.read ho hr2, HSE.out.off ho fun j hj e => HLR.out j hj e⟩
      have HKS : Hid (∀ w2 w3, RAtD p w A n c kv out a2 Ao z co o w2 → See w2 Bd Al (ints l) → Only (Lies Ao) w2 w3 → See w3 Bd Al (ints l)) := Lib.hid fun w2 w3 h2 s2 o3 => s2.off o3 fun j hj e => by have := h2.lies j e; have := HLL.out j hj; omega
      by_cases hx : x = 0
      · subst hx
        rw [if_neg (by simp)] at hm
        obtain ⟨m1, m2⟩ := hmv rfl
        clear hmv
        by_cases hy : y < 16
        · rw [if_pos hy] at hm
          have hy2 : (y : Int) < 16 := by omega
          have HM := Lib.hid hm
          clear hm
          go_wp2_with fail
          refine HRD.out.mono ?_
          rintro e w2 ⟨rfl, ho2, hr2⟩
          obtain ⟨ha2, hs2⟩ := HNX.out w2 ho2 hr2
          have oa : Only (fun _ => False) w2 (w2.alloc (.cells #[.int .i64 (y : Nat)] 3)) := (Only.refl _ w2).alloc _
          have HAW := Lib.hid (ha2.new oa)
          have HSW := Lib.hid (hs2.new oa)
          have HSR := Lib.hid (Src.oneInt Tryd.underlying26 w2 .i64 y 1 3)
          obtain ⟨wy, hwy⟩ : ∃ wy, w2.alloc (.cells #[.int .i64 (y : Nat)] 3) = wy := ⟨_, rfl⟩
          rw [hwy] at HAW HSR HSW
          clear hr2 ho2 HRD HNX ha2 hs2 oa
          go_upto_region 7 with fail
          go_wp2_with (at_builtin
                       refine wpList_append_row rfl (.tmp 30) (.tmp 32) 26 26 3 rfl Tryd.underlying26 info3 Ao z co 1 (ints o) (ints [y]) (.slice (some ⟨w2.heap.size, 0, none⟩) 1 1) (by rfl) (by rfl) HAW.out.row rfl HSR.out (by omega) (by omega) ?_
                       intro A9 c9 w9 hrow9 honly9 hlies9
                       have H9 : Hid (RAtD p w A n c kv out a2 A9 (z + 1) c9 (o ++ [y]) w9) := Lib.hid (HAW.out.more (by rw [ints_append]; exact hrow9) rfl honly9 (by
                         intro j hj
                         rcases hlies9 with e | e
                         · exact .inl (e ▸ hj)
                         · obtain ⟨ad, e1, e2⟩ := hj
                           rw [e] at e1
                           obtain rfl := Option.some.inj e1
                           exact .inr (Nat.le_of_eq e2)))
                       have HS9 := Lib.hid (HKS.out wy w9 HAW.out HSW.out honly9)
                       clear hrow9 honly9 hlies9)
          go_roundg f
          case measure => omega
          case rel => exact ⟨a2, A9, z + 1, c9, o ++ [y], by first | rfl | go_num, by omega, by omega, m2, H9, HS9, HM⟩
        · rw [if_neg hy] at hm
          have hy3 : ¬ (y : Int) < 16 := by omega
          obtain rfl | rfl | rfl : y = 16 ∨ y = 17 ∨ y = 18 := by omega
          · by_cases hz0 : z = 0
            · rw [if_pos ⟨rfl, hz0⟩] at hm
              subst hz0
              have HM := Lib.hid hm
              clear hm
              go_wp2_with fail
              refine HRD.out.mono ?_
              rintro e w2 ⟨rfl, ho2, hr2⟩
              have HO := Lib.hid (HRA.out.only.trans ho2)
              clear hr2 ho2 HRD HNX
              go_wp2
              go_ret2
              exact ⟨HO.out, by rw [← HM.out]; rfl⟩
            · rw [if_neg (fun h => hz0 h.2), if_pos rfl] at hm
              have hzz : ¬ (z : Int) = 0 := by omega
              have hzb : ((z : Int) == 0) = false := by simp; omega
              have hzd : decide ((z : Int) = 0) = false := by simp; omega
              have HNB := Lib.hid (fun wx h' => HN.out 2 wx a2 h' m2 (by decide))
              rw [show tw 16 = 2 from rfl, show tv 16 = 3 from rfl] at hm
              have hnm := nm_lt p.B a2 2
              obtain ⟨X, hX⟩ : ∃ X, nm p.B a2 2 = X := ⟨_, rfl⟩
              rw [hX] at hm hnm HNB
              have hX2 : X ≤ 127 := by omega
              clear hnm hX
              by_cases hend : p.nB < a2 + 2
              · rw [if_pos hend] at hm HNB
                have HM := Lib.hid hm
                clear hm
                go_wp2_with fail
                refine HRD.out.mono ?_
                rintro e w2 ⟨rfl, ho2, hr2⟩
                have HO := Lib.hid (HRA.out.only.trans ho2)
                have HR2 := Lib.hid hr2
                clear hr2 ho2 HRD HNX
                go_wp2_with fail
                refine (HNB.out _ (HR2.out.new ((Only.refl _ w2).alloc _))).mono ?_
                rintro e w3 ⟨rfl, ho3, _⟩
                have HO3 : Hid (Only (· = p.r) w w3) := Lib.hid ((HO.out.alloc _).trans ho3)
                clear ho3 HNB
                go_wp2
                go_ret2
                exact ⟨HO3.out, by rw [← HM.out]; rfl⟩
              · rw [if_neg hend] at hm HNB
                have ha3 : a2 + 2 ≤ p.nB := by omega
                obtain ⟨K, hK⟩ : ∃ K, 3 + X = K := ⟨_, rfl⟩
                have hK2 : (X : Int) + 3 = (K : Int) := by omega
                rw [hK] at hm
                have hKb : K ≤ 300 := by omega
                by_cases hov : m < z + K
                · rw [if_pos hov] at hm
                  have HM := Lib.hid hm
                  have hov2 : (m : Int) - (z : Int) < (K : Int) := by omega
                  clear hm
                  go_wp2_with fail
                  refine HRD.out.mono ?_
                  rintro e w2 ⟨rfl, ho2, hr2⟩
                  have HO := Lib.hid (HRA.out.only.trans ho2)
                  have HR2 := Lib.hid hr2
                  clear hr2 ho2 HRD HNX
                  go_wp2_with fail
                  refine (HNB.out _ (HR2.out.new ((Only.refl _ w2).alloc _))).mono ?_
                  rintro e w3 ⟨rfl, ho3, _⟩
                  have HO3 : Hid (Only (· = p.r) w w3) := Lib.hid ((HO.out.alloc _).trans ho3)
                  clear ho3 HNB
                  go_wp2
                  go_ret2
                  exact ⟨HO3.out.alloc _, by rw [← HM.out]; rfl⟩
                · rw [if_neg hov] at hm
                  have hov2 : ¬ (m : Int) - (z : Int) < (K : Int) := by omega
                  obtain ⟨L, hL⟩ : ∃ L, o.getD (z - 1) 0 = L := ⟨_, rfl⟩
                  rw [hL] at hm
                  have HM := Lib.hid hm
                  clear hm
                  go_wp2_with fail
                  refine HRD.out.mono ?_
                  rintro e w2 ⟨rfl, ho2, hr2⟩
                  obtain ⟨ha2, hs2⟩ := HNX.out w2 ho2 hr2
                  have HA2 := Lib.hid ha2
                  have HS2 := Lib.hid hs2
                  clear hr2 ho2 HRD HNX ha2 hs2
                  go_wp2_with fail
                  refine (HNB.out _ (HA2.out.rf.new ((Only.refl _ w2).alloc _))).mono ?_
                  rintro e w3 ⟨rfl, ho3, hr3⟩
                  have oa : Only (· = p.r) w2 w3 := ((Only.refl _ w2).alloc _).trans ho3
                  have o4 : Only (fun _ => False) w3 (w3.alloc (.cells #[.int .i64 3, .int .i64 3, .int .i64 11] 3)) := (Only.refl _ w3).alloc _
                  have ha3' := HA2.out.read oa (hr3 rfl)
                  have HA4 := Lib.hid (ha3'.new o4)
                  have HS4 := Lib.hid ((HS2.out.off oa fun j hj e => HLR.out j hj e).new o4)
                  have g0 := (Is.new w3 3 [.int .i64 3, .int .i64 3, .int .i64 11]).cell 0 rfl
                  have g1 := (Is.new w3 3 [.int .i64 3, .int .i64 3, .int .i64 11]).cell 1 rfl
                  have g2 := (Is.new w3 3 [.int .i64 3, .int .i64 3, .int .i64 11]).cell 2 rfl
                  obtain ⟨w4, hw4⟩ : ∃ w4, w3.alloc (.cells #[.int .i64 3, .int .i64 3, .int .i64 11] 3) = w4 := ⟨_, rfl⟩
                  have HKS2 : Hid (∀ w5, Only (Lies Ao) w4 w5 → See w5 Bd Al (ints l)) := Lib.hid fun w5 o5 => by
                    rw [hw4] at HS4 HA4
                    exact HS4.out.off o5 fun j hj e => by have := HA4.out.lies j e; have := HLL.out j hj; omega
                  have gg0 : (w3.alloc (.cells #[.int .i64 3, .int .i64 3, .int .i64 11] 3)).cell? ⟨w3.heap.size, 0, none⟩ = some (.int .i64 3) := (Is.new w3 3 [.int .i64 3, .int .i64 3, .int .i64 11]).cell 0 rfl
                  rw [hw4] at HA4 HS4 gg0
                  clear ho3 hr3 HNB oa o4 ha3' HA2 HS2 g0 g1 g2
                  obtain ⟨gq, eA, clq, _⟩ := HA4.out.row.cell (ints_at o (z - 1) (by omega))
                  subst eA
                  have hln : ln o (z - 1) = L := hL
                  rw [hln] at clq
                  have ez : (z : Int) - 1 = ((z - 1 : Nat) : Int) := by omega
                  have ez2 : z - 1 < z := by omega
                  obtain ⟨zi, hzi⟩ : ∃ zi, z - 1 = zi := ⟨_, rfl⟩
                  rw [hzi] at clq ez ez2
                  clear hln hL hzi
                  go_wp2_with fail
                  refine (dsame (some ⟨gq, 0, none⟩) z co K L o w4 HA4.out.row (by omega) (by omega)).mono ?_
                  rintro e w5 ⟨A9, c9, rfl, r9, o9, l9⟩
                  have H9 := Lib.hid (HA4.out.more r9 (by rw [List.length_replicate]) o9 l9)
                  have HS9 := Lib.hid (HKS2.out w5 o9)
                  clear r9 o9 l9 HKS2 HA4 HS4
                  go_wp2_with fail
                  go_roundg f
                  case measure => omega
                  case rel => exact ⟨a2 + 2, A9, z + K, c9, _, by first | rfl | go_num, by omega, by omega, ha3, H9, HS9, HM⟩
          · rw [if_neg (fun h => by have h1 := h.1; omega), if_neg (show ¬ ((17 : Nat) = 16) from by decide)] at hm
            have HNB := Lib.hid (fun wx h' => HN.out 3 wx a2 h' m2 (by decide))
            rw [show tw 17 = 3 from rfl, show tv 17 = 3 from rfl] at hm
            have hnm := nm_lt p.B a2 3
            obtain ⟨X, hX⟩ : ∃ X, nm p.B a2 3 = X := ⟨_, rfl⟩
            rw [hX] at hm hnm HNB
            have hX2 : X ≤ 127 := by omega
            clear hnm hX
            by_cases hend : p.nB < a2 + 3
            · rw [if_pos hend] at hm HNB
              have HM := Lib.hid hm
              clear hm
              go_wp2_with fail
              refine HRD.out.mono ?_
              rintro e w2 ⟨rfl, ho2, hr2⟩
              have HO := Lib.hid (HRA.out.only.trans ho2)
              have HR2 := Lib.hid hr2
              clear hr2 ho2 HRD HNX
              go_wp2_with fail
              refine (HNB.out _ (HR2.out.new ((Only.refl _ w2).alloc _))).mono ?_
              rintro e w3 ⟨rfl, ho3, _⟩
              have HO3 : Hid (Only (· = p.r) w w3) := Lib.hid ((HO.out.alloc _).trans ho3)
              clear ho3 HNB
              go_wp2
              go_ret2
              exact ⟨HO3.out, by rw [← HM.out]; rfl⟩
            · rw [if_neg hend] at hm HNB
              have ha3 : a2 + 3 ≤ p.nB := by omega
              obtain ⟨K, hK⟩ : ∃ K, 3 + X = K := ⟨_, rfl⟩
              have hK2 : (X : Int) + 3 = (K : Int) := by omega
              rw [hK] at hm
              have hKb : K ≤ 300 := by omega
              by_cases hov : m < z + K
              · rw [if_pos hov] at hm
                have HM := Lib.hid hm
                have hov2 : (m : Int) - (z : Int) < (K : Int) := by omega
                clear hm
                go_wp2_with fail
                refine HRD.out.mono ?_
                rintro e w2 ⟨rfl, ho2, hr2⟩
                have HO := Lib.hid (HRA.out.only.trans ho2)
                have HR2 := Lib.hid hr2
                clear hr2 ho2 HRD HNX
                go_wp2_with fail
                refine (HNB.out _ (HR2.out.new ((Only.refl _ w2).alloc _))).mono ?_
                rintro e w3 ⟨rfl, ho3, _⟩
                have HO3 : Hid (Only (· = p.r) w w3) := Lib.hid ((HO.out.alloc _).trans ho3)
                clear ho3 HNB
                go_wp2
                go_ret2
                exact ⟨HO3.out.alloc _, by rw [← HM.out]; rfl⟩
              · rw [if_neg hov] at hm
                have hov2 : ¬ (m : Int) - (z : Int) < (K : Int) := by omega
                have HM := Lib.hid hm
                clear hm
                go_wp2_with fail
                refine HRD.out.mono ?_
                rintro e w2 ⟨rfl, ho2, hr2⟩
                obtain ⟨ha2, hs2⟩ := HNX.out w2 ho2 hr2
                have HA2 := Lib.hid ha2
                have HS2 := Lib.hid hs2
                clear hr2 ho2 HRD HNX ha2 hs2
                go_wp2_with fail
                refine (HNB.out _ (HA2.out.rf.new ((Only.refl _ w2).alloc _))).mono ?_
                rintro e w3 ⟨rfl, ho3, hr3⟩
                have oa : Only (· = p.r) w2 w3 := ((Only.refl _ w2).alloc _).trans ho3
                have o4 : Only (fun _ => False) w3 (w3.alloc (.cells #[.int .i64 3, .int .i64 3, .int .i64 11] 3)) := (Only.refl _ w3).alloc _
                have ha3' := HA2.out.read oa (hr3 rfl)
                have HA4 := Lib.hid (ha3'.new o4)
                have HS4 := Lib.hid ((HS2.out.off oa fun j hj e => HLR.out j hj e).new o4)
                have g0 := (Is.new w3 3 [.int .i64 3, .int .i64 3, .int .i64 11]).cell 0 rfl
                have g1 := (Is.new w3 3 [.int .i64 3, .int .i64 3, .int .i64 11]).cell 1 rfl
                have g2 := (Is.new w3 3 [.int .i64 3, .int .i64 3, .int .i64 11]).cell 2 rfl
                obtain ⟨w4, hw4⟩ : ∃ w4, w3.alloc (.cells #[.int .i64 3, .int .i64 3, .int .i64 11] 3) = w4 := ⟨_, rfl⟩
                have HKS2 : Hid (∀ w5, Only (Lies Ao) w4 w5 → See w5 Bd Al (ints l)) := Lib.hid fun w5 o5 => by
                  rw [hw4] at HS4 HA4
                  exact HS4.out.off o5 fun j hj e => by have := HA4.out.lies j e; have := HLL.out j hj; omega
                have gg0 : (w3.alloc (.cells #[.int .i64 3, .int .i64 3, .int .i64 11] 3)).cell? ⟨w3.heap.size, 1, none⟩ = some (.int .i64 3) := (Is.new w3 3 [.int .i64 3, .int .i64 3, .int .i64 11]).cell 1 rfl
                rw [hw4] at HA4 HS4 gg0
                clear ho3 hr3 HNB oa o4 ha3' HA2 HS2 g0 g1 g2
                go_wp2_with fail
                refine (dsame Ao z co K 0 o w4 HA4.out.row (by omega) (by omega)).mono ?_
                rintro e w5 ⟨A9, c9, rfl, r9, o9, l9⟩
                have H9 := Lib.hid (HA4.out.more r9 (by rw [List.length_replicate]) o9 l9)
                have HS9 := Lib.hid (HKS2.out w5 o9)
                clear r9 o9 l9 HKS2 HA4 HS4
                go_wp2_with fail
                go_roundg f
                case measure => omega
                case rel => exact ⟨a2 + 3, A9, z + K, c9, _, by first | rfl | go_num, by omega, by omega, ha3, H9, HS9, HM⟩
          · rw [if_neg (fun h => by have h1 := h.1; omega), if_neg (show ¬ ((18 : Nat) = 16) from by decide)] at hm
            have HNB := Lib.hid (fun wx h' => HN.out 7 wx a2 h' m2 (by decide))
            rw [show tw 18 = 7 from rfl, show tv 18 = 11 from rfl] at hm
            have hnm := nm_lt p.B a2 7
            obtain ⟨X, hX⟩ : ∃ X, nm p.B a2 7 = X := ⟨_, rfl⟩
            rw [hX] at hm hnm HNB
            have hX2 : X ≤ 127 := by omega
            clear hnm hX
            by_cases hend : p.nB < a2 + 7
            · rw [if_pos hend] at hm HNB
              have HM := Lib.hid hm
              clear hm
              go_wp2_with fail
              refine HRD.out.mono ?_
              rintro e w2 ⟨rfl, ho2, hr2⟩
              have HO := Lib.hid (HRA.out.only.trans ho2)
              have HR2 := Lib.hid hr2
              clear hr2 ho2 HRD HNX
              go_wp2_with fail
              refine (HNB.out _ (HR2.out.new ((Only.refl _ w2).alloc _))).mono ?_
              rintro e w3 ⟨rfl, ho3, _⟩
              have HO3 : Hid (Only (· = p.r) w w3) := Lib.hid ((HO.out.alloc _).trans ho3)
              clear ho3 HNB
              go_wp2
              go_ret2
              exact ⟨HO3.out, by rw [← HM.out]; rfl⟩
            · rw [if_neg hend] at hm HNB
              have ha3 : a2 + 7 ≤ p.nB := by omega
              obtain ⟨K, hK⟩ : ∃ K, 11 + X = K := ⟨_, rfl⟩
              have hK2 : (X : Int) + 11 = (K : Int) := by omega
              rw [hK] at hm
              have hKb : K ≤ 300 := by omega
              by_cases hov : m < z + K
              · rw [if_pos hov] at hm
                have HM := Lib.hid hm
                have hov2 : (m : Int) - (z : Int) < (K : Int) := by omega
                clear hm
                go_wp2_with fail
                refine HRD.out.mono ?_
                rintro e w2 ⟨rfl, ho2, hr2⟩
                have HO := Lib.hid (HRA.out.only.trans ho2)
                have HR2 := Lib.hid hr2
                clear hr2 ho2 HRD HNX
                go_wp2_with fail
                refine (HNB.out _ (HR2.out.new ((Only.refl _ w2).alloc _))).mono ?_
                rintro e w3 ⟨rfl, ho3, _⟩
                have HO3 : Hid (Only (· = p.r) w w3) := Lib.hid ((HO.out.alloc _).trans ho3)
                clear ho3 HNB
                go_wp2
                go_ret2
                exact ⟨HO3.out.alloc _, by rw [← HM.out]; rfl⟩
              · rw [if_neg hov] at hm
                have hov2 : ¬ (m : Int) - (z : Int) < (K : Int) := by omega
                have HM := Lib.hid hm
                clear hm
                go_wp2_with fail
                refine HRD.out.mono ?_
                rintro e w2 ⟨rfl, ho2, hr2⟩
                obtain ⟨ha2, hs2⟩ := HNX.out w2 ho2 hr2
                have HA2 := Lib.hid ha2
                have HS2 := Lib.hid hs2
                clear hr2 ho2 HRD HNX ha2 hs2
                go_wp2_with fail
                refine (HNB.out _ (HA2.out.rf.new ((Only.refl _ w2).alloc _))).mono ?_
                rintro e w3 ⟨rfl, ho3, hr3⟩
                have oa : Only (· = p.r) w2 w3 := ((Only.refl _ w2).alloc _).trans ho3
                have o4 : Only (fun _ => False) w3 (w3.alloc (.cells #[.int .i64 3, .int .i64 3, .int .i64 11] 3)) := (Only.refl _ w3).alloc _
                have ha3' := HA2.out.read oa (hr3 rfl)
                have HA4 := Lib.hid (ha3'.new o4)
                have HS4 := Lib.hid ((HS2.out.off oa fun j hj e => HLR.out j hj e).new o4)
                have g0 := (Is.new w3 3 [.int .i64 3, .int .i64 3, .int .i64 11]).cell 0 rfl
                have g1 := (Is.new w3 3 [.int .i64 3, .int .i64 3, .int .i64 11]).cell 1 rfl
                have g2 := (Is.new w3 3 [.int .i64 3, .int .i64 3, .int .i64 11]).cell 2 rfl
                obtain ⟨w4, hw4⟩ : ∃ w4, w3.alloc (.cells #[.int .i64 3, .int .i64 3, .int .i64 11] 3) = w4 := ⟨_, rfl⟩
                have HKS2 : Hid (∀ w5, Only (Lies Ao) w4 w5 → See w5 Bd Al (ints l)) := Lib.hid fun w5 o5 => by
                  rw [hw4] at HS4 HA4
                  exact HS4.out.off o5 fun j hj e => by have := HA4.out.lies j e; have := HLL.out j hj; omega
                have gg0 : (w3.alloc (.cells #[.int .i64 3, .int .i64 3, .int .i64 11] 3)).cell? ⟨w3.heap.size, 2, none⟩ = some (.int .i64 11) := (Is.new w3 3 [.int .i64 3, .int .i64 3, .int .i64 11]).cell 2 rfl
                rw [hw4] at HA4 HS4 gg0
                clear ho3 hr3 HNB oa o4 ha3' HA2 HS2 g0 g1 g2
                go_wp2_with fail
                refine (dsame Ao z co K 0 o w4 HA4.out.row (by omega) (by omega)).mono ?_
                rintro e w5 ⟨A9, c9, rfl, r9, o9, l9⟩
                have H9 := Lib.hid (HA4.out.more r9 (by rw [List.length_replicate]) o9 l9)
                have HS9 := Lib.hid (HKS2.out w5 o9)
                clear r9 o9 l9 HKS2 HA4 HS4
                go_wp2_with fail
                go_roundg f
                case measure => omega
                case rel => exact ⟨a2 + 7, A9, z + K, c9, _, by first | rfl | go_num, by omega, by omega, ha3, H9, HS9, HM⟩
      · rw [if_pos hx] at hm
        have hx2 : ¬ (x : Int) = 0 := by omega
        have HM := Lib.hid hm
        clear hm hmv
        go_wp2_with fail
        refine HRD.out.mono ?_
        rintro e w2 ⟨rfl, ho2, hr2⟩
        have HO := Lib.hid (HRA.out.only.trans ho2)
        clear hr2 ho2 HRD HNX
        go_wp2
        go_ret2
        exact ⟨HO.out, by rw [← HM.out, if_pos hx]; rfl⟩
    · obtain rfl : z = m := by omega
      have hm := HR0.out
      rw [mRow_full _ _ _ _ _ _ (by rw [hozl]; exact Nat.le_refl _)] at hm
      have HM := Lib.hid hm
      clear hm HR0
      go_wp2
      go_ret2
      refine ⟨HRA.out.only, ?_⟩
      rw [← HM.out, if_neg (by simp)]
      exact ⟨Ao, co, rfl, HRA.out⟩
end Go.Proofs.YtackcgiokkbhdaaDoor
