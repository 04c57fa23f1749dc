/- Layer 8, the document: a row of lengths; coded bytes. -/
import Derived.Test.YtoclbodmibagpaaGreatDBack
/- Layer 8, the document: lengths by the first code. -/
namespace Go.Proofs.YtoclbodmibagpaaGreat
open Go.RowKit

/-- Where reading the lengths stands. -/
structure RAtD (p : RP) (w : World) (A : Option Addr) (n c : Nat) (kv : Value) (out : List UInt8) (a : Nat) (Ao : Option Addr) (z co : Nat) (o : List Nat) (wx : World) : Prop where
  rf : Rf p wx a A n c kv out
  row : Row 3 wx Ao z co (ints o)
  len : o.length = z
  only : Only (· = p.r) w wx
  lies : ∀ j, Lies Ao j → w.heap.size ≤ j
  rl : p.r < w.heap.size
  al : ∀ j, Lies A j → j < w.heap.size
section
variable {p : RP} {w wx wy : World} {A Ao A2 : Option Addr} {n c : Nat} {kv : Value} {out : List UInt8} {a a2 z co c2 m : Nat} {o r : List Nat}
theorem RAtD.read (h : RAtD p w A n c kv out a Ao z co o wx) (k : Only (· = p.r) wx wy) (hr : Rf p wy a2 A n c kv out) : RAtD p w A n c kv out a2 Ao z co o wy :=
  ⟨hr, h.row.only k (fun j hj e => by have := h.lies j hj; have := h.rl; omega), h.len, h.only.trans k, h.lies, h.rl, h.al⟩
theorem RAtD.new (h : RAtD p w A n c kv out a Ao z co o wx) (k : Only (fun _ => False) wx wy) : RAtD p w A n c kv out a Ao z co o wy :=
  ⟨h.rf.new k, h.row.only k (fun _ _ f => f), h.len, h.only.trans (k.mono fun _ f => f.elim), h.lies, h.rl, h.al⟩
theorem RAtD.more (h : RAtD p w A n c kv out a Ao z co o wx) (hr : Row 3 wy A2 (z + m) c2 (ints (o ++ r))) (hl : r.length = m) (ho : Only (Lies Ao) wx wy) (ha : ∀ j, Lies A2 j → Lies Ao j ∨ wx.heap.size ≤ j) : RAtD p w A n c kv out a A2 (z + m) c2 (o ++ r) wy := by
  have hsz := h.only.size
  have hrl := h.rl
  refine ⟨h.rf.keep ho (fun j hj e => by have := h.lies j e; omega) (fun j hj e => by have := h.lies j e; have := h.al j hj; omega), hr, by rw [List.length_append, h.len, hl], h.only.andThen ho fun j hj => .inr (h.lies j hj), fun j hj => (ha j hj).elim (h.lies j) (fun x => by omega), hrl, h.al⟩
end

def DRowPost (p : RP) (w : World) (A : Option Addr) (n c : Nat) (kv : Value) (out : List UInt8) (m : Nat) (r : Nat × Nat × List Nat) (e : Ending) (w' : World) : Prop := Only (· = p.r) w w' ∧
  if r.1 ≠ 0 then e = .returned (.tuple #[.slice none 0 0, .int .i64 r.1]) else ∃ Ao co, e = .returned (.tuple #[.slice Ao m co, .int .i64 0]) ∧ RAtD p w A n c kv out r.2.1 Ao m co r.2.2 w'

set_option maxRecDepth 100000 in
set_option maxHeartbeats 8000000 in
theorem drow_ (p : RP) (hp : RB p) (a : Nat) (A : Option Addr) (n c : Nat) (kv : Value) (out : List UInt8) (Al : Option Addr) (cl Bd : Nat) (l : List Nat) (m : Nat) (w : World) (h : Rf p w a A n c kv out) (ha : a ≤ p.nB) (hl : See w Bd Al (ints l)) (hlr : ∀ j, Lies Al j → j ≠ p.r) (hll : ∀ j, Lies Al j → j < w.heap.size)
    (h19 : l.length = 19) (hL : Lens l) (hk : (kd l).2 = 0) (hm1 : 1 ≤ m) (hm : m ≤ 400) :
    Calls Tryz.prog 96 #[.pointer (some ⟨p.r, 0, none⟩), .slice Al 19 cl, .int .i64 m] w (DRowPost p w A n c kv out m (mRow p.B l m m a [])) := by
  obtain ⟨R, hR⟩ : ∃ R, mRow p.B l m m a [] = R := ⟨_, rfl⟩
  rw [hR]
  have hple := hp.le
  have hpl := hp.len
  have H0 : Hid (RAtD p w A n c kv out a none 0 0 [] w) := Lib.hid ⟨h, Row.nil 3 w, rfl, Only.refl _ _, (by rintro j ⟨ad, e, _⟩; cases e), h.is.lt, h.row.lies⟩
  have HR := Lib.hid hR
  have HSY : Hid (∀ Ao z co o wx a', RAtD p w A n c kv out a' Ao z co o wx → a' ≤ p.nB → See wx Bd Al (ints l) → Calls Tryz.prog 97 #[.pointer (some ⟨p.r, 0, none⟩), .slice Al 19 cl] wx (DSym p wx A n c kv out (rdp l p.B a'))) := Lib.hid fun Ao z co o wx a' h' ha' hs' => dsymbol p hp a' A n c kv out Al 19 cl Bd l wx h'.rf ha' hs' h19 hL hk
  have HN : Hid (∀ v wx a', Rf p wx a' A n c kv out → a' ≤ p.nB → v ≤ 16 → Calls Tryz.prog 65 #[.pointer (some ⟨p.r, 0, none⟩), .int .i64 (v : Nat)] wx (DVal p wx A n c kv out (mNum p.B a' v))) := Lib.hid fun v wx a' h' ha' hv => dbits p hp a' v A n c kv out wx h' ha' hv
  unfold mNum at HN
  rw [hpl] at HN
  have HSE : Hid (See w Bd Al (ints l)) := Lib.hid hl
  have HLR := Lib.hid hlr
  have HLL := Lib.hid hll
  have h19' : l.length ≤ 19 := by omega
  clear h hR hp hl hlr hll hk hL h19
  go_enter Tryz.func96, Tryz.ntmps96
  go_wp2_with fail
  go_loopg [8, 9, 10, 11, 12, 13, 14] m (fun gk v u1 u2 u3 u4 u5 u6 wx => ∃ (a : Nat) (Ao : Option Addr) (z co : Nat) (o : List Nat), v = .slice Ao z co ∧ z ≤ m ∧ m ≤ z + gk ∧ a ≤ p.nB ∧ Hid (RAtD p w A n c kv out a Ao z co o wx) ∧ Hid (See wx Bd Al (ints l)) ∧ Hid (mRow p.B l m gk a o = R))
  case atStart => exact ⟨a, _, 0, 0, [], rfl, by omega, by omega, ha, H0, HSE, HR⟩
  case round =>
    clear H0 HR ha HSE
    obtain ⟨a, Ao, z, co, o, rfl, hz, hgk, ha, HRA, HSE, HR0⟩ := hrel
    have hozl := HRA.out.len
    by_cases hlt : z < m
    · obtain ⟨f, rfl⟩ : ∃ f, gk = f + 1 := ⟨gk - 1, by omega⟩
      have hm := HR0.out
      rw [mRow_step, hozl, if_neg (by omega), hpl] at hm
      have HRD := Lib.hid (HSY.out Ao z co o wr a HRA.out ha HSE.out)
      have hmv := rdp_moves l p.B a
      have hsy := rdp_symbol19 l p.B a h19'
      rw [hpl] at hmv
      obtain ⟨⟨y, a2, x⟩, hq⟩ : ∃ q, rdp l p.B a = q := ⟨_, rfl⟩
      rw [hq] at HRD hm hmv hsy
      simp only at hm hmv hsy
      clear hq HR0
      have HNX : Hid (∀ w2, Only (· = p.r) wr w2 → Rf p w2 a2 A n c kv out → RAtD p w A n c kv out a2 Ao z co o w2 ∧ See w2 Bd Al (ints l)) := Lib.hid fun w2 ho hr2 => ⟨HRA.out.read ho hr2, HSE.out.off ho fun j hj e => HLR.out j hj e⟩
      have HKS : Hid (∀ w2 w3, RAtD p w A n c kv out a2 Ao z co o w2 → See w2 Bd Al (ints l) → Only (Lies Ao) w2 w3 → See w3 Bd Al (ints l)) := Lib.hid fun w2 w3 h2 s2 o3 => s2.off o3 fun j hj e => by have := h2.lies j e; have := HLL.out j hj; omega
      by_cases hx : x = 0
      · subst hx
        rw [if_neg (by simp)] at hm
        obtain ⟨m1, m2⟩ := hmv rfl
        clear hmv
        by_cases hy : y < 16
        · rw [if_pos hy] at hm
          have hy2 : (y : Int) < 16 := by omega
          have HM := Lib.hid hm
          clear hm
          go_wp2_with fail
          refine HRD.out.mono ?_
          rintro e w2 ⟨rfl, ho2, hr2⟩
          obtain ⟨ha2, hs2⟩ := HNX.out w2 ho2 hr2
          have oa : Only (fun _ => False) w2 (w2.alloc (.cells #[.int .i64 (y : Nat)] 3)) := (Only.refl _ w2).alloc _
          have HAW := Lib.hid (ha2.new oa)
          have HSW := Lib.hid (hs2.new oa)
          have HSR := Lib.hid (Src.oneInt Tryz.underlying44 w2 .i64 y 1 3)
          obtain ⟨wy, hwy⟩ : ∃ wy, w2.alloc (.cells #[.int .i64 (y : Nat)] 3) = wy := ⟨_, rfl⟩
          rw [hwy] at HAW HSR HSW
          clear hr2 ho2 HRD HNX ha2 hs2 oa
          go_upto_region 7 with fail
          go_wp2_with (at_builtin
                       refine wpList_append_row rfl (.tmp 30) (.tmp 32) 44 44 3 rfl Tryz.underlying44 info3 Ao z co 1 (ints o) (ints [y]) (.slice (some ⟨w2.heap.size, 0, none⟩) 1 1) (by rfl) (by rfl) HAW.out.row rfl HSR.out (by omega) (by omega) ?_
                       intro A9 c9 w9 hrow9 honly9 hlies9
                       have H9 : Hid (RAtD p w A n c kv out a2 A9 (z + 1) c9 (o ++ [y]) w9) := Lib.hid (HAW.out.more (by rw [ints_append]; exact hrow9) rfl honly9 (by
                         intro j hj
                         rcases hlies9 with e | e
                         · exact .inl (e ▸ hj)
                         · obtain ⟨ad, e1, e2⟩ := hj
                           rw [e] at e1
                           obtain rfl := Option.some.inj e1
                           exact .inr (Nat.le_of_eq e2)))
                       have HS9 := Lib.hid (HKS.out wy w9 HAW.out HSW.out honly9)
                       clear hrow9 honly9 hlies9)
          go_roundg f
          case measure => omega
          case rel => exact ⟨a2, A9, z + 1, c9, o ++ [y], by first | rfl | go_num, by omega, by omega, m2, H9, HS9, HM⟩
        · rw [if_neg hy] at hm
          have hy3 : ¬ (y : Int) < 16 := by omega
          obtain rfl | rfl | rfl : y = 16 ∨ y = 17 ∨ y = 18 := by omega
          · by_cases hz0 : z = 0
            · rw [if_pos ⟨rfl, hz0⟩] at hm
              subst hz0
              have HM := Lib.hid hm
              clear hm
              go_wp2_with fail
              refine HRD.out.mono ?_
              rintro e w2 ⟨rfl, ho2, hr2⟩
              have HO := Lib.hid (HRA.out.only.trans ho2)
              clear hr2 ho2 HRD HNX
              go_wp2
              go_ret2
              exact ⟨HO.out, by rw [← HM.out]; rfl⟩
            · rw [if_neg (fun h => hz0 h.2), if_pos rfl] at hm
              have hzz : ¬ (z : Int) = 0 := by omega
              have hzb : ((z : Int) == 0) = false := by simp; omega
              have hzd : decide ((z : Int) = 0) = false := by simp; omega
              have HNB := Lib.hid (fun wx h' => HN.out 2 wx a2 h' m2 (by decide))
              rw [show tw 16 = 2 from rfl, show tv 16 = 3 from rfl] at hm
              have hnm := nm_lt p.B a2 2
              obtain ⟨X, hX⟩ : ∃ X, nm p.B a2 2 = X := ⟨_, rfl⟩
              rw [hX] at hm hnm HNB
              have hX2 : X ≤ 127 := by omega
              clear hnm hX
              by_cases hend : p.nB < a2 + 2
              · rw [if_pos hend] at hm HNB
                have HM := Lib.hid hm
                clear hm
                go_wp2_with fail
                refine HRD.out.mono ?_
                rintro e w2 ⟨rfl, ho2, hr2⟩
                have HO := Lib.hid (HRA.out.only.trans ho2)
                have HR2 := Lib.hid hr2
                clear hr2 ho2 HRD HNX
                go_wp2_with fail
                refine (HNB.out _ (HR2.out.new ((Only.refl _ w2).alloc _))).mono ?_
                rintro e w3 ⟨rfl, ho3, _⟩
                have HO3 : Hid (Only (· = p.r) w w3) := Lib.hid ((HO.out.alloc _).trans ho3)
                clear ho3 HNB
                go_wp2
                go_ret2
                exact ⟨HO3.out, by rw [← HM.out]; rfl⟩
              · rw [if_neg hend] at hm HNB
                have ha3 : a2 + 2 ≤ p.nB := by omega
                obtain ⟨K, hK⟩ : ∃ K, 3 + X = K := ⟨_, rfl⟩
                have hK2 : (X : Int) + 3 = (K : Int) := by omega
                rw [hK] at hm
                have hKb : K ≤ 300 := by omega
                by_cases hov : m < z + K
                · rw [if_pos hov] at hm
                  have HM := Lib.hid hm
                  have hov2 : (m : Int) - (z : Int) < (K : Int) := by omega
                  clear hm
                  go_wp2_with fail
                  refine HRD.out.mono ?_
                  rintro e w2 ⟨rfl, ho2, hr2⟩
                  have HO := Lib.hid (HRA.out.only.trans ho2)
                  have HR2 := Lib.hid hr2
                  clear hr2 ho2 HRD HNX
                  go_wp2_with fail
                  refine (HNB.out _ (HR2.out.new ((Only.refl _ w2).alloc _))).mono ?_
                  rintro e w3 ⟨rfl, ho3, _⟩
                  have HO3 : Hid (Only (· = p.r) w w3) := Lib.hid ((HO.out.alloc _).trans ho3)
                  clear ho3 HNB
                  go_wp2
                  go_ret2
                  exact ⟨HO3.out.alloc _, by rw [← HM.out]; rfl⟩
                · rw [if_neg hov] at hm
                  have hov2 : ¬ (m : Int) - (z : Int) < (K : Int) := by omega
                  obtain ⟨L, hL⟩ : ∃ L, o.getD (z - 1) 0 = L := ⟨_, rfl⟩
                  rw [hL] at hm
                  have HM := Lib.hid hm
                  clear hm
                  go_wp2_with fail
                  refine HRD.out.mono ?_
                  rintro e w2 ⟨rfl, ho2, hr2⟩
                  obtain ⟨ha2, hs2⟩ := HNX.out w2 ho2 hr2
                  have HA2 := Lib.hid ha2
                  have HS2 := Lib.hid hs2
                  clear hr2 ho2 HRD HNX ha2 hs2
                  go_wp2_with fail
                  refine (HNB.out _ (HA2.out.rf.new ((Only.refl _ w2).alloc _))).mono ?_
                  rintro e w3 ⟨rfl, ho3, hr3⟩
                  have oa : Only (· = p.r) w2 w3 := ((Only.refl _ w2).alloc _).trans ho3
                  have o4 : Only (fun _ => False) w3 (w3.alloc (.cells #[.int .i64 3, .int .i64 3, .int .i64 11] 3)) := (Only.refl _ w3).alloc _
                  have ha3' := HA2.out.read oa (hr3 rfl)
                  have HA4 := Lib.hid (ha3'.new o4)
                  have HS4 := Lib.hid ((HS2.out.off oa fun j hj e => HLR.out j hj e).new o4)
                  have g0 := (Is.new w3 3 [.int .i64 3, .int .i64 3, .int .i64 11]).cell 0 rfl
                  have g1 := (Is.new w3 3 [.int .i64 3, .int .i64 3, .int .i64 11]).cell 1 rfl
                  have g2 := (Is.new w3 3 [.int .i64 3, .int .i64 3, .int .i64 11]).cell 2 rfl
                  obtain ⟨w4, hw4⟩ : ∃ w4, w3.alloc (.cells #[.int .i64 3, .int .i64 3, .int .i64 11] 3) = w4 := ⟨_, rfl⟩
                  have HKS2 : Hid (∀ w5, Only (Lies Ao) w4 w5 → See w5 Bd Al (ints l)) := Lib.hid fun w5 o5 => by
                    rw [hw4] at HS4 HA4
                    exact HS4.out.off o5 fun j hj e => by have := HA4.out.lies j e; have := HLL.out j hj; omega
                  have gg0 : (w3.alloc (.cells #[.int .i64 3, .int .i64 3, .int .i64 11] 3)).cell? ⟨w3.heap.size, 0, none⟩ = some (.int .i64 3) := (Is.new w3 3 [.int .i64 3, .int .i64 3, .int .i64 11]).cell 0 rfl
                  rw [hw4] at HA4 HS4 gg0
                  clear ho3 hr3 HNB oa o4 ha3' HA2 HS2 g0 g1 g2
                  obtain ⟨gq, eA, clq, _⟩ := HA4.out.row.cell (ints_at o (z - 1) (by omega))
                  subst eA
                  have hln : ln o (z - 1) = L := hL
                  rw [hln] at clq
                  have ez : (z : Int) - 1 = ((z - 1 : Nat) : Int) := by omega
                  have ez2 : z - 1 < z := by omega
                  obtain ⟨zi, hzi⟩ : ∃ zi, z - 1 = zi := ⟨_, rfl⟩
                  rw [hzi] at clq ez ez2
                  clear hln hL hzi
                  go_wp2_with fail
                  refine (dsame (some ⟨gq, 0, none⟩) z co K L o w4 HA4.out.row (by omega) (by omega)).mono ?_
                  rintro e w5 ⟨A9, c9, rfl, r9, o9, l9⟩
                  have H9 := Lib.hid (HA4.out.more r9 (by rw [List.length_replicate]) o9 l9)
                  have HS9 := Lib.hid (HKS2.out w5 o9)
                  clear r9 o9 l9 HKS2 HA4 HS4
                  go_wp2_with fail
                  go_roundg f
                  case measure => omega
                  case rel => exact ⟨a2 + 2, A9, z + K, c9, _, by first | rfl | go_num, by omega, by omega, ha3, H9, HS9, HM⟩
          · rw [if_neg (fun h => by have h1 := h.1; omega), if_neg (show ¬ ((17 : Nat) = 16) from by decide)] at hm
            have HNB := Lib.hid (fun wx h' => HN.out 3 wx a2 h' m2 (by decide))
            rw [show tw 17 = 3 from rfl, show tv 17 = 3 from rfl] at hm
            have hnm := nm_lt p.B a2 3
            obtain ⟨X, hX⟩ : ∃ X, nm p.B a2 3 = X := ⟨_, rfl⟩
            rw [hX] at hm hnm HNB
            have hX2 : X ≤ 127 := by omega
            clear hnm hX
            by_cases hend : p.nB < a2 + 3
            · rw [if_pos hend] at hm HNB
              have HM := Lib.hid hm
              clear hm
              go_wp2_with fail
              refine HRD.out.mono ?_
              rintro e w2 ⟨rfl, ho2, hr2⟩
              have HO := Lib.hid (HRA.out.only.trans ho2)
              have HR2 := Lib.hid hr2
              clear hr2 ho2 HRD HNX
              go_wp2_with fail
              refine (HNB.out _ (HR2.out.new ((Only.refl _ w2).alloc _))).mono ?_
              rintro e w3 ⟨rfl, ho3, _⟩
              have HO3 : Hid (Only (· = p.r) w w3) := Lib.hid ((HO.out.alloc _).trans ho3)
              clear ho3 HNB
              go_wp2
              go_ret2
              exact ⟨HO3.out, by rw [← HM.out]; rfl⟩
            · rw [if_neg hend] at hm HNB
              have ha3 : a2 + 3 ≤ p.nB := by omega
              obtain ⟨K, hK⟩ : ∃ K, 3 + X = K := ⟨_, rfl⟩
              have hK2 : (X : Int) + 3 = (K : Int) := by omega
              rw [hK] at hm
              have hKb : K ≤ 300 := by omega
              by_cases hov : m < z + K
              · rw [if_pos hov] at hm
                have HM := Lib.hid hm
                have hov2 : (m : Int) - (z : Int) < (K : Int) := by omega
                clear hm
                go_wp2_with fail
                refine HRD.out.mono ?_
                rintro e w2 ⟨rfl, ho2, hr2⟩
                have HO := Lib.hid (HRA.out.only.trans ho2)
                have HR2 := Lib.hid hr2
                clear hr2 ho2 HRD HNX
                go_wp2_with fail
                refine (HNB.out _ (HR2.out.new ((Only.refl _ w2).alloc _))).mono ?_
                rintro e w3 ⟨rfl, ho3, _⟩
                have HO3 : Hid (Only (· = p.r) w w3) := Lib.hid ((HO.out.alloc _).trans ho3)
                clear ho3 HNB
                go_wp2
                go_ret2
                exact ⟨HO3.out.alloc _, by rw [← HM.out]; rfl⟩
              · rw [if_neg hov] at hm
                have hov2 : ¬ (m : Int) - (z : Int) < (K : Int) := by omega
                have HM := Lib.hid hm
                clear hm
                go_wp2_with fail
                refine HRD.out.mono ?_
                rintro e w2 ⟨rfl, ho2, hr2⟩
                obtain ⟨ha2, hs2⟩ := HNX.out w2 ho2 hr2
                have HA2 := Lib.hid ha2
                have HS2 := Lib.hid hs2
                clear hr2 ho2 HRD HNX ha2 hs2
                go_wp2_with fail
                refine (HNB.out _ (HA2.out.rf.new ((Only.refl _ w2).alloc _))).mono ?_
                rintro e w3 ⟨rfl, ho3, hr3⟩
                have oa : Only (· = p.r) w2 w3 := ((Only.refl _ w2).alloc _).trans ho3
                have o4 : Only (fun _ => False) w3 (w3.alloc (.cells #[.int .i64 3, .int .i64 3, .int .i64 11] 3)) := (Only.refl _ w3).alloc _
                have ha3' := HA2.out.read oa (hr3 rfl)
                have HA4 := Lib.hid (ha3'.new o4)
                have HS4 := Lib.hid ((HS2.out.off oa fun j hj e => HLR.out j hj e).new o4)
                have g0 := (Is.new w3 3 [.int .i64 3, .int .i64 3, .int .i64 11]).cell 0 rfl
                have g1 := (Is.new w3 3 [.int .i64 3, .int .i64 3, .int .i64 11]).cell 1 rfl
                have g2 := (Is.new w3 3 [.int .i64 3, .int .i64 3, .int .i64 11]).cell 2 rfl
                obtain ⟨w4, hw4⟩ : ∃ w4, w3.alloc (.cells #[.int .i64 3, .int .i64 3, .int .i64 11] 3) = w4 := ⟨_, rfl⟩
                have HKS2 : Hid (∀ w5, Only (Lies Ao) w4 w5 → See w5 Bd Al (ints l)) := Lib.hid fun w5 o5 => by
                  rw [hw4] at HS4 HA4
                  exact HS4.out.off o5 fun j hj e => by have := HA4.out.lies j e; have := HLL.out j hj; omega
                have gg0 : (w3.alloc (.cells #[.int .i64 3, .int .i64 3, .int .i64 11] 3)).cell? ⟨w3.heap.size, 1, none⟩ = some (.int .i64 3) := (Is.new w3 3 [.int .i64 3, .int .i64 3, .int .i64 11]).cell 1 rfl
                rw [hw4] at HA4 HS4 gg0
                clear ho3 hr3 HNB oa o4 ha3' HA2 HS2 g0 g1 g2
                go_wp2_with fail
                refine (dsame Ao z co K 0 o w4 HA4.out.row (by omega) (by omega)).mono ?_
                rintro e w5 ⟨A9, c9, rfl, r9, o9, l9⟩
                have H9 := Lib.hid (HA4.out.more r9 (by rw [List.length_replicate]) o9 l9)
                have HS9 := Lib.hid (HKS2.out w5 o9)
                clear r9 o9 l9 HKS2 HA4 HS4
                go_wp2_with fail
                go_roundg f
                case measure => omega
                case rel => exact ⟨a2 + 3, A9, z + K, c9, _, by first | rfl | go_num, by omega, by omega, ha3, H9, HS9, HM⟩
          · rw [if_neg (fun h => by have h1 := h.1; omega), if_neg (show ¬ ((18 : Nat) = 16) from by decide)] at hm
            have HNB := Lib.hid (fun wx h' => HN.out 7 wx a2 h' m2 (by decide))
            rw [show tw 18 = 7 from rfl, show tv 18 = 11 from rfl] at hm
            have hnm := nm_lt p.B a2 7
            obtain ⟨X, hX⟩ : ∃ X, nm p.B a2 7 = X := ⟨_, rfl⟩
            rw [hX] at hm hnm HNB
            have hX2 : X ≤ 127 := by omega
            clear hnm hX
            by_cases hend : p.nB < a2 + 7
            · rw [if_pos hend] at hm HNB
              have HM := Lib.hid hm
              clear hm
              go_wp2_with fail
              refine HRD.out.mono ?_
              rintro e w2 ⟨rfl, ho2, hr2⟩
              have HO := Lib.hid (HRA.out.only.trans ho2)
              have HR2 := Lib.hid hr2
              clear hr2 ho2 HRD HNX
              go_wp2_with fail
              refine (HNB.out _ (HR2.out.new ((Only.refl _ w2).alloc _))).mono ?_
              rintro e w3 ⟨rfl, ho3, _⟩
              have HO3 : Hid (Only (· = p.r) w w3) := Lib.hid ((HO.out.alloc _).trans ho3)
              clear ho3 HNB
              go_wp2
              go_ret2
              exact ⟨HO3.out, by rw [← HM.out]; rfl⟩
            · rw [if_neg hend] at hm HNB
              have ha3 : a2 + 7 ≤ p.nB := by omega
              obtain ⟨K, hK⟩ : ∃ K, 11 + X = K := ⟨_, rfl⟩
              have hK2 : (X : Int) + 11 = (K : Int) := by omega
              rw [hK] at hm
              have hKb : K ≤ 300 := by omega
              by_cases hov : m < z + K
              · rw [if_pos hov] at hm
                have HM := Lib.hid hm
                have hov2 : (m : Int) - (z : Int) < (K : Int) := by omega
                clear hm
                go_wp2_with fail
                refine HRD.out.mono ?_
                rintro e w2 ⟨rfl, ho2, hr2⟩
                have HO := Lib.hid (HRA.out.only.trans ho2)
                have HR2 := Lib.hid hr2
                clear hr2 ho2 HRD HNX
                go_wp2_with fail
                refine (HNB.out _ (HR2.out.new ((Only.refl _ w2).alloc _))).mono ?_
                rintro e w3 ⟨rfl, ho3, _⟩
                have HO3 : Hid (Only (· = p.r) w w3) := Lib.hid ((HO.out.alloc _).trans ho3)
                clear ho3 HNB
                go_wp2
                go_ret2
                exact ⟨HO3.out.alloc _, by rw [← HM.out]; rfl⟩
              · rw [if_neg hov] at hm
                have hov2 : ¬ (m : Int) - (z : Int) < (K : Int) := by omega
                have HM := Lib.hid hm
                clear hm
                go_wp2_with fail
                refine HRD.out.mono ?_
                rintro e w2 ⟨rfl, ho2, hr2⟩
                obtain ⟨ha2, hs2⟩ := HNX.out w2 ho2 hr2
                have HA2 := Lib.hid ha2
                have HS2 := Lib.hid hs2
                clear hr2 ho2 HRD HNX ha2 hs2
                go_wp2_with fail
                refine (HNB.out _ (HA2.out.rf.new ((Only.refl _ w2).alloc _))).mono ?_
                rintro e w3 ⟨rfl, ho3, hr3⟩
                have oa : Only (· = p.r) w2 w3 := ((Only.refl _ w2).alloc _).trans ho3
                have o4 : Only (fun _ => False) w3 (w3.alloc (.cells #[.int .i64 3, .int .i64 3, .int .i64 11] 3)) := (Only.refl _ w3).alloc _
                have ha3' := HA2.out.read oa (hr3 rfl)
                have HA4 := Lib.hid (ha3'.new o4)
                have HS4 := Lib.hid ((HS2.out.off oa fun j hj e => HLR.out j hj e).new o4)
                have g0 := (Is.new w3 3 [.int .i64 3, .int .i64 3, .int .i64 11]).cell 0 rfl
                have g1 := (Is.new w3 3 [.int .i64 3, .int .i64 3, .int .i64 11]).cell 1 rfl
                have g2 := (Is.new w3 3 [.int .i64 3, .int .i64 3, .int .i64 11]).cell 2 rfl
                obtain ⟨w4, hw4⟩ : ∃ w4, w3.alloc (.cells #[.int .i64 3, .int .i64 3, .int .i64 11] 3) = w4 := ⟨_, rfl⟩
                have HKS2 : Hid (∀ w5, Only (Lies Ao) w4 w5 → See w5 Bd Al (ints l)) := Lib.hid fun w5 o5 => by
                  rw [hw4] at HS4 HA4
                  exact HS4.out.off o5 fun j hj e => by have := HA4.out.lies j e; have := HLL.out j hj; omega
                have gg0 : (w3.alloc (.cells #[.int .i64 3, .int .i64 3, .int .i64 11] 3)).cell? ⟨w3.heap.size, 2, none⟩ = some (.int .i64 11) := (Is.new w3 3 [.int .i64 3, .int .i64 3, .int .i64 11]).cell 2 rfl
                rw [hw4] at HA4 HS4 gg0
                clear ho3 hr3 HNB oa o4 ha3' HA2 HS2 g0 g1 g2
                go_wp2_with fail
                refine (dsame Ao z co K 0 o w4 HA4.out.row (by omega) (by omega)).mono ?_
                rintro e w5 ⟨A9, c9, rfl, r9, o9, l9⟩
                have H9 := Lib.hid (HA4.out.more r9 (by rw [List.length_replicate]) o9 l9)
                have HS9 := Lib.hid (HKS2.out w5 o9)
                clear r9 o9 l9 HKS2 HA4 HS4
                go_wp2_with fail
                go_roundg f
                case measure => omega
                case rel => exact ⟨a2 + 7, A9, z + K, c9, _, by first | rfl | go_num, by omega, by omega, ha3, H9, HS9, HM⟩
      · rw [if_pos hx] at hm
        have hx2 : ¬ (x : Int) = 0 := by omega
        have HM := Lib.hid hm
        clear hm hmv
        go_wp2_with fail
        refine HRD.out.mono ?_
        rintro e w2 ⟨rfl, ho2, hr2⟩
        have HO := Lib.hid (HRA.out.only.trans ho2)
        clear hr2 ho2 HRD HNX
        go_wp2
        go_ret2
        exact ⟨HO.out, by rw [← HM.out, if_pos hx]; rfl⟩
    · obtain rfl : z = m := by omega
      have hm := HR0.out
      rw [mRow_full _ _ _ _ _ _ (by rw [hozl]; exact Nat.le_refl _)] at hm
      have HM := Lib.hid hm
      clear hm HR0
      go_wp2
      go_ret2
      refine ⟨HRA.out.only, ?_⟩
      rw [← HM.out, if_neg (by simp)]
      exact ⟨Ao, co, rfl, HRA.out⟩
end Go.Proofs.YtoclbodmibagpaaGreat

/- Layer 8, the document: symbols up to a block's end. -/
namespace Go.Proofs.YtoclbodmibagpaaGreat
open Go.RowKit

structure CAtR (p : RP) (w : World) (A : Option Addr) (kv : Value) (Bd : Nat) (Aa Ab : Option Addr) (la lb : List Nat) (a : Nat) (A' : Option Addr) (n c : Nat) (out : List UInt8) (wx : World) : Prop where
  rf : Rf p wx a A' n c kv out
  only : Only (MineR p.r A) w wx
  lies : ∀ j, Lies A' j → Lies A j ∨ w.heap.size ≤ j
  sa : See wx Bd Aa (ints la)
  sb : See wx Bd Ab (ints lb)
  far : ∀ j, Lies Aa j ∨ Lies Ab j → ¬ MineR p.r A' j
  lt : ∀ j, Lies Aa j ∨ Lies Ab j → j < w.heap.size

section
variable {p : RP} {w wx wy : World} {A A' Aa Ab : Option Addr} {kv : Value} {Bd a n c : Nat} {la lb : List Nat} {out : List UInt8}
theorem CAtR.read (h : CAtR p w A kv Bd Aa Ab la lb a A' n c out wx) (k : Only (· = p.r) wx wy) {a2 : Nat} (hr : Rf p wy a2 A' n c kv out) : CAtR p w A kv Bd Aa Ab la lb a2 A' n c out wy :=
  ⟨hr, h.only.trans (k.mono fun _ e => .inl e), h.lies, h.sa.off k (fun j hj e => h.far j (.inl hj) (.inl e)), h.sb.off k (fun j hj e => h.far j (.inr hj) (.inl e)), h.far, h.lt⟩
theorem CAtR.next (h : CAtR p w A kv Bd Aa Ab la lb a A' n c out wx) {r : Ans} {e : Ending} (hd : DoneR p wx A' kv r e wy) (h0 : r.1 = 0) : ∃ A2 c2, CAtR p w A kv Bd Aa Ab la lb r.2.1 A2 r.2.2.length c2 r.2.2 wy := by
  obtain ⟨_, ho, hk⟩ := hd
  obtain ⟨A2, c2, g1, g3⟩ := hk h0
  refine ⟨A2, c2, g1, h.only.andThen ho ?_, fun j hj => ?_, h.sa.off ho (fun j hj => h.far j (.inl hj)), h.sb.off ho (fun j hj => h.far j (.inr hj)), fun j hj => ?_, h.lt⟩
  · rintro j (e | e)
    · exact .inl (.inl e)
    · exact (h.lies j e).imp (fun x => .inr x) id
  · exact (g3 j hj).elim (h.lies j) fun x => .inr (Nat.le_trans h.only.size x)
  · have h1 := h.far j hj
    have h2 := h.lt j hj
    have h3 := h.only.size
    rintro (e | e)
    · exact h1 (.inl e)
    · exact (g3 j e).elim (fun x => h1 (.inr x)) (fun x => by omega)
theorem CAtR.bad (h : CAtR p w A kv Bd Aa Ab la lb a A' n c out wx) {r : Ans} {e : Ending} (hd : DoneR p wx A' kv r e wy) : Only (MineR p.r A) w wy := by
  refine h.only.andThen hd.2.1 ?_
  rintro j (e | e)
  · exact .inl (.inl e)
  · exact (h.lies j e).imp (fun x => .inr x) id
theorem CAtR.done (h : CAtR p w A kv Bd Aa Ab la lb a A' n c out wx) {r : Ans} (hr : r = (0, a, out)) : DoneR p w A kv r (.returned (.int .i64 0)) wx := by
  subst hr
  exact ⟨rfl, h.only, fun _ => ⟨A', c, by rw [h.rf.len]; exact h.rf, h.lies⟩⟩
end

set_option maxRecDepth 100000 in
set_option maxHeartbeats 4000000 in
theorem dcoded (p : RP) (hp : RB p) (a : Nat) (A : Option Addr) (n c : Nat) (kv : Value) (out : List UInt8) (Bd : Nat) (Aa Ab : Option Addr) (na ca nb cb : Nat) (la lb : List Nat) (w : World) (h : Rf p w a A n c kv out) (ha : a ≤ p.nB) (hsa : See w Bd Aa (ints la)) (hsb : See w Bd Ab (ints lb)) (hna : la.length = na) (hnb : lb.length = nb)
    (far : ∀ j, Lies Aa j ∨ Lies Ab j → ¬ MineR p.r A j) (hlt : ∀ j, Lies Aa j ∨ Lies Ab j → j < w.heap.size) (hla : Lens la) (hlb : Lens lb) (ka : (kd la).2 = 0) (kb : (kd lb).2 = 0) (hn : n ≤ 100000) (hmost : p.most ≤ 100000) :
    Calls Tryz.prog 68 #[.pointer (some ⟨p.r, 0, none⟩), .slice Aa na ca, .slice Ab nb cb] w (DoneR p w A kv (mCoded p.B la lb p.most (p.nB + 1) a out)) := by
  obtain ⟨r, hr0⟩ : ∃ r, mCoded p.B la lb p.most (p.nB + 1) a out = r := ⟨_, rfl⟩
  rw [hr0]
  have HST : Hid (CAtR p w A kv Bd Aa Ab la lb a A n c out w) := Lib.hid ⟨h, Only.refl _ _, fun j hj => .inl hj, hsa, hsb, far, hlt⟩
  have HR0 := Lib.hid hr0
  have HLA := Lib.hid hla
  have HLB := Lib.hid hlb
  have HP := Lib.hid hp
  have hpl := hp.len
  have hple := hp.le
  clear h far hlt hr0 hla hlb hsa hsb hp
  go_enter Tryz.func68, Tryz.ntmps68
  go_wp2_with fail
  go_loopg [7, 8, 9] (p.nB + 1) (fun gk u1 u2 u3 wx => ∃ (a : Nat) (A' : Option Addr) (n c : Nat) (out : List UInt8), a ≤ p.nB ∧ p.nB < a + gk ∧ n ≤ 100000 ∧ Hid (CAtR p w A kv Bd Aa Ab la lb a A' n c out wx) ∧ Hid (mCoded p.B la lb p.most gk a out = r))
  case atStart => exact ⟨a, A, n, c, out, ha, by omega, hn, HST, HR0⟩
  case round =>
    clear HST HR0 hn ha
    obtain ⟨a, A', n, c, out, ha, hgk, hn, HC, HR0⟩ := hrel
    obtain ⟨f, rfl⟩ : ∃ f, gk = f + 1 := ⟨gk - 1, by omega⟩
    have hm := HR0.out
    rw [mCoded_step] at hm
    have HC1 := HC.out
    have HRD := Lib.hid (dsymbol p HP.out a A' n c kv out Aa na ca Bd la wr HC1.rf ha HC1.sa hna HLA.out ka)
    have hmv := rdp_moves la p.B a
    have hsy := rdp_symbol la p.B a HLA.out.len
    rw [hpl] at hmv
    obtain ⟨⟨y, a2, x⟩, hq⟩ : ∃ q, rdp la p.B a = q := ⟨_, rfl⟩
    rw [hq] at HRD hm hmv hsy
    simp only at hm hmv hsy
    have HCD : Hid (∀ w2 a2, Only (· = p.r) wr w2 → Rf p w2 a2 A' n c kv out → CAtR p w A kv Bd Aa Ab la lb a2 A' n c out w2) := Lib.hid fun w2 a2 ho hr2 => HC1.read ho hr2
    have HOD : Hid (∀ w2, Only (· = p.r) wr w2 → Only (MineR p.r A) w w2) := Lib.hid fun w2 ho => HC1.only.trans (ho.mono fun _ e => .inl e)
    clear HC1 hq HC HR0
    go_wp2_with fail
    refine HRD.out.mono ?_
    rintro e w2 ⟨rfl, ho2, hr2⟩
    by_cases hx : x = 0
    · subst hx
      rw [if_neg (by simp)] at hm
      obtain ⟨m1, m2⟩ := hmv rfl
      have HC2 := Lib.hid (HCD.out w2 a2 ho2 hr2)
      clear hmv hr2 ho2 HCD HOD HRD
      by_cases hy : y = 256
      · rw [if_pos hy] at hm
        have HD := Lib.hid (HC2.out.done hm.symm)
        subst hy
        clear hm
        go_wp2
        go_ret
        exact HD.out
      · rw [if_neg hy] at hm
        have hy1 : ¬ (y : Int) = 256 := by omega
        by_cases hy2 : y < 256
        · rw [if_pos hy2] at hm
          have hy3 : ¬ (256 : Int) < (y : Int) := by omega
          have hylt : (y : Int) < 256 := by omega
          have hol := HC2.out.rf.len
          rw [hol] at hm
          have d2 := HC2.out.rf.is.cell 2 rfl
          have d3 := HC2.out.rf.is.cell 3 rfl
          have ew : IntKind.u8.wrap (y : Int) = (y : Int) := by rw [IntKind.wrap_u8']; omega
          by_cases hroom : p.most < (n : Int) + 1
          · rw [if_pos hroom] at hm
            have HM := Lib.hid hm
            have hge : p.most ≤ (n : Int) := by omega
            clear hm hroom
            go_wp2_with fail
            go_quiet (fail)
            go_wp2
            go_ret
            rw [← HM.out]
            exact ⟨rfl, HC2.out.only.drewN _, fun h => by cases h⟩
          · rw [if_neg hroom] at hm
            have HM := Lib.hid hm
            have hge : ¬ p.most ≤ (n : Int) := by omega
            have hnb : n + 1 ≤ 100000 := by omega
            have eb : (UInt8.ofNat y).toNat = y := by rw [UInt8.toNat_ofNat']; omega
            have HEB := Lib.hid eb
            clear hm hroom eb
            go_wp2_with fail
            go_quiet (fail)
            have HC3 : Hid (CAtR p w A kv Bd Aa Ab la lb a2 A' n c out (w2.drewN nq)) := Lib.hid (HC2.out.read ((Only.refl _ w2).drewN nq) (HC2.out.rf.new ((Only.refl _ w2).drewN nq)))
            have c2' : (w2.drewN nq).cell? ⟨p.r, 2, none⟩ = some (.slice A' n c) := d2
            obtain ⟨w3, hw3⟩ : ∃ w3, w2.drewN nq = w3 := ⟨_, rfl⟩
            rw [hw3] at HC3 c2' ⊢
            have HAW : Hid (CAtR p w A kv Bd Aa Ab la lb a2 A' n c out (w3.alloc (.cells #[.int .u8 (y : Nat)] 5))) := Lib.hid (HC3.out.read ((Only.refl _ w3).alloc _) (HC3.out.rf.new ((Only.refl _ w3).alloc _)))
            have HSR := Lib.hid (Src.oneInt Tryz.underlying34 w3 .u8 y 1 5)
            obtain ⟨wy, hwy⟩ : ∃ wy, w3.alloc (.cells #[.int .u8 (y : Nat)] 5) = wy := ⟨_, rfl⟩
            rw [hwy] at HAW HSR
            have HFN : Hid (∀ A9 c9 w9, Row 5 w9 A9 (n + 1) c9 (bcells out ++ [.int .u8 (y : Nat)]) → Only (Lies A') wy w9 → (A9 = A' ∨ A9 = some ⟨wy.heap.size, 0, none⟩) →
                CAtR p w A kv Bd Aa Ab la lb a2 A9 (n + 1) c9 (out ++ [UInt8.ofNat y]) (w9.setCell ⟨p.r, 2, none⟩ (.slice A9 (n + 1) c9)) ∧ w9.cell? ⟨p.r, 2, none⟩ = some (.slice A' n c) ∧ w9.frozen? ⟨p.r, 2, none⟩ = false) := Lib.hid fun A9 c9 w9 r1 r2 r3 => by
              rw [← HEB.out, bcells_snoc] at r1
              obtain ⟨f1, f2, f3⟩ := HAW.out.rf.append r1 rfl r2 r3
              have i9 := HAW.out.rf.is.only r2 (fun e => Nat.lt_irrefl _ (HAW.out.rf.an _ e))
              refine ⟨⟨f1, HAW.out.only.andThen f2 ?_, fun j hj => ?_, HAW.out.sa.off f2 (fun j hj => HAW.out.far j (.inl hj)), HAW.out.sb.off f2 (fun j hj => HAW.out.far j (.inr hj)), fun j hj => ?_, HAW.out.lt⟩, i9.cell 2 rfl, i9.frozen 2⟩
              · rintro j (e | e)
                · exact .inl (.inl e)
                · exact (HAW.out.lies j e).imp (fun x => .inr x) id
              · exact (f3 j hj).elim (HAW.out.lies j) fun x => .inr (Nat.le_trans HAW.out.only.size x)
              · have h1 := HAW.out.far j hj
                have h2 := HAW.out.lt j hj
                have h3 := HAW.out.only.size
                rintro (e | e)
                · exact h1 (.inl e)
                · exact (f3 j e).elim (fun x => h1 (.inr x)) (fun x => by omega)
            clear HC2 HC3 d2 d3
            go_upto_region 12 with fail
            go_wp2_with (at_builtin
                         refine wpList_append_row rfl (.tmp 44) (.tmp 47) 34 34 5 rfl Tryz.underlying34 info5 A' n c 1 (bcells out) [.int .u8 (y : Nat)] (.slice (some ⟨w3.heap.size, 0, none⟩) 1 1) (by rfl) (by rfl) HAW.out.rf.row rfl HSR.out (by omega) (by omega) ?_
                         intro A9 c9 w9 hrow9 honly9 hlies9
                         obtain ⟨h9, q1, q2⟩ := HFN.out A9 c9 w9 hrow9 honly9 hlies9
                         have H9 := Lib.hid h9
                         clear hrow9 honly9 hlies9 h9)
            go_roundg f
            case measure => omega
            case rel => exact ⟨a2, A9, n + 1, c9, _, m2, by omega, hnb, H9, HM⟩
        · rw [if_neg hy2] at hm
          have hy3 : (256 : Int) < (y : Int) := by omega
          have hsev := dback p HP.out a2 A' n c kv out Ab nb cb Bd lb y w2 HC2.out.rf m2 HC2.out.sb (fun j hj e => HC2.out.far j (.inr hj) (.inl e)) hnb HLB.out kb hn hmost (by omega) (by omega)
          have hbo := mBack_ok p.B lb p.most y a2 out
          obtain ⟨⟨x3, a3, o3⟩, hq3⟩ : ∃ q, mBack p.B lb p.most y a2 out = q := ⟨_, rfl⟩
          rw [hq3] at hm hsev hbo
          simp only at hm hbo
          rw [hpl] at hbo
          have HSV := Lib.hid hsev
          clear hsev hq3
          by_cases hx3 : x3 = 0
          · subst hx3
            rw [if_neg (by simp)] at hm
            obtain ⟨n1, n2, n3⟩ := hbo rfl
            have HM := Lib.hid hm
            have HLN : Hid (o3.length ≤ 100000) := Lib.hid (by omega)
            clear hm hbo n3
            go_wp2_with fail
            refine HSV.out.mono ?_
            intro e w3 hd3
            obtain ⟨A3, c3, hc3⟩ := HC2.out.next hd3 rfl
            obtain ⟨rfl, _⟩ := hd3
            have HC3 := Lib.hid hc3
            clear hc3 HSV
            go_wp2_with fail
            go_roundg f
            case measure => omega
            case rel => exact ⟨a3, A3, _, c3, o3, n2, by omega, HLN.out, HC3, HM⟩
          · rw [if_pos hx3] at hm
            have hx4 : ¬ (x3 : Int) = 0 := by omega
            have HM := Lib.hid hm
            clear hm hbo
            go_wp2_with fail
            refine HSV.out.mono ?_
            intro e w3 hd3
            have ho3 := HC2.out.bad hd3
            obtain ⟨rfl, _⟩ := hd3
            have HO3 := Lib.hid ho3
            clear ho3 HSV
            go_wp2
            go_ret
            exact ⟨by rw [← HM.out]; rfl, HO3.out, by rw [← HM.out]; intro h; exact absurd h hx3⟩
    · rw [if_pos hx] at hm
      have hx4 : ¬ (x : Int) = 0 := by omega
      have HM := Lib.hid hm
      have HO3 := Lib.hid (HOD.out w2 ho2)
      clear hm hmv hr2 ho2 HCD HOD HRD
      go_wp2
      go_ret
      exact ⟨by rw [← HM.out]; rfl, HO3.out, by rw [← HM.out]; intro h; exact absurd h hx⟩
end Go.Proofs.YtoclbodmibagpaaGreat
