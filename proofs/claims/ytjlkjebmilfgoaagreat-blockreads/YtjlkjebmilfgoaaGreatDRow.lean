/- Layer 8, the document: a row of lengths; coded bytes; codes that are told. -/
import Derived.Test.YtjlkjebmilfgoaaGreatDBack
import Derived.Test.YtjlkjebmilfgoaaGreatIC
/- Layer 8, the document: a row of lengths; coded bytes. -/
/- Layer 8, the document: lengths by the first code. -/
namespace Go.Proofs.YtjlkjebmilfgoaaGreat
open Go.RowKit

/-- Where reading the lengths stands. -/
structure RAtD (p : RP) (w : World) (A : Option Addr) (n c : Nat) (kv : Value) (out : List UInt8) (a : Nat) (Ao : Option Addr) (z co : Nat) (o : List Nat) (wx : World) : Prop where
  rf : Rf p wx a A n c kv out
  row : Row 3 wx Ao z co (ints o)
  len : o.length = z
  only : Only (· = p.r) w wx
  lies : ∀ j, Lies Ao j → w.heap.size ≤ j
  rl : p.r < w.heap.size
  al : ∀ j, Lies A j → j < w.heap.size
section
variable {p : RP} {w wx wy : World} {A Ao A2 : Option Addr} {n c : Nat} {kv : Value} {out : List UInt8} {a a2 z co c2 m : Nat} {o r : List Nat}
theorem RAtD.read (h : RAtD p w A n c kv out a Ao z co o wx) (k : Only (· = p.r) wx wy) (hr : Rf p wy a2 A n c kv out) : RAtD p w A n c kv out a2 Ao z co o wy :=
  ⟨hr, h.row.only k (fun j hj e => by have := h.lies j hj; have := h.rl; omega), h.len, h.only.trans k, h.lies, h.rl, h.al⟩
theorem RAtD.new (h : RAtD p w A n c kv out a Ao z co o wx) (k : Only (fun _ => False) wx wy) : RAtD p w A n c kv out a Ao z co o wy :=
  ⟨h.rf.new k, h.row.only k (fun _ _ f => f), h.len, h.only.trans (k.mono fun _ f => f.elim), h.lies, h.rl, h.al⟩
theorem RAtD.more (h : RAtD p w A n c kv out a Ao z co o wx) (hr : Row 3 wy A2 (z + m) c2 (ints (o ++ r))) (hl : r.length = m) (ho : Only (Lies Ao) wx wy) (ha : ∀ j, Lies A2 j → Lies Ao j ∨ wx.heap.size ≤ j) : RAtD p w A n c kv out a A2 (z + m) c2 (o ++ r) wy := by
  have hsz := h.only.size
  have hrl := h.rl
  refine ⟨h.rf.keep ho (fun j hj e => by have := h.lies j e; omega) (fun j hj e => by have := h.lies j e; have := h.al j hj; omega), hr, by rw [List.length_append, h.len, hl], h.only.andThen ho fun j hj => .inr (h.lies j hj), fun j hj => (ha j hj).elim (h.lies j) (fun x => by omega), hrl, h.al⟩
end

def DRowPost (p : RP) (w : World) (A : Option Addr) (n c : Nat) (kv : Value) (out : List UInt8) (m : Nat) (r : Nat × Nat × List Nat) (e : Ending) (w' : World) : Prop := Only (· = p.r) w w' ∧
  if r.1 ≠ 0 then e = .returned (.tuple #[.slice none 0 0, .int .i64 r.1]) else ∃ Ao co, e = .returned (.tuple #[.slice Ao m co, .int .i64 0]) ∧ RAtD p w A n c kv out r.2.1 Ao m co r.2.2 w'

set_option maxRecDepth 100000 in
set_option maxHeartbeats 8000000 in
theorem drow_ (p : RP) (hp : RB p) (a : Nat) (A : Option Addr) (n c : Nat) (kv : Value) (out : List UInt8) (Al : Option Addr) (cl Bd : Nat) (l : List Nat) (m : Nat) (w : World) (h : Rf p w a A n c kv out) (ha : a ≤ p.nB) (hl : See w Bd Al (ints l)) (hlr : ∀ j, Lies Al j → j ≠ p.r) (hll : ∀ j, Lies Al j → j < w.heap.size)
    (h19 : l.length = 19) (hL : Lens l) (hk : (kd l).2 = 0) (hm1 : 1 ≤ m) (hm : m ≤ 400) :
    Calls Tryz.prog 96 #[.pointer (some ⟨p.r, 0, none⟩), .slice Al 19 cl, .int .i64 m] w (DRowPost p w A n c kv out m (mRow p.B l m m a [])) := by
  obtain ⟨R, hR⟩ : ∃ R, mRow p.B l m m a [] = R := ⟨_, rfl⟩
  rw [hR]
  have hple := hp.le
  have hpl := hp.len
  have H0 : Hid (RAtD p w A n c kv out a none 0 0 [] w) := Lib.hid ⟨h, Row.nil 3 w, rfl, Only.refl _ _, (by rintro j ⟨ad, e, _⟩; cases e), h.is.lt, h.row.lies⟩
  have HR := Lib.hid hR
  have HSY : Hid (∀ Ao z co o wx a', RAtD p w A n c kv out a' Ao z co o wx → a' ≤ p.nB → See wx Bd Al (ints l) → Calls Tryz.prog 97 #[.pointer (some ⟨p.r, 0, none⟩), .slice Al 19 cl] wx (DSym p wx A n c kv out (rdp l p.B a'))) := Lib.hid fun Ao z co o wx a' h' ha' hs' => dsymbol p hp a' A n c kv out Al 19 cl Bd l wx h'.rf ha' hs' h19 hL hk
  have HN : Hid (∀ v wx a', Rf p wx a' A n c kv out → a' ≤ p.nB → v ≤ 16 → Calls Tryz.prog 65 #[.pointer (some ⟨p.r, 0, none⟩), .int .i64 (v : Nat)] wx (DVal p wx A n c kv out (mNum p.B a' v))) := Lib.hid fun v wx a' h' ha' hv => dbits p hp a' v A n c kv out wx h' ha' hv
  unfold mNum at HN
  rw [hpl] at HN
  have HSE : Hid (See w Bd Al (ints l)) := Lib.hid hl
  have HLR := Lib.hid hlr
  have HLL := Lib.hid hll
  have h19' : l.length ≤ 19 := by omega
  clear h hR hp hl hlr hll hk hL h19
  go_enter Tryz.func96, Tryz.ntmps96
  go_wp2_with fail
  go_loopg [8, 9, 10, 11, 12, 13, 14] m (fun gk v u1 u2 u3 u4 u5 u6 wx => ∃ (a : Nat) (Ao : Option Addr) (z co : Nat) (o : List Nat), v = .slice Ao z co ∧ z ≤ m ∧ m ≤ z + gk ∧ a ≤ p.nB ∧ Hid (RAtD p w A n c kv out a Ao z co o wx) ∧ Hid (See wx Bd Al (ints l)) ∧ Hid (mRow p.B l m gk a o = R))
  case atStart => exact ⟨a, _, 0, 0, [], rfl, by omega, by omega, ha, H0, HSE, HR⟩
  case round =>
    clear H0 HR ha HSE
    obtain ⟨a, Ao, z, co, o, rfl, hz, hgk, ha, HRA, HSE, HR0⟩ := hrel
    have hozl := HRA.out.len
    by_cases hlt : z < m
    · obtain ⟨f, rfl⟩ : ∃ f, gk = f + 1 := ⟨gk - 1, by omega⟩
      have hm := HR0.out
      rw [mRow_step, hozl, if_neg (by omega), hpl] at hm
      have HRD := Lib.hid (HSY.out Ao z co o wr a HRA.out ha HSE.out)
      have hmv := rdp_moves l p.B a
      have hsy := rdp_symbol19 l p.B a h19'
      rw [hpl] at hmv
      obtain ⟨⟨y, a2, x⟩, hq⟩ : ∃ q, rdp l p.B a = q := ⟨_, rfl⟩
      rw [hq] at HRD hm hmv hsy
      simp only at hm hmv hsy
      clear hq HR0
      have HNX : Hid (∀ w2, Only (· = p.r) wr w2 → Rf p w2 a2 A n c kv out → RAtD p w A n c kv out a2 Ao z co o w2 ∧ See w2 Bd Al (ints l)) := Lib.hid fun w2 ho hr2 => ⟨HRA.out.read ho hr2, HSE.out.off ho fun j hj e => HLR.out j hj e⟩
      have HKS : Hid (∀ w2 w3, RAtD p w A n c kv out a2 Ao z co o w2 → See w2 Bd Al (ints l) → Only (Lies Ao) w2 w3 → See w3 Bd Al (ints l)) := Lib.hid fun w2 w3 h2 s2 o3 => s2.off o3 fun j hj e => by have := h2.lies j e; have := HLL.out j hj; omega
      by_cases hx : x = 0
      · subst hx
        rw [if_neg (by simp)] at hm
        obtain ⟨m1, m2⟩ := hmv rfl
        clear hmv
        by_cases hy : y < 16
        · rw [if_pos hy] at hm
          have hy2 : (y : Int) < 16 := by omega
          have HM := Lib.hid hm
          clear hm
          go_wp2_with fail
          refine HRD.out.mono ?_
          rintro e w2 ⟨rfl, ho2, hr2⟩
          obtain ⟨ha2, hs2⟩ := HNX.out w2 ho2 hr2
          have oa : Only (fun _ => False) w2 (w2.alloc (.cells #[.int .i64 (y : Nat)] 3)) := (Only.refl _ w2).alloc _
          have HAW := Lib.hid (ha2.new oa)
          have HSW := Lib.hid (hs2.new oa)
          have HSR := Lib.hid (Src.oneInt Tryz.underlying44 w2 .i64 y 1 3)
          obtain ⟨wy, hwy⟩ : ∃ wy, w2.alloc (.cells #[.int .i64 (y : Nat)] 3) = wy := ⟨_, rfl⟩
          rw [hwy] at HAW HSR HSW
          clear hr2 ho2 HRD HNX ha2 hs2 oa
          go_upto_region 7 with fail
          go_wp2_with (at_builtin
                       refine wpList_append_row rfl (.tmp 30) (.tmp 32) 44 44 3 rfl Tryz.underlying44 info3 Ao z co 1 (ints o) (ints [y]) (.slice (some ⟨w2.heap.size, 0, none⟩) 1 1) (by rfl) (by rfl) HAW.out.row rfl HSR.out (by omega) (by omega) ?_
                       intro A9 c9 w9 hrow9 honly9 hlies9
                       have H9 : Hid (RAtD p w A n c kv out a2 A9 (z + 1) c9 (o ++ [y]) w9) := Lib.hid (HAW.out.more (by rw [ints_append]; exact hrow9) rfl honly9 (by
                         intro j hj
                         rcases hlies9 with e | e
                         · exact .inl (e ▸ hj)
                         · obtain ⟨ad, e1, e2⟩ := hj
                           rw [e] at e1
                           obtain rfl := Option.some.inj e1
                           exact .inr (Nat.le_of_eq e2)))
                       have HS9 := Lib.hid (HKS.out wy w9 HAW.out HSW.out honly9)
                       clear hrow9 honly9 hlies9)
          go_roundg f
          case measure => omega
          case rel => exact ⟨a2, A9, z + 1, c9, o ++ [y], by first | rfl | go_num, by omega, by omega, m2, H9, HS9, HM⟩
        · rw [if_neg hy] at hm
          have hy3 : ¬ (y : Int) < 16 := by omega
          obtain rfl | rfl | rfl : y = 16 ∨ y = 17 ∨ y = 18 := by omega
          · by_cases hz0 : z = 0
            · rw [if_pos ⟨rfl, hz0⟩] at hm
              subst hz0
              have HM := Lib.hid hm
              clear hm
              go_wp2_with fail
              refine HRD.out.mono ?_
              rintro e w2 ⟨rfl, ho2, hr2⟩
              have HO := Lib.hid (HRA.out.only.trans ho2)
              clear hr2 ho2 HRD HNX
              go_wp2
              go_ret2
              exact ⟨HO.out, by rw [← HM.out]; rfl⟩
            · rw [if_neg (fun h => hz0 h.2), if_pos rfl] at hm
              have hzz : ¬ (z : Int) = 0 := by omega
              have hzb : ((z : Int) == 0) = false := by simp; omega
              have hzd : decide ((z : Int) = 0) = false := by simp; omega
              have HNB := Lib.hid (fun wx h' => HN.out 2 wx a2 h' m2 (by decide))
              rw [show tw 16 = 2 from rfl, show tv 16 = 3 from rfl] at hm
              have hnm := nm_lt p.B a2 2
              obtain ⟨X, hX⟩ : ∃ X, nm p.B a2 2 = X := ⟨_, rfl⟩
              rw [hX] at hm hnm HNB
              have hX2 : X ≤ 127 := by omega
              clear hnm hX
              by_cases hend : p.nB < a2 + 2
              · rw [if_pos hend] at hm HNB
                have HM := Lib.hid hm
                clear hm
                go_wp2_with fail
                refine HRD.out.mono ?_
                rintro e w2 ⟨rfl, ho2, hr2⟩
                have HO := Lib.hid (HRA.out.only.trans ho2)
                have HR2 := Lib.hid hr2
                clear hr2 ho2 HRD HNX
                go_wp2_with fail
                refine (HNB.out _ (HR2.out.new ((Only.refl _ w2).alloc _))).mono ?_
                rintro e w3 ⟨rfl, ho3, _⟩
                have HO3 : Hid (Only (· = p.r) w w3) := Lib.hid ((HO.out.alloc _).trans ho3)
                clear ho3 HNB
                go_wp2
                go_ret2
                exact ⟨HO3.out, by rw [← HM.out]; rfl⟩
              · rw [if_neg hend] at hm HNB
                have ha3 : a2 + 2 ≤ p.nB := by omega
                obtain ⟨K, hK⟩ : ∃ K, 3 + X = K := ⟨_, rfl⟩
                have hK2 : (X : Int) + 3 = (K : Int) := by omega
                rw [hK] at hm
                have hKb : K ≤ 300 := by omega
                by_cases hov : m < z + K
                · rw [if_pos hov] at hm
                  have HM := Lib.hid hm
                  have hov2 : (m : Int) - (z : Int) < (K : Int) := by omega
                  clear hm
                  go_wp2_with fail
                  refine HRD.out.mono ?_
                  rintro e w2 ⟨rfl, ho2, hr2⟩
                  have HO := Lib.hid (HRA.out.only.trans ho2)
                  have HR2 := Lib.hid hr2
                  clear hr2 ho2 HRD HNX
                  go_wp2_with fail
                  refine (HNB.out _ (HR2.out.new ((Only.refl _ w2).alloc _))).mono ?_
                  rintro e w3 ⟨rfl, ho3, _⟩
                  have HO3 : Hid (Only (· = p.r) w w3) := Lib.hid ((HO.out.alloc _).trans ho3)
                  clear ho3 HNB
                  go_wp2
                  go_ret2
                  exact ⟨HO3.out.alloc _, by rw [← HM.out]; rfl⟩
                · rw [if_neg hov] at hm
                  have hov2 : ¬ (m : Int) - (z : Int) < (K : Int) := by omega
                  obtain ⟨L, hL⟩ : ∃ L, o.getD (z - 1) 0 = L := ⟨_, rfl⟩
                  rw [hL] at hm
                  have HM := Lib.hid hm
                  clear hm
                  go_wp2_with fail
                  refine HRD.out.mono ?_
                  rintro e w2 ⟨rfl, ho2, hr2⟩
                  obtain ⟨ha2, hs2⟩ := HNX.out w2 ho2 hr2
                  have HA2 := Lib.hid ha2
                  have HS2 := Lib.hid hs2
                  clear hr2 ho2 HRD HNX ha2 hs2
                  go_wp2_with fail
                  refine (HNB.out _ (HA2.out.rf.new ((Only.refl _ w2).alloc _))).mono ?_
                  rintro e w3 ⟨rfl, ho3, hr3⟩
                  have oa : Only (· = p.r) w2 w3 := ((Only.refl _ w2).alloc _).trans ho3
                  have o4 : Only (fun _ => False) w3 (w3.alloc (.cells #[.int .i64 3, .int .i64 3, .int .i64 11] 3)) := (Only.refl _ w3).alloc _
                  have ha3' := HA2.out.read oa (hr3 rfl)
                  have HA4 := Lib.hid (ha3'.new o4)
                  have HS4 := Lib.hid ((HS2.out.off oa fun j hj e => HLR.out j hj e).new o4)
                  have g0 := (Is.new w3 3 [.int .i64 3, .int .i64 3, .int .i64 11]).cell 0 rfl
                  have g1 := (Is.new w3 3 [.int .i64 3, .int .i64 3, .int .i64 11]).cell 1 rfl
                  have g2 := (Is.new w3 3 [.int .i64 3, .int .i64 3, .int .i64 11]).cell 2 rfl
                  obtain ⟨w4, hw4⟩ : ∃ w4, w3.alloc (.cells #[.int .i64 3, .int .i64 3, .int .i64 11] 3) = w4 := ⟨_, rfl⟩
                  have HKS2 : Hid (∀ w5, Only (Lies Ao) w4 w5 → See w5 Bd Al (ints l)) := Lib.hid fun w5 o5 => by
                    rw [hw4] at HS4 HA4
                    exact HS4.out.off o5 fun j hj e => by have := HA4.out.lies j e; have := HLL.out j hj; omega
                  have gg0 : (w3.alloc (.cells #[.int .i64 3, .int .i64 3, .int .i64 11] 3)).cell? ⟨w3.heap.size, 0, none⟩ = some (.int .i64 3) := (Is.new w3 3 [.int .i64 3, .int .i64 3, .int .i64 11]).cell 0 rfl
                  rw [hw4] at HA4 HS4 gg0
                  clear ho3 hr3 HNB oa o4 ha3' HA2 HS2 g0 g1 g2
                  obtain ⟨gq, eA, clq, _⟩ := HA4.out.row.cell (ints_at o (z - 1) (by omega))
                  subst eA
                  have hln : ln o (z - 1) = L := hL
                  rw [hln] at clq
                  have ez : (z : Int) - 1 = ((z - 1 : Nat) : Int) := by omega
                  have ez2 : z - 1 < z := by omega
                  obtain ⟨zi, hzi⟩ : ∃ zi, z - 1 = zi := ⟨_, rfl⟩
                  rw [hzi] at clq ez ez2
                  clear hln hL hzi
                  go_wp2_with fail
                  refine (dsame (some ⟨gq, 0, none⟩) z co K L o w4 HA4.out.row (by omega) (by omega)).mono ?_
                  rintro e w5 ⟨A9, c9, rfl, r9, o9, l9⟩
                  have H9 := Lib.hid (HA4.out.more r9 (by rw [List.length_replicate]) o9 l9)
                  have HS9 := Lib.hid (HKS2.out w5 o9)
                  clear r9 o9 l9 HKS2 HA4 HS4
                  go_wp2_with fail
                  go_roundg f
                  case measure => omega
                  case rel => exact ⟨a2 + 2, A9, z + K, c9, _, by first | rfl | go_num, by omega, by omega, ha3, H9, HS9, HM⟩
          · rw [if_neg (fun h => by have h1 := h.1; omega), if_neg (show ¬ ((17 : Nat) = 16) from by decide)] at hm
            have HNB := Lib.hid (fun wx h' => HN.out 3 wx a2 h' m2 (by decide))
            rw [show tw 17 = 3 from rfl, show tv 17 = 3 from rfl] at hm
            have hnm := nm_lt p.B a2 3
            obtain ⟨X, hX⟩ : ∃ X, nm p.B a2 3 = X := ⟨_, rfl⟩
            rw [hX] at hm hnm HNB
            have hX2 : X ≤ 127 := by omega
            clear hnm hX
            by_cases hend : p.nB < a2 + 3
            · rw [if_pos hend] at hm HNB
              have HM := Lib.hid hm
              clear hm
              go_wp2_with fail
              refine HRD.out.mono ?_
              rintro e w2 ⟨rfl, ho2, hr2⟩
              have HO := Lib.hid (HRA.out.only.trans ho2)
              have HR2 := Lib.hid hr2
              clear hr2 ho2 HRD HNX
              go_wp2_with fail
              refine (HNB.out _ (HR2.out.new ((Only.refl _ w2).alloc _))).mono ?_
              rintro e w3 ⟨rfl, ho3, _⟩
              have HO3 : Hid (Only (· = p.r) w w3) := Lib.hid ((HO.out.alloc _).trans ho3)
              clear ho3 HNB
              go_wp2
              go_ret2
              exact ⟨HO3.out, by rw [← HM.out]; rfl⟩
            · rw [if_neg hend] at hm HNB
              have ha3 : a2 + 3 ≤ p.nB := by omega
              obtain ⟨K, hK⟩ : ∃ K, 3 + X = K := ⟨_, rfl⟩
              have hK2 : (X : Int) + 3 = (K : Int) := by omega
              rw [hK] at hm
              have hKb : K ≤ 300 := by omega
              by_cases hov : m < z + K
              · rw [if_pos hov] at hm
                have HM := Lib.hid hm
                have hov2 : (m : Int) - (z : Int) < (K : Int) := by omega
                clear hm
                go_wp2_with fail
                refine HRD.out.mono ?_
                rintro e w2 ⟨rfl, ho2, hr2⟩
                have HO := Lib.hid (HRA.out.only.trans ho2)
                have HR2 := Lib.hid hr2
                clear hr2 ho2 HRD HNX
                go_wp2_with fail
                refine (HNB.out _ (HR2.out.new ((Only.refl _ w2).alloc _))).mono ?_
                rintro e w3 ⟨rfl, ho3, _⟩
                have HO3 : Hid (Only (· = p.r) w w3) := Lib.hid ((HO.out.alloc _).trans ho3)
                clear ho3 HNB
                go_wp2
                go_ret2
                exact ⟨HO3.out.alloc _, by rw [← HM.out]; rfl⟩
              · rw [if_neg hov] at hm
                have hov2 : ¬ (m : Int) - (z : Int) < (K : Int) := by omega
                have HM := Lib.hid hm
                clear hm
                go_wp2_with fail
                refine HRD.out.mono ?_
                rintro e w2 ⟨rfl, ho2, hr2⟩
                obtain ⟨ha2, hs2⟩ := HNX.out w2 ho2 hr2
                have HA2 := Lib.hid ha2
                have HS2 := Lib.hid hs2
                clear hr2 ho2 HRD HNX ha2 hs2
                go_wp2_with fail
                refine (HNB.out _ (HA2.out.rf.new ((Only.refl _ w2).alloc _))).mono ?_
                rintro e w3 ⟨rfl, ho3, hr3⟩
                have oa : Only (· = p.r) w2 w3 := ((Only.refl _ w2).alloc _).trans ho3
                have o4 : Only (fun _ => False) w3 (w3.alloc (.cells #[.int .i64 3, .int .i64 3, .int .i64 11] 3)) := (Only.refl _ w3).alloc _
                have ha3' := HA2.out.read oa (hr3 rfl)
                have HA4 := Lib.hid (ha3'.new o4)
                have HS4 := Lib.hid ((HS2.out.off oa fun j hj e => HLR.out j hj e).new o4)
                have g0 := (Is.new w3 3 [.int .i64 3, .int .i64 3, .int .i64 11]).cell 0 rfl
                have g1 := (Is.new w3 3 [.int .i64 3, .int .i64 3, .int .i64 11]).cell 1 rfl
                have g2 := (Is.new w3 3 [.int .i64 3, .int .i64 3, .int .i64 11]).cell 2 rfl
                obtain ⟨w4, hw4⟩ : ∃ w4, w3.alloc (.cells #[.int .i64 3, .int .i64 3, .int .i64 11] 3) = w4 := ⟨_, rfl⟩
                have HKS2 : Hid (∀ w5, Only (Lies Ao) w4 w5 → See w5 Bd Al (ints l)) := Lib.hid fun w5 o5 => by
                  rw [hw4] at HS4 HA4
                  exact HS4.out.off o5 fun j hj e => by have := HA4.out.lies j e; have := HLL.out j hj; omega
                have gg0 : (w3.alloc (.cells #[.int .i64 3, .int .i64 3, .int .i64 11] 3)).cell? ⟨w3.heap.size, 1, none⟩ = some (.int .i64 3) := (Is.new w3 3 [.int .i64 3, .int .i64 3, .int .i64 11]).cell 1 rfl
                rw [hw4] at HA4 HS4 gg0
                clear ho3 hr3 HNB oa o4 ha3' HA2 HS2 g0 g1 g2
                go_wp2_with fail
                refine (dsame Ao z co K 0 o w4 HA4.out.row (by omega) (by omega)).mono ?_
                rintro e w5 ⟨A9, c9, rfl, r9, o9, l9⟩
                have H9 := Lib.hid (HA4.out.more r9 (by rw [List.length_replicate]) o9 l9)
                have HS9 := Lib.hid (HKS2.out w5 o9)
                clear r9 o9 l9 HKS2 HA4 HS4
                go_wp2_with fail
                go_roundg f
                case measure => omega
                case rel => exact ⟨a2 + 3, A9, z + K, c9, _, by first | rfl | go_num, by omega, by omega, ha3, H9, HS9, HM⟩
          · rw [if_neg (fun h => by have h1 := h.1; omega), if_neg (show ¬ ((18 : Nat) = 16) from by decide)] at hm
            have HNB := Lib.hid (fun wx h' => HN.out 7 wx a2 h' m2 (by decide))
            rw [show tw 18 = 7 from rfl, show tv 18 = 11 from rfl] at hm
            have hnm := nm_lt p.B a2 7
            obtain ⟨X, hX⟩ : ∃ X, nm p.B a2 7 = X := ⟨_, rfl⟩
            rw [hX] at hm hnm HNB
            have hX2 : X ≤ 127 := by omega
            clear hnm hX
            by_cases hend : p.nB < a2 + 7
            · rw [if_pos hend] at hm HNB
              have HM := Lib.hid hm
              clear hm
              go_wp2_with fail
              refine HRD.out.mono ?_
              rintro e w2 ⟨rfl, ho2, hr2⟩
              have HO := Lib.hid (HRA.out.only.trans ho2)
              have HR2 := Lib.hid hr2
              clear hr2 ho2 HRD HNX
              go_wp2_with fail
              refine (HNB.out _ (HR2.out.new ((Only.refl _ w2).alloc _))).mono ?_
              rintro e w3 ⟨rfl, ho3, _⟩
              have HO3 : Hid (Only (· = p.r) w w3) := Lib.hid ((HO.out.alloc _).trans ho3)
              clear ho3 HNB
              go_wp2
              go_ret2
              exact ⟨HO3.out, by rw [← HM.out]; rfl⟩
            · rw [if_neg hend] at hm HNB
              have ha3 : a2 + 7 ≤ p.nB := by omega
              obtain ⟨K, hK⟩ : ∃ K, 11 + X = K := ⟨_, rfl⟩
              have hK2 : (X : Int) + 11 = (K : Int) := by omega
              rw [hK] at hm
              have hKb : K ≤ 300 := by omega
              by_cases hov : m < z + K
              · rw [if_pos hov] at hm
                have HM := Lib.hid hm
                have hov2 : (m : Int) - (z : Int) < (K : Int) := by omega
                clear hm
                go_wp2_with fail
                refine HRD.out.mono ?_
                rintro e w2 ⟨rfl, ho2, hr2⟩
                have HO := Lib.hid (HRA.out.only.trans ho2)
                have HR2 := Lib.hid hr2
                clear hr2 ho2 HRD HNX
                go_wp2_with fail
                refine (HNB.out _ (HR2.out.new ((Only.refl _ w2).alloc _))).mono ?_
                rintro e w3 ⟨rfl, ho3, _⟩
                have HO3 : Hid (Only (· = p.r) w w3) := Lib.hid ((HO.out.alloc _).trans ho3)
                clear ho3 HNB
                go_wp2
                go_ret2
                exact ⟨HO3.out.alloc _, by rw [← HM.out]; rfl⟩
              · rw [if_neg hov] at hm
                have hov2 : ¬ (m : Int) - (z : Int) < (K : Int) := by omega
                have HM := Lib.hid hm
                clear hm
                go_wp2_with fail
                refine HRD.out.mono ?_
                rintro e w2 ⟨rfl, ho2, hr2⟩
                obtain ⟨ha2, hs2⟩ := HNX.out w2 ho2 hr2
                have HA2 := Lib.hid ha2
                have HS2 := Lib.hid hs2
                clear hr2 ho2 HRD HNX ha2 hs2
                go_wp2_with fail
                refine (HNB.out _ (HA2.out.rf.new ((Only.refl _ w2).alloc _))).mono ?_
                rintro e w3 ⟨rfl, ho3, hr3⟩
                have oa : Only (· = p.r) w2 w3 := ((Only.refl _ w2).alloc _).trans ho3
                have o4 : Only (fun _ => False) w3 (w3.alloc (.cells #[.int .i64 3, .int .i64 3, .int .i64 11] 3)) := (Only.refl _ w3).alloc _
                have ha3' := HA2.out.read oa (hr3 rfl)
                have HA4 := Lib.hid (ha3'.new o4)
                have HS4 := Lib.hid ((HS2.out.off oa fun j hj e => HLR.out j hj e).new o4)
                have g0 := (Is.new w3 3 [.int .i64 3, .int .i64 3, .int .i64 11]).cell 0 rfl
                have g1 := (Is.new w3 3 [.int .i64 3, .int .i64 3, .int .i64 11]).cell 1 rfl
                have g2 := (Is.new w3 3 [.int .i64 3, .int .i64 3, .int .i64 11]).cell 2 rfl
                obtain ⟨w4, hw4⟩ : ∃ w4, w3.alloc (.cells #[.int .i64 3, .int .i64 3, .int .i64 11] 3) = w4 := ⟨_, rfl⟩
                have HKS2 : Hid (∀ w5, Only (Lies Ao) w4 w5 → See w5 Bd Al (ints l)) := Lib.hid fun w5 o5 => by
                  rw [hw4] at HS4 HA4
                  exact HS4.out.off o5 fun j hj e => by have := HA4.out.lies j e; have := HLL.out j hj; omega
                have gg0 : (w3.alloc (.cells #[.int .i64 3, .int .i64 3, .int .i64 11] 3)).cell? ⟨w3.heap.size, 2, none⟩ = some (.int .i64 11) := (Is.new w3 3 [.int .i64 3, .int .i64 3, .int .i64 11]).cell 2 rfl
                rw [hw4] at HA4 HS4 gg0
                clear ho3 hr3 HNB oa o4 ha3' HA2 HS2 g0 g1 g2
                go_wp2_with fail
                refine (dsame Ao z co K 0 o w4 HA4.out.row (by omega) (by omega)).mono ?_
                rintro e w5 ⟨A9, c9, rfl, r9, o9, l9⟩
                have H9 := Lib.hid (HA4.out.more r9 (by rw [List.length_replicate]) o9 l9)
                have HS9 := Lib.hid (HKS2.out w5 o9)
                clear r9 o9 l9 HKS2 HA4 HS4
                go_wp2_with fail
                go_roundg f
                case measure => omega
                case rel => exact ⟨a2 + 7, A9, z + K, c9, _, by first | rfl | go_num, by omega, by omega, ha3, H9, HS9, HM⟩
      · rw [if_pos hx] at hm
        have hx2 : ¬ (x : Int) = 0 := by omega
        have HM := Lib.hid hm
        clear hm hmv
        go_wp2_with fail
        refine HRD.out.mono ?_
        rintro e w2 ⟨rfl, ho2, hr2⟩
        have HO := Lib.hid (HRA.out.only.trans ho2)
        clear hr2 ho2 HRD HNX
        go_wp2
        go_ret2
        exact ⟨HO.out, by rw [← HM.out, if_pos hx]; rfl⟩
    · obtain rfl : z = m := by omega
      have hm := HR0.out
      rw [mRow_full _ _ _ _ _ _ (by rw [hozl]; exact Nat.le_refl _)] at hm
      have HM := Lib.hid hm
      clear hm HR0
      go_wp2
      go_ret2
      refine ⟨HRA.out.only, ?_⟩
      rw [← HM.out, if_neg (by simp)]
      exact ⟨Ao, co, rfl, HRA.out⟩
end Go.Proofs.YtjlkjebmilfgoaaGreat

/- Layer 8, the document: symbols up to a block's end. -/
namespace Go.Proofs.YtjlkjebmilfgoaaGreat
open Go.RowKit

structure CAtR (p : RP) (w : World) (A : Option Addr) (kv : Value) (Bd : Nat) (Aa Ab : Option Addr) (la lb : List Nat) (a : Nat) (A' : Option Addr) (n c : Nat) (out : List UInt8) (wx : World) : Prop where
  rf : Rf p wx a A' n c kv out
  only : Only (MineR p.r A) w wx
  lies : ∀ j, Lies A' j → Lies A j ∨ w.heap.size ≤ j
  sa : See wx Bd Aa (ints la)
  sb : See wx Bd Ab (ints lb)
  far : ∀ j, Lies Aa j ∨ Lies Ab j → ¬ MineR p.r A' j
  lt : ∀ j, Lies Aa j ∨ Lies Ab j → j < w.heap.size

section
variable {p : RP} {w wx wy : World} {A A' Aa Ab : Option Addr} {kv : Value} {Bd a n c : Nat} {la lb : List Nat} {out : List UInt8}
theorem CAtR.read (h : CAtR p w A kv Bd Aa Ab la lb a A' n c out wx) (k : Only (· = p.r) wx wy) {a2 : Nat} (hr : Rf p wy a2 A' n c kv out) : CAtR p w A kv Bd Aa Ab la lb a2 A' n c out wy :=
  ⟨hr, h.only.trans (k.mono fun _ e => .inl e), h.lies, h.sa.off k (fun j hj e => h.far j (.inl hj) (.inl e)), h.sb.off k (fun j hj e => h.far j (.inr hj) (.inl e)), h.far, h.lt⟩
theorem CAtR.next (h : CAtR p w A kv Bd Aa Ab la lb a A' n c out wx) {r : Ans} {e : Ending} (hd : DoneR p wx A' kv r e wy) (h0 : r.1 = 0) : ∃ A2 c2, CAtR p w A kv Bd Aa Ab la lb r.2.1 A2 r.2.2.length c2 r.2.2 wy := by
  obtain ⟨_, ho, hk⟩ := hd
  obtain ⟨A2, c2, g1, g3⟩ := hk h0
  refine ⟨A2, c2, g1, h.only.andThen ho ?_, fun j hj => ?_, h.sa.off ho (fun j hj => h.far j (.inl hj)), h.sb.off ho (fun j hj => h.far j (.inr hj)), fun j hj => ?_, h.lt⟩
  · rintro j (e | e)
    · exact .inl (.inl e)
    · exact (h.lies j e).imp (fun x => .inr x) id
  · exact (g3 j hj).elim (h.lies j) fun x => .inr (Nat.le_trans h.only.size x)
  · have h1 := h.far j hj
    have h2 := h.lt j hj
    have h3 := h.only.size
    rintro (e | e)
    · exact h1 (.inl e)
    · exact (g3 j e).elim (fun x => h1 (.inr x)) (fun x => by omega)
theorem CAtR.bad (h : CAtR p w A kv Bd Aa Ab la lb a A' n c out wx) {r : Ans} {e : Ending} (hd : DoneR p wx A' kv r e wy) : Only (MineR p.r A) w wy := by
  refine h.only.andThen hd.2.1 ?_
  rintro j (e | e)
  · exact .inl (.inl e)
  · exact (h.lies j e).imp (fun x => .inr x) id
theorem CAtR.done (h : CAtR p w A kv Bd Aa Ab la lb a A' n c out wx) {r : Ans} (hr : r = (0, a, out)) : DoneR p w A kv r (.returned (.int .i64 0)) wx := by
  subst hr
  exact ⟨rfl, h.only, fun _ => ⟨A', c, by rw [h.rf.len]; exact h.rf, h.lies⟩⟩
end

set_option maxRecDepth 100000 in
set_option maxHeartbeats 4000000 in
theorem dcoded (p : RP) (hp : RB p) (a : Nat) (A : Option Addr) (n c : Nat) (kv : Value) (out : List UInt8) (Bd : Nat) (Aa Ab : Option Addr) (na ca nb cb : Nat) (la lb : List Nat) (w : World) (h : Rf p w a A n c kv out) (ha : a ≤ p.nB) (hsa : See w Bd Aa (ints la)) (hsb : See w Bd Ab (ints lb)) (hna : la.length = na) (hnb : lb.length = nb)
    (far : ∀ j, Lies Aa j ∨ Lies Ab j → ¬ MineR p.r A j) (hlt : ∀ j, Lies Aa j ∨ Lies Ab j → j < w.heap.size) (hla : Lens la) (hlb : Lens lb) (ka : (kd la).2 = 0) (kb : (kd lb).2 = 0) (hn : n ≤ 100000) (hmost : p.most ≤ 100000) :
    Calls Tryz.prog 68 #[.pointer (some ⟨p.r, 0, none⟩), .slice Aa na ca, .slice Ab nb cb] w (DoneR p w A kv (mCoded p.B la lb p.most (p.nB + 1) a out)) := by
  obtain ⟨r, hr0⟩ : ∃ r, mCoded p.B la lb p.most (p.nB + 1) a out = r := ⟨_, rfl⟩
  rw [hr0]
  have HST : Hid (CAtR p w A kv Bd Aa Ab la lb a A n c out w) := Lib.hid ⟨h, Only.refl _ _, fun j hj => .inl hj, hsa, hsb, far, hlt⟩
  have HR0 := Lib.hid hr0
  have HLA := Lib.hid hla
  have HLB := Lib.hid hlb
  have HP := Lib.hid hp
  have hpl := hp.len
  have hple := hp.le
  clear h far hlt hr0 hla hlb hsa hsb hp
  go_enter Tryz.func68, Tryz.ntmps68
  go_wp2_with fail
  go_loopg [7, 8, 9] (p.nB + 1) (fun gk u1 u2 u3 wx => ∃ (a : Nat) (A' : Option Addr) (n c : Nat) (out : List UInt8), a ≤ p.nB ∧ p.nB < a + gk ∧ n ≤ 100000 ∧ Hid (CAtR p w A kv Bd Aa Ab la lb a A' n c out wx) ∧ Hid (mCoded p.B la lb p.most gk a out = r))
  case atStart => exact ⟨a, A, n, c, out, ha, by omega, hn, HST, HR0⟩
  case round =>
    clear HST HR0 hn ha
    obtain ⟨a, A', n, c, out, ha, hgk, hn, HC, HR0⟩ := hrel
    obtain ⟨f, rfl⟩ : ∃ f, gk = f + 1 := ⟨gk - 1, by omega⟩
    have hm := HR0.out
    rw [mCoded_step] at hm
    have HC1 := HC.out
    have HRD := Lib.hid (dsymbol p HP.out a A' n c kv out Aa na ca Bd la wr HC1.rf ha HC1.sa hna HLA.out ka)
    have hmv := rdp_moves la p.B a
    have hsy := rdp_symbol la p.B a HLA.out.len
    rw [hpl] at hmv
    obtain ⟨⟨y, a2, x⟩, hq⟩ : ∃ q, rdp la p.B a = q := ⟨_, rfl⟩
    rw [hq] at HRD hm hmv hsy
    simp only at hm hmv hsy
    have HCD : Hid (∀ w2 a2, Only (· = p.r) wr w2 → Rf p w2 a2 A' n c kv out → CAtR p w A kv Bd Aa Ab la lb a2 A' n c out w2) := Lib.hid fun w2 a2 ho hr2 => HC1.read ho hr2
    have HOD : Hid (∀ w2, Only (· = p.r) wr w2 → Only (MineR p.r A) w w2) := Lib.hid fun w2 ho => HC1.only.trans (ho.mono fun _ e => .inl e)
    clear HC1 hq HC HR0
    go_wp2_with fail
    refine HRD.out.mono ?_
    rintro e w2 ⟨rfl, ho2, hr2⟩
    by_cases hx : x = 0
    · subst hx
      rw [if_neg (by simp)] at hm
      obtain ⟨m1, m2⟩ := hmv rfl
      have HC2 := Lib.hid (HCD.out w2 a2 ho2 hr2)
      clear hmv hr2 ho2 HCD HOD HRD
      by_cases hy : y = 256
      · rw [if_pos hy] at hm
        have HD := Lib.hid (HC2.out.done hm.symm)
        subst hy
        clear hm
        go_wp2
        go_ret
        exact HD.out
      · rw [if_neg hy] at hm
        have hy1 : ¬ (y : Int) = 256 := by omega
        by_cases hy2 : y < 256
        · rw [if_pos hy2] at hm
          have hy3 : ¬ (256 : Int) < (y : Int) := by omega
          have hylt : (y : Int) < 256 := by omega
          have hol := HC2.out.rf.len
          rw [hol] at hm
          have d2 := HC2.out.rf.is.cell 2 rfl
          have d3 := HC2.out.rf.is.cell 3 rfl
          have ew : IntKind.u8.wrap (y : Int) = (y : Int) := by rw [IntKind.wrap_u8']; omega
          by_cases hroom : p.most < (n : Int) + 1
          · rw [if_pos hroom] at hm
            have HM := Lib.hid hm
            have hge : p.most ≤ (n : Int) := by omega
            clear hm hroom
            go_wp2_with fail
            go_quiet (fail)
            go_wp2
            go_ret
            rw [← HM.out]
            exact ⟨rfl, HC2.out.only.drewN _, fun h => by cases h⟩
          · rw [if_neg hroom] at hm
            have HM := Lib.hid hm
            have hge : ¬ p.most ≤ (n : Int) := by omega
            have hnb : n + 1 ≤ 100000 := by omega
            have eb : (UInt8.ofNat y).toNat = y := by rw [UInt8.toNat_ofNat']; omega
            have HEB := Lib.hid eb
            clear hm hroom eb
            go_wp2_with fail
            go_quiet (fail)
            have HC3 : Hid (CAtR p w A kv Bd Aa Ab la lb a2 A' n c out (w2.drewN nq)) := Lib.hid (HC2.out.read ((Only.refl _ w2).drewN nq) (HC2.out.rf.new ((Only.refl _ w2).drewN nq)))
            have c2' : (w2.drewN nq).cell? ⟨p.r, 2, none⟩ = some (.slice A' n c) := d2
            obtain ⟨w3, hw3⟩ : ∃ w3, w2.drewN nq = w3 := ⟨_, rfl⟩
            rw [hw3] at HC3 c2' ⊢
            have HAW : Hid (CAtR p w A kv Bd Aa Ab la lb a2 A' n c out (w3.alloc (.cells #[.int .u8 (y : Nat)] 5))) := Lib.hid (HC3.out.read ((Only.refl _ w3).alloc _) (HC3.out.rf.new ((Only.refl _ w3).alloc _)))
            have HSR := Lib.hid (Src.oneInt Tryz.underlying34 w3 .u8 y 1 5)
            obtain ⟨wy, hwy⟩ : ∃ wy, w3.alloc (.cells #[.int .u8 (y : Nat)] 5) = wy := ⟨_, rfl⟩
            rw [hwy] at HAW HSR
            have HFN : Hid (∀ A9 c9 w9, Row 5 w9 A9 (n + 1) c9 (bcells out ++ [.int .u8 (y : Nat)]) → Only (Lies A') wy w9 → (A9 = A' ∨ A9 = some ⟨wy.heap.size, 0, none⟩) →
                CAtR p w A kv Bd Aa Ab la lb a2 A9 (n + 1) c9 (out ++ [UInt8.ofNat y]) (w9.setCell ⟨p.r, 2, none⟩ (.slice A9 (n + 1) c9)) ∧ w9.cell? ⟨p.r, 2, none⟩ = some (.slice A' n c) ∧ w9.frozen? ⟨p.r, 2, none⟩ = false) := Lib.hid fun A9 c9 w9 r1 r2 r3 => by
              rw [← HEB.out, bcells_snoc] at r1
              obtain ⟨f1, f2, f3⟩ := HAW.out.rf.append r1 rfl r2 r3
              have i9 := HAW.out.rf.is.only r2 (fun e => Nat.lt_irrefl _ (HAW.out.rf.an _ e))
              refine ⟨⟨f1, HAW.out.only.andThen f2 ?_, fun j hj => ?_, HAW.out.sa.off f2 (fun j hj => HAW.out.far j (.inl hj)), HAW.out.sb.off f2 (fun j hj => HAW.out.far j (.inr hj)), fun j hj => ?_, HAW.out.lt⟩, i9.cell 2 rfl, i9.frozen 2⟩
              · rintro j (e | e)
                · exact .inl (.inl e)
                · exact (HAW.out.lies j e).imp (fun x => .inr x) id
              · exact (f3 j hj).elim (HAW.out.lies j) fun x => .inr (Nat.le_trans HAW.out.only.size x)
              · have h1 := HAW.out.far j hj
                have h2 := HAW.out.lt j hj
                have h3 := HAW.out.only.size
                rintro (e | e)
                · exact h1 (.inl e)
                · exact (f3 j e).elim (fun x => h1 (.inr x)) (fun x => by omega)
            clear HC2 HC3 d2 d3
            go_upto_region 12 with fail
            go_wp2_with (at_builtin
                         refine wpList_append_row rfl (.tmp 44) (.tmp 47) 34 34 5 rfl Tryz.underlying34 info5 A' n c 1 (bcells out) [.int .u8 (y : Nat)] (.slice (some ⟨w3.heap.size, 0, none⟩) 1 1) (by rfl) (by rfl) HAW.out.rf.row rfl HSR.out (by omega) (by omega) ?_
                         intro A9 c9 w9 hrow9 honly9 hlies9
                         obtain ⟨h9, q1, q2⟩ := HFN.out A9 c9 w9 hrow9 honly9 hlies9
                         have H9 := Lib.hid h9
                         clear hrow9 honly9 hlies9 h9)
            go_roundg f
            case measure => omega
            case rel => exact ⟨a2, A9, n + 1, c9, _, m2, by omega, hnb, H9, HM⟩
        · rw [if_neg hy2] at hm
          have hy3 : (256 : Int) < (y : Int) := by omega
          have hsev := dback p HP.out a2 A' n c kv out Ab nb cb Bd lb y w2 HC2.out.rf m2 HC2.out.sb (fun j hj e => HC2.out.far j (.inr hj) (.inl e)) hnb HLB.out kb hn hmost (by omega) (by omega)
          have hbo := mBack_ok p.B lb p.most y a2 out
          obtain ⟨⟨x3, a3, o3⟩, hq3⟩ : ∃ q, mBack p.B lb p.most y a2 out = q := ⟨_, rfl⟩
          rw [hq3] at hm hsev hbo
          simp only at hm hbo
          rw [hpl] at hbo
          have HSV := Lib.hid hsev
          clear hsev hq3
          by_cases hx3 : x3 = 0
          · subst hx3
            rw [if_neg (by simp)] at hm
            obtain ⟨n1, n2, n3⟩ := hbo rfl
            have HM := Lib.hid hm
            have HLN : Hid (o3.length ≤ 100000) := Lib.hid (by omega)
            clear hm hbo n3
            go_wp2_with fail
            refine HSV.out.mono ?_
            intro e w3 hd3
            obtain ⟨A3, c3, hc3⟩ := HC2.out.next hd3 rfl
            obtain ⟨rfl, _⟩ := hd3
            have HC3 := Lib.hid hc3
            clear hc3 HSV
            go_wp2_with fail
            go_roundg f
            case measure => omega
            case rel => exact ⟨a3, A3, _, c3, o3, n2, by omega, HLN.out, HC3, HM⟩
          · rw [if_pos hx3] at hm
            have hx4 : ¬ (x3 : Int) = 0 := by omega
            have HM := Lib.hid hm
            clear hm hbo
            go_wp2_with fail
            refine HSV.out.mono ?_
            intro e w3 hd3
            have ho3 := HC2.out.bad hd3
            obtain ⟨rfl, _⟩ := hd3
            have HO3 := Lib.hid ho3
            clear ho3 HSV
            go_wp2
            go_ret
            exact ⟨by rw [← HM.out]; rfl, HO3.out, by rw [← HM.out]; intro h; exact absurd h hx3⟩
    · rw [if_pos hx] at hm
      have hx4 : ¬ (x : Int) = 0 := by omega
      have HM := Lib.hid hm
      have HO3 := Lib.hid (HOD.out w2 ho2)
      clear hm hmv hr2 ho2 HCD HOD HRD
      go_wp2
      go_ret
      exact ⟨by rw [← HM.out]; rfl, HO3.out, by rw [← HM.out]; intro h; exact absurd h hx⟩
end Go.Proofs.YtjlkjebmilfgoaaGreat

/- Layer 8, the document: the lengths of a block of kind 2. -/
namespace Go.Proofs.YtjlkjebmilfgoaaGreat
open Go.RowKit

/-- The three numbers: how far they are read. -/
structure NAt (p : RP) (w : World) (A : Option Addr) (n c : Nat) (kv : Value) (out : List UInt8) (a G i x0 x1 x2 a' : Nat) (wx : World) : Prop where
  rf : Rf p wx a' A n c kv out
  is : Is wx G 3 [.int .i64 (x0 : Nat), .int .i64 (x1 : Nat), .int .i64 (x2 : Nat)]
  only : Only (· = p.r) w wx
  lo : w.heap.size ≤ G
  rl : p.r < w.heap.size
  le : a' ≤ p.nB
  e0 : i = 0 → a' = a
  e1 : i = 1 → a' = a + 5 ∧ x0 = 257 + nm p.B a 5
  e2 : i = 2 → a' = a + 10 ∧ x0 = 257 + nm p.B a 5 ∧ x1 = 1 + nm p.B (a + 5) 5
  e3 : i = 3 → a' = a + 14 ∧ x0 = 257 + nm p.B a 5 ∧ x1 = 1 + nm p.B (a + 5) 5 ∧ x2 = 4 + nm p.B (a + 10) 4

def DOwnPost (p : RP) (w : World) (A : Option Addr) (n c : Nat) (kv : Value) (out : List UInt8) (r : Own3) (e : Ending) (w' : World) : Prop := Only (· = p.r) w w' ∧
  if r.1 ≠ 0 then e = .returned (.tuple #[.slice none 0 0, .slice none 0 0, .int .i64 r.1]) else ∃ A1 n1 c1 A2 n2 c2, e = .returned (.tuple #[.slice A1 n1 c1, .slice A2 n2 c2, .int .i64 0]) ∧ Rf p w' r.2.1 A n c kv out ∧ See w' w'.heap.size A1 (ints r.2.2.1) ∧ See w' w'.heap.size A2 (ints r.2.2.2) ∧
    r.2.2.1.length = n1 ∧ r.2.2.2.length = n2 ∧ Lens r.2.2.1 ∧ Lens r.2.2.2 ∧ (kd r.2.2.1).2 = 0 ∧ (kd r.2.2.2).2 = 0 ∧ (∀ j, Lies A1 j ∨ Lies A2 j → w.heap.size ≤ j ∧ j < w'.heap.size)

/-- The first code's lengths, how far they are read. -/
structure FAtD (p : RP) (w : World) (A : Option Addr) (n c : Nat) (kv : Value) (out : List UInt8) (a G O F x0 x1 x2 k : Nat) (wx : World) : Prop where
  rf : Rf p wx (a + 3 * k) A n c kv out
  is : Is wx G 3 [.int .i64 (x0 : Nat), .int .i64 (x1 : Nat), .int .i64 (x2 : Nat)]
  ord : Is wx O 3 (ints order)
  fst : Is wx F 3 (ints (firsts p.B a k))
  only : Only (· = p.r) w wx
  lo : w.heap.size ≤ G ∧ w.heap.size ≤ O ∧ w.heap.size ≤ F ∧ G ≠ O ∧ G ≠ F ∧ O ≠ F
  rl : p.r < w.heap.size
  al : ∀ j, Lies A j → j < w.heap.size

set_option maxRecDepth 100000 in
set_option maxHeartbeats 16000000 in
theorem down (p : RP) (hp : RB p) (a : Nat) (A : Option Addr) (n c : Nat) (kv : Value) (out : List UInt8) (w : World) (h : Rf p w a A n c kv out) (ha : a ≤ p.nB) :
    Calls Tryz.prog 67 #[.pointer (some ⟨p.r, 0, none⟩)] w (DOwnPost p w A n c kv out (mOwn p.B a)) := by
  obtain ⟨R, hR⟩ : ∃ R, mOwn p.B a = R := ⟨_, rfl⟩
  rw [hR]
  unfold mOwn at hR
  have hpl := hp.len
  have hle := hp.le
  rw [hpl] at hR
  have hal := h.row.lies
  have HN : Hid (∀ v wx a', Rf p wx a' A n c kv out → a' ≤ p.nB → v ≤ 16 → Calls Tryz.prog 65 #[.pointer (some ⟨p.r, 0, none⟩), .int .i64 (v : Nat)] wx (DVal p wx A n c kv out (mNum p.B a' v))) := Lib.hid fun v wx a' h' ha' hv => dbits p hp a' v A n c kv out wx h' ha' hv
  unfold mNum at HN
  rw [hpl] at HN
  obtain ⟨wa, hwa⟩ : ∃ wa, w.alloc (.cells #[.int .i64 0, .int .i64 0, .int .i64 0] 3) = wa := ⟨_, rfl⟩
  have hoa : Only (fun _ => False) w wa := by rw [← hwa]; exact (Only.refl _ w).alloc _
  have h0 : NAt p w A n c kv out a w.heap.size 0 0 0 0 a wa := ⟨h.new hoa, by rw [← hwa]; exact Is.new w 3 [.int .i64 0, .int .i64 0, .int .i64 0], hoa.mono fun _ f => f.elim, Nat.le_refl _, h.is.lt, ha, fun _ => rfl, fun h => (by cases h), fun h => (by cases h), fun h => (by cases h)⟩
  obtain ⟨G, hG⟩ : ∃ G, w.heap.size = G := ⟨_, rfl⟩
  rw [hG] at h0
  have H0 := Lib.hid h0
  have HR := Lib.hid hR
  have HP := Lib.hid hp
  have HAL := Lib.hid hal
  clear h h0 hR hp hoa ha hal
  go_enter Tryz.func67, Tryz.ntmps67
  go_wp2_with fail
  go_loopg [6, 7, 8] 3 (fun gk v u1 u2 wx => ∃ (i x0 x1 x2 a' : Nat), v = .int .i64 i ∧ i + gk ≤ 3 ∧ 3 ≤ i + gk ∧ Hid (NAt p w A n c kv out a G i x0 x1 x2 a' wx))
  case atStart => exact ⟨0, 0, 0, 0, a, rfl, by omega, by omega, H0⟩
  case round =>
    clear H0
    obtain ⟨i, x0, x1, x2, a', rfl, hi, hi2, HA⟩ := hrel
    by_cases hlt : i < 3
    · have HIA : Hid (∀ w2, Only (· = p.r) wr w2 → Is w2 G 3 [.int .i64 (x0 : Nat), .int .i64 (x1 : Nat), .int .i64 (x2 : Nat)]) := Lib.hid fun w2 ho => HA.out.is.only ho (fun e => by have := HA.out.lo; have := HA.out.rl; omega)
      obtain rfl | rfl | rfl : i = 0 ∨ i = 1 ∨ i = 2 := by omega
      · obtain rfl := HA.out.e0 rfl
        have hlea := HA.out.le
        have hN0 := HN.out 5 (wr.alloc (.cells #[.int .i64 5, .int .i64 5, .int .i64 4] 3)) (a') (HA.out.rf.new ((Only.refl _ wr).alloc _)) hlea (by decide)
        have HNB := Lib.hid hN0
        have k0 : (wr.alloc (.cells #[.int .i64 5, .int .i64 5, .int .i64 4] 3)).cell? ⟨wr.heap.size, 0, none⟩ = some (.int .i64 5) := (Is.new wr 3 [.int .i64 5, .int .i64 5, .int .i64 4]).cell 0 rfl
        clear hN0
        by_cases hend : p.nB < a' + 5
        · rw [if_pos hend] at HNB
          have hR := HR.out
          rw [if_pos (by omega)] at hR
          have HRR := Lib.hid hR
          have HO := Lib.hid HA.out.only
          clear hR HA HIA
          go_wp2_with fail
          refine HNB.out.mono ?_
          rintro e w2 ⟨rfl, ho2, _⟩
          have HO2 : Hid (Only (· = p.r) w w2) := Lib.hid ((HO.out.alloc _).trans ho2)
          clear ho2 HNB
          go_wp2
          go_ret3
          exact ⟨HO2.out, by rw [← HRR.out]; rfl⟩
        · rw [if_neg hend] at HNB
          have hv7 := nm_lt p.B (a') 5
          obtain ⟨v, hv⟩ : ∃ v, nm p.B (a') 5 = v := ⟨_, rfl⟩
          rw [hv] at HNB hv7
          obtain ⟨Z, hZ⟩ : ∃ Z, 257 + v = Z := ⟨_, rfl⟩
          have hZ2 : (v : Int) + 257 = (Z : Int) := by omega
          have HC : Hid (∀ w2, Only (· = p.r) (wr.alloc (.cells #[.int .i64 5, .int .i64 5, .int .i64 4] 3)) w2 → Rf p w2 (a' + 5) A n c kv out → (∃ u, (w2.alloc (.cells #[.int .i64 257, .int .i64 1, .int .i64 4] 3)).cell? ⟨G, 0, none⟩ = some u) ∧ (w2.alloc (.cells #[.int .i64 257, .int .i64 1, .int .i64 4] 3)).frozen? ⟨G, 0, none⟩ = false ∧ (w2.alloc (.cells #[.int .i64 257, .int .i64 1, .int .i64 4] 3)).cell? ⟨w2.heap.size, 0, none⟩ = some (.int .i64 257) ∧ NAt p w A n c kv out a' G 1 Z x1 x2 (a' + 5) ((w2.alloc (.cells #[.int .i64 257, .int .i64 1, .int .i64 4] 3)).setCell ⟨G, 0, none⟩ (.int .i64 (Z : Nat)))) := Lib.hid fun w2 ho hr2 => by
            have ho' : Only (· = p.r) wr w2 := ((Only.refl _ wr).alloc _).trans ho
            have ig := (HIA.out w2 ho').alloc (.cells #[.int .i64 257, .int .i64 1, .int .i64 4] 3)
            have hlo := HA.out.lo
            have hrl := HA.out.rl
            have oa : Only (fun _ => False) w2 (w2.alloc (.cells #[.int .i64 257, .int .i64 1, .int .i64 4] 3)) := (Only.refl _ w2).alloc _
            have ow := Only.one (w2.alloc (.cells #[.int .i64 257, .int .i64 1, .int .i64 4] 3)) G 0 (.int .i64 (Z : Nat))
            refine ⟨⟨_, ig.cell 0 rfl⟩, ig.frozen 0, (Is.new w2 3 [.int .i64 257, .int .i64 1, .int .i64 4]).cell 0 rfl, (hr2.new oa).keep ow (fun j hj e => by omega) (fun j hj e => by have := HAL.out j hj; omega), ig.set 0 _, ((HA.out.only.trans ho').trans (oa.mono fun _ f => f.elim)).andThen ow (fun j e => .inr (by omega)), hlo, hrl, by omega, fun h => (by cases h), fun _ => ⟨by omega, hZ.symm.trans (by rw [← hv])⟩, fun h => (by cases h), fun h => (by cases h)⟩
          clear HA HIA hv hZ
          go_wp2_with fail
          refine HNB.out.mono ?_
          rintro e w2 ⟨rfl, ho2, hr2⟩
          obtain ⟨⟨u, z2⟩, z3, z4, z5⟩ := HC.out w2 ho2 (hr2 rfl)
          have HZ := Lib.hid z5
          clear ho2 hr2 HNB HC z5
          go_wp2_with fail
          go_roundg (gk - 1)
          case measure => omega
          case rel => exact ⟨1, Z, x1, x2, _, by first | rfl | go_num, by omega, by omega, HZ⟩
      · obtain ⟨rfl, n0⟩ := HA.out.e1 rfl
        have hlea := HA.out.le
        have hN0 := HN.out 5 (wr.alloc (.cells #[.int .i64 5, .int .i64 5, .int .i64 4] 3)) (a + 5) (HA.out.rf.new ((Only.refl _ wr).alloc _)) hlea (by decide)
        have HNB := Lib.hid hN0
        have k0 : (wr.alloc (.cells #[.int .i64 5, .int .i64 5, .int .i64 4] 3)).cell? ⟨wr.heap.size, 1, none⟩ = some (.int .i64 5) := (Is.new wr 3 [.int .i64 5, .int .i64 5, .int .i64 4]).cell 1 rfl
        clear hN0
        by_cases hend : p.nB < a + 5 + 5
        · rw [if_pos hend] at HNB
          have hR := HR.out
          rw [if_pos (by omega)] at hR
          have HRR := Lib.hid hR
          have HO := Lib.hid HA.out.only
          clear hR HA HIA
          go_wp2_with fail
          refine HNB.out.mono ?_
          rintro e w2 ⟨rfl, ho2, _⟩
          have HO2 : Hid (Only (· = p.r) w w2) := Lib.hid ((HO.out.alloc _).trans ho2)
          clear ho2 HNB
          go_wp2
          go_ret3
          exact ⟨HO2.out, by rw [← HRR.out]; rfl⟩
        · rw [if_neg hend] at HNB
          have hv7 := nm_lt p.B (a + 5) 5
          obtain ⟨v, hv⟩ : ∃ v, nm p.B (a + 5) 5 = v := ⟨_, rfl⟩
          rw [hv] at HNB hv7
          obtain ⟨Z, hZ⟩ : ∃ Z, 1 + v = Z := ⟨_, rfl⟩
          have hZ2 : (v : Int) + 1 = (Z : Int) := by omega
          have HC : Hid (∀ w2, Only (· = p.r) (wr.alloc (.cells #[.int .i64 5, .int .i64 5, .int .i64 4] 3)) w2 → Rf p w2 (a + 5 + 5) A n c kv out → (∃ u, (w2.alloc (.cells #[.int .i64 257, .int .i64 1, .int .i64 4] 3)).cell? ⟨G, 1, none⟩ = some u) ∧ (w2.alloc (.cells #[.int .i64 257, .int .i64 1, .int .i64 4] 3)).frozen? ⟨G, 1, none⟩ = false ∧ (w2.alloc (.cells #[.int .i64 257, .int .i64 1, .int .i64 4] 3)).cell? ⟨w2.heap.size, 1, none⟩ = some (.int .i64 1) ∧ NAt p w A n c kv out a G 2 x0 Z x2 (a + 5 + 5) ((w2.alloc (.cells #[.int .i64 257, .int .i64 1, .int .i64 4] 3)).setCell ⟨G, 1, none⟩ (.int .i64 (Z : Nat)))) := Lib.hid fun w2 ho hr2 => by
            have ho' : Only (· = p.r) wr w2 := ((Only.refl _ wr).alloc _).trans ho
            have ig := (HIA.out w2 ho').alloc (.cells #[.int .i64 257, .int .i64 1, .int .i64 4] 3)
            have hlo := HA.out.lo
            have hrl := HA.out.rl
            have oa : Only (fun _ => False) w2 (w2.alloc (.cells #[.int .i64 257, .int .i64 1, .int .i64 4] 3)) := (Only.refl _ w2).alloc _
            have ow := Only.one (w2.alloc (.cells #[.int .i64 257, .int .i64 1, .int .i64 4] 3)) G 1 (.int .i64 (Z : Nat))
            refine ⟨⟨_, ig.cell 1 rfl⟩, ig.frozen 1, (Is.new w2 3 [.int .i64 257, .int .i64 1, .int .i64 4]).cell 1 rfl, (hr2.new oa).keep ow (fun j hj e => by omega) (fun j hj e => by have := HAL.out j hj; omega), ig.set 1 _, ((HA.out.only.trans ho').trans (oa.mono fun _ f => f.elim)).andThen ow (fun j e => .inr (by omega)), hlo, hrl, by omega, fun h => (by cases h), fun h => (by cases h), fun _ => ⟨by omega, n0, hZ.symm.trans (by rw [← hv])⟩, fun h => (by cases h)⟩
          clear HA HIA hv hZ
          go_wp2_with fail
          refine HNB.out.mono ?_
          rintro e w2 ⟨rfl, ho2, hr2⟩
          obtain ⟨⟨u, z2⟩, z3, z4, z5⟩ := HC.out w2 ho2 (hr2 rfl)
          have HZ := Lib.hid z5
          clear ho2 hr2 HNB HC z5
          go_wp2_with fail
          go_roundg (gk - 1)
          case measure => omega
          case rel => exact ⟨2, x0, Z, x2, _, by first | rfl | go_num, by omega, by omega, HZ⟩
      · obtain ⟨rfl, n0, n1⟩ := HA.out.e2 rfl
        have hlea := HA.out.le
        have hN0 := HN.out 4 (wr.alloc (.cells #[.int .i64 5, .int .i64 5, .int .i64 4] 3)) (a + 10) (HA.out.rf.new ((Only.refl _ wr).alloc _)) hlea (by decide)
        have HNB := Lib.hid hN0
        have k0 : (wr.alloc (.cells #[.int .i64 5, .int .i64 5, .int .i64 4] 3)).cell? ⟨wr.heap.size, 2, none⟩ = some (.int .i64 4) := (Is.new wr 3 [.int .i64 5, .int .i64 5, .int .i64 4]).cell 2 rfl
        clear hN0
        by_cases hend : p.nB < a + 10 + 4
        · rw [if_pos hend] at HNB
          have hR := HR.out
          rw [if_pos (by omega)] at hR
          have HRR := Lib.hid hR
          have HO := Lib.hid HA.out.only
          clear hR HA HIA
          go_wp2_with fail
          refine HNB.out.mono ?_
          rintro e w2 ⟨rfl, ho2, _⟩
          have HO2 : Hid (Only (· = p.r) w w2) := Lib.hid ((HO.out.alloc _).trans ho2)
          clear ho2 HNB
          go_wp2
          go_ret3
          exact ⟨HO2.out, by rw [← HRR.out]; rfl⟩
        · rw [if_neg hend] at HNB
          have hv7 := nm_lt p.B (a + 10) 4
          obtain ⟨v, hv⟩ : ∃ v, nm p.B (a + 10) 4 = v := ⟨_, rfl⟩
          rw [hv] at HNB hv7
          obtain ⟨Z, hZ⟩ : ∃ Z, 4 + v = Z := ⟨_, rfl⟩
          have hZ2 : (v : Int) + 4 = (Z : Int) := by omega
          have HC : Hid (∀ w2, Only (· = p.r) (wr.alloc (.cells #[.int .i64 5, .int .i64 5, .int .i64 4] 3)) w2 → Rf p w2 (a + 10 + 4) A n c kv out → (∃ u, (w2.alloc (.cells #[.int .i64 257, .int .i64 1, .int .i64 4] 3)).cell? ⟨G, 2, none⟩ = some u) ∧ (w2.alloc (.cells #[.int .i64 257, .int .i64 1, .int .i64 4] 3)).frozen? ⟨G, 2, none⟩ = false ∧ (w2.alloc (.cells #[.int .i64 257, .int .i64 1, .int .i64 4] 3)).cell? ⟨w2.heap.size, 2, none⟩ = some (.int .i64 4) ∧ NAt p w A n c kv out a G 3 x0 x1 Z (a + 10 + 4) ((w2.alloc (.cells #[.int .i64 257, .int .i64 1, .int .i64 4] 3)).setCell ⟨G, 2, none⟩ (.int .i64 (Z : Nat)))) := Lib.hid fun w2 ho hr2 => by
            have ho' : Only (· = p.r) wr w2 := ((Only.refl _ wr).alloc _).trans ho
            have ig := (HIA.out w2 ho').alloc (.cells #[.int .i64 257, .int .i64 1, .int .i64 4] 3)
            have hlo := HA.out.lo
            have hrl := HA.out.rl
            have oa : Only (fun _ => False) w2 (w2.alloc (.cells #[.int .i64 257, .int .i64 1, .int .i64 4] 3)) := (Only.refl _ w2).alloc _
            have ow := Only.one (w2.alloc (.cells #[.int .i64 257, .int .i64 1, .int .i64 4] 3)) G 2 (.int .i64 (Z : Nat))
            refine ⟨⟨_, ig.cell 2 rfl⟩, ig.frozen 2, (Is.new w2 3 [.int .i64 257, .int .i64 1, .int .i64 4]).cell 2 rfl, (hr2.new oa).keep ow (fun j hj e => by omega) (fun j hj e => by have := HAL.out j hj; omega), ig.set 2 _, ((HA.out.only.trans ho').trans (oa.mono fun _ f => f.elim)).andThen ow (fun j e => .inr (by omega)), hlo, hrl, by omega, fun h => (by cases h), fun h => (by cases h), fun h => (by cases h), fun _ => ⟨by omega, n0, n1, hZ.symm.trans (by rw [← hv])⟩⟩
          clear HA HIA hv hZ
          go_wp2_with fail
          refine HNB.out.mono ?_
          rintro e w2 ⟨rfl, ho2, hr2⟩
          obtain ⟨⟨u, z2⟩, z3, z4, z5⟩ := HC.out w2 ho2 (hr2 rfl)
          have HZ := Lib.hid z5
          clear ho2 hr2 HNB HC z5
          go_wp2_with fail
          go_roundg (gk - 1)
          case measure => omega
          case rel => exact ⟨3, x0, x1, Z, _, by first | rfl | go_num, by omega, by omega, HZ⟩
    · obtain rfl : i = 3 := by omega
      obtain ⟨rfl, n0, n1, n2⟩ := HA.out.e3 rfl
      have hle3 := HA.out.le
      have hR := HR.out
      rw [if_neg (by omega), ← n0, ← n1, ← n2] at hR
      have lt0 : x0 ≤ 288 := by have := nm_lt p.B a 5; omega
      have lt1 : x1 ≤ 32 := by have := nm_lt p.B (a + 5) 5; omega
      have lt2 : x2 ≤ 19 := by have := nm_lt p.B (a + 10) 4; omega
      have lg0 : 257 ≤ x0 := by omega
      have lg1 : 1 ≤ x1 := by omega
      have lg2 : 4 ≤ x2 := by omega
      have g0 := HA.out.is.cell 0 rfl
      have g1 := HA.out.is.cell 1 rfl
      have g2 := HA.out.is.cell 2 rfl
      clear HR n0 n1 n2
      by_cases hbig : 286 < x0 ∨ 30 < x1
      · rw [if_pos hbig] at hR
        have HRR := Lib.hid hR
        have HO := Lib.hid HA.out.only
        clear hR
        by_cases hb1 : 286 < x0
        · have hb2 : (286 : Int) < (x0 : Int) := by omega
          clear hbig HA
          go_wp2
          go_ret3
          exact ⟨HO.out, by rw [← HRR.out]; rfl⟩
        · have hb2 : ¬ (286 : Int) < (x0 : Int) := by omega
          have hb3 : (30 : Int) < (x1 : Int) := by omega
          have hb4 : decide ((286 : Int) < (x0 : Int)) = false := by simp; omega
          clear hbig HA
          go_wp2
          go_ret3
          exact ⟨HO.out, by rw [← HRR.out]; rfl⟩
      · rw [if_neg hbig] at hR
        have hb1 : x0 ≤ 286 := by omega
        have hb2 : x1 ≤ 30 := by omega
        have hb3 : ¬ (286 : Int) < (x0 : Int) := by omega
        have hb4 : ¬ (30 : Int) < (x1 : Int) := by omega
        have hb5 : decide ((286 : Int) < (x0 : Int)) = false := by simp; omega
        have hb6 : decide ((30 : Int) < (x1 : Int)) = false := by simp; omega
        clear hbig
        obtain ⟨wo, hwo⟩ : ∃ wo, wr.alloc (.cells #[.int .i64 16, .int .i64 17, .int .i64 18, .int .i64 0, .int .i64 8, .int .i64 7, .int .i64 9, .int .i64 6, .int .i64 10, .int .i64 5, .int .i64 11, .int .i64 4, .int .i64 12, .int .i64 3, .int .i64 13, .int .i64 2, .int .i64 14, .int .i64 1, .int .i64 15] 3) = wo := ⟨_, rfl⟩
        have hoo : Only (fun _ => False) wr wo := by rw [← hwo]; exact (Only.refl _ wr).alloc _
        have hio : Is wo wr.heap.size 3 (ints order) := by rw [← hwo]; exact Is.new wr 3 (ints order)
        have hso : wo.heap.size = wr.heap.size + 1 := by rw [← hwo]; simp
        have hmk : (Instr.makeSlice 44 (.int .i64 19) (.int .i64 19)).run Tryz.prog wo = .ok (.slice (some ⟨wo.heap.size, 0, none⟩) 19 19) (wo.alloc (.cells (List.replicate 19 (Value.int .i64 0)).toArray 3)) := run_make_row (P := Tryz.prog) Tryz.underlying44 info3 (by decide) 19 (by decide) wo
        have hof : Only (fun _ => False) wo (wo.alloc (.cells (List.replicate 19 (Value.int .i64 0)).toArray 3)) := (Only.refl _ wo).alloc _
        have hif : Is (wo.alloc (.cells (List.replicate 19 (Value.int .i64 0)).toArray 3)) wo.heap.size 3 (ints (firsts p.B (a + 14) 0)) := Is.new wo 3 _
        obtain ⟨wf, hwf⟩ : ∃ wf, wo.alloc (.cells (List.replicate 19 (Value.int .i64 0)).toArray 3) = wf := ⟨_, rfl⟩
        rw [hwf] at hmk hof hif
        have hGl := HA.out.is.lt
        have hF0 : FAtD p w A n c kv out (a + 14) G wr.heap.size wo.heap.size x0 x1 x2 0 wf := by
          have hsz := HA.out.only.size
          have hlo := HA.out.lo
          exact ⟨(HA.out.rf.new hoo).new hof, (HA.out.is.only hoo fun f => f).only hof fun f => f, hio.only hof fun f => f, hif, (HA.out.only.trans (hoo.mono fun _ f => f.elim)).trans (hof.mono fun _ f => f.elim), ⟨hlo, hsz, by omega, by omega, by omega, by omega⟩, HA.out.rl, HAL.out⟩
        obtain ⟨O, hO⟩ : ∃ O, wr.heap.size = O := ⟨_, rfl⟩
        obtain ⟨F, hF⟩ : ∃ F, wo.heap.size = F := ⟨_, rfl⟩
        rw [hO, hF] at hF0
        rw [hF] at hmk
        have HF0 := Lib.hid hF0
        have hg2 := hF0.is.cell 2 rfl
        have HR := Lib.hid hR
        clear hF0 hoo hio hso hof hif hR HA hGl
        go_wp2_with fail
        go_loopg [11, 12, 13] x2 (fun gk v u1 u2 wx => ∃ (k : Nat), v = .int .i64 k ∧ k + gk ≤ x2 ∧ x2 ≤ k + gk ∧ a + 14 + 3 * k ≤ p.nB ∧ Hid (FAtD p w A n c kv out (a + 14) G O F x0 x1 x2 k wx))
        case atStart => exact ⟨0, rfl, by omega, by omega, by omega, HF0⟩
        case round =>
          clear HF0 hmk hg2
          obtain ⟨k, rfl, hk, hk2, hka, HF⟩ := hrel
          have q0 := HF.out.is.cell 0 rfl
          have q1 := HF.out.is.cell 1 rfl
          have q2 := HF.out.is.cell 2 rfl
          by_cases hkl : k < x2
          · have HNB := Lib.hid (HN.out 3 wr (a + 14 + 3 * k) HF.out.rf hka (by decide))
            by_cases hend : p.nB < a + 14 + 3 * k + 3
            · rw [if_pos hend] at HNB
              have hR := HR.out
              rw [if_pos (by omega)] at hR
              have HRR := Lib.hid hR
              have HO := Lib.hid HF.out.only
              clear hR HF
              go_wp2_with fail
              refine HNB.out.mono ?_
              rintro e w2 ⟨rfl, ho2, _⟩
              have HO2 := Lib.hid (HO.out.trans ho2)
              clear ho2 HNB
              go_wp2
              go_ret3
              exact ⟨HO2.out, by rw [← HRR.out]; rfl⟩
            · rw [if_neg hend] at HNB
              have hv7 := nm_lt p.B (a + 14 + 3 * k) 3
              obtain ⟨v, hv⟩ : ∃ v, nm p.B (a + 14 + 3 * k) 3 = v := ⟨_, rfl⟩
              rw [hv] at HNB hv7
              have hol := order_lt k
              obtain ⟨y, hy⟩ : ∃ y, order.getD k 0 = y := ⟨_, rfl⟩
              have HC : Hid (∀ w2, Only (· = p.r) wr w2 → Rf p w2 (a + 14 + 3 * k + 3) A n c kv out → w2.cell? ⟨O, k, none⟩ = some (.int .i64 (y : Nat)) ∧ (∃ u, w2.cell? ⟨F, y, none⟩ = some u) ∧ w2.frozen? ⟨F, y, none⟩ = false ∧ w2.cell? ⟨G, 2, none⟩ = some (.int .i64 (x2 : Nat)) ∧ FAtD p w A n c kv out (a + 14) G O F x0 x1 x2 (k + 1) (w2.setCell ⟨F, y, none⟩ (.int .i64 (v : Nat)))) := Lib.hid fun w2 ho hr2 => by
                obtain ⟨l1, l2, l3, l4, l5, l6⟩ := HF.out.lo
                have hrl := HF.out.rl
                have io := HF.out.ord.only ho (fun e => by omega)
                have iff := HF.out.fst.only ho (fun e => by omega)
                have ig := HF.out.is.only ho (fun e => by omega)
                have ow := Only.one w2 F y (.int .i64 (v : Nat))
                have h19 := firsts_length p.B (a + 14) k
                refine ⟨by rw [← hy]; exact io.cell k (ints_at order k (by show k < 19; omega)), ⟨_, iff.cell y (ints_at _ y (by rw [h19, ← hy]; exact hol))⟩, iff.frozen y, ig.cell 2 rfl, ?_, ig.far l5 _, io.far l6 _, ?_, (HF.out.only.trans ho).andThen ow (fun j e => .inr (by omega)), HF.out.lo, hrl, HF.out.al⟩
                · rw [show a + 14 + 3 * (k + 1) = a + 14 + 3 * k + 3 from by omega]
                  exact hr2.keep ow (fun j hj e => by omega) (fun j hj e => by have := HF.out.al j hj; omega)
                · rw [firsts, hy, hv, ← ints_set]
                  exact iff.set y _
              rw [hy] at hol
              clear HF hv hy
              go_wp2_with fail
              refine HNB.out.mono ?_
              rintro e w2 ⟨rfl, ho2, hr2⟩
              obtain ⟨z1, ⟨u, z2⟩, z3, z4, z5⟩ := HC.out w2 ho2 (hr2 rfl)
              have HZ := Lib.hid z5
              clear ho2 hr2 HNB HC z5
              go_wp2_with fail
              go_roundg (gk - 1)
              case measure => omega
              case rel => exact ⟨k + 1, by go_num, by omega, by omega, by omega, HZ⟩
          · obtain rfl : k = x2 := by omega
            have hR := HR.out
            rw [if_neg (by omega)] at hR
            obtain ⟨l, hl⟩ : ∃ l, firsts p.B (a + 14) k = l := ⟨_, rfl⟩
            have hL := firsts_lens p.B (a + 14) k
            have h19 := firsts_length p.B (a + 14) k
            have hfst := HF.out.fst
            rw [hl] at hR hL h19 hfst
            unfold mOwn2 at hR
            have HCK := Lib.hid (rcheck_yes (some ⟨F, 0, none⟩) 19 19 _ l wr hfst.see h19 (by decide) hL.low)
            clear HR
            by_cases hkd : (kd l).2 ≠ 0 ∨ (kd l).1 = 2
            · rw [if_pos hkd] at hR
              have HRR := Lib.hid hR
              have HO := Lib.hid HF.out.only
              clear hR HF
              by_cases hk1 : (kd l).2 = 0
              · have hk2 : (kd l).1 = 2 := by omega
                rw [hk1, hk2] at HCK
                clear hkd
                go_wp2_with fail
                refine HCK.out.mono ?_
                rintro e w2 ⟨rfl, rfl⟩
                go_wp2
                go_ret3
                exact ⟨HO.out, by rw [← HRR.out]; rfl⟩
              · have hk10 : (kd l).2 = 10 := by rcases kd_two l with e | e; exact absurd e hk1; exact e
                rw [hk10] at HCK
                clear hkd
                obtain ⟨u1, hu1⟩ : ∃ u1, (kd l).1 = u1 := ⟨_, rfl⟩
                rw [hu1] at HCK
                go_wp2_with fail
                refine HCK.out.mono ?_
                rintro e w2 ⟨rfl, rfl⟩
                go_wp2
                go_ret3
                exact ⟨HO.out, by rw [← HRR.out]; rfl⟩
            · rw [if_neg hkd] at hR
              have hk1 : (kd l).2 = 0 := by omega
              have hk2 : ¬ (kd l).1 = 2 := fun e => hkd (.inr e)
              rw [hk1] at HCK
              obtain ⟨u1, hu1⟩ : ∃ u1, (kd l).1 = u1 := ⟨_, rfl⟩
              rw [hu1] at HCK hk2
              have hk3 : ¬ (u1 : Int) = 2 := by omega
              have hk4 : ((u1 : Int) == 2) = false := by simp; omega
              have hk5 : decide ((u1 : Int) = 2) = false := by simp; omega
              obtain ⟨M, hM⟩ : ∃ M, x0 + x1 = M := ⟨_, rfl⟩
              rw [hM] at hR
              obtain ⟨A6, hA6⟩ : ∃ A6, a + 14 + 3 * k = A6 := ⟨_, rfl⟩
              have hrf := HF.out.rf
              rw [hA6] at hR hrf hka
              have hrl := HF.out.rl
              obtain ⟨lo1, lo2, lo3, lo4, lo5, lo6⟩ := HF.out.lo
              have HRW := Lib.hid (drow_ p HP.out A6 A n c kv out (some ⟨F, 0, none⟩) 19 _ l M wr.drew (hrf.new ((Only.refl _ wr).drew)) hka hfst.drew.see (by rintro j ⟨ad, e, rfl⟩; obtain rfl := Option.some.inj e; show F ≠ p.r; omega) (by rintro j ⟨ad, e, rfl⟩; obtain rfl := Option.some.inj e; exact hfst.lt) h19 hL hk1 (by omega) (by omega))
              unfold DRowPost at HRW
              have hlow := mRow_low p.B l M M A6 [] (by intro x hx; cases hx)
              obtain ⟨⟨x, a6, o⟩, hq⟩ : ∃ q, mRow p.B l M M A6 [] = q := ⟨_, rfl⟩
              rw [hq] at HRW hR hlow
              simp only at HRW hR hlow
              have HLOW := Lib.hid hlow
              have HRR := Lib.hid hR
              have s0 : wr.drew.cell? ⟨G, 0, none⟩ = some (.int .i64 (x0 : Nat)) ∧ wr.drew.cell? ⟨G, 1, none⟩ = some (.int .i64 (x1 : Nat)) := ⟨q0, q1⟩
              have HSK : Hid (∀ w2, Only (· = p.r) wr.drew w2 → w2.cell? ⟨G, 0, none⟩ = some (.int .i64 (x0 : Nat)) ∧ w2.cell? ⟨G, 1, none⟩ = some (.int .i64 (x1 : Nat))) := Lib.hid fun w2 ho => ⟨ho.cell s0.1 (fun e => by have e' : G = p.r := e; omega), ho.cell s0.2 (fun e => by have e' : G = p.r := e; omega)⟩
              have HO := Lib.hid HF.out.only
              have HS0 := Lib.hid s0
              have esum : IntKind.i64.wrap ((x0 : Int) + (x1 : Int)) = (M : Int) := by rw [IntWalk.i64_in _ (by omega)]; omega
              clear hR HF hrf hfst hlow hq s0 hkd hu1 hA6
              go_wp2_with fail
              refine HCK.out.mono ?_
              rintro e w2 ⟨rfl, rfl⟩
              clear HCK
              go_wp2_with fail
              refine Steps.region (fun W => W.cell? ⟨G, 0, none⟩ = some (.int .i64 (x0 : Nat)) ∧ W.cell? ⟨G, 1, none⟩ = some (.int .i64 (x1 : Nat))) [(true, 0), (true, 1), (true, 2), (true, 3), (true, 4), (true, 5), (true, 6), (true, 7), (true, 8), (false, 9), (true, 10), (true, 11), (true, 12), (true, 13), (true, 14)] (by kernel_rfl) (by kernel_rfl) rfl (by kernel_rfl) (fun _ _ d _ _ h => by cases d <;> exact h) ?_
              refine Steps.take (.pointer (some ⟨p.r, 0, none⟩)) rfl HS0.out (fun _ hW => by kernel_rfl) ?_
              simp only [Act.put, List.setIfInBounds_toArray, List.set_cons_succ, List.set_cons_zero]
              refine Steps.take (.slice (some ⟨F, 0, none⟩) 19 19) rfl HS0.out (fun _ hW => by kernel_rfl) ?_
              simp only [Act.put, List.setIfInBounds_toArray, List.set_cons_succ, List.set_cons_zero]
              refine Steps.take (.slice (some ⟨G, 0, none⟩) 3 3) rfl HS0.out (fun _ hW => by kernel_rfl) ?_
              simp only [Act.put, List.setIfInBounds_toArray, List.set_cons_succ, List.set_cons_zero]
              refine Steps.take (.pointer (some ⟨G, 0, none⟩)) rfl HS0.out (fun _ hW => by go_simp) ?_
              simp only [Act.put, List.setIfInBounds_toArray, List.set_cons_succ, List.set_cons_zero]
              refine Steps.take (.int .i64 x0) rfl HS0.out (fun _ hW => by obtain ⟨hw1, hw2⟩ := hW; go_simp) ?_
              simp only [Act.put, List.setIfInBounds_toArray, List.set_cons_succ, List.set_cons_zero]
              refine Steps.take (.slice (some ⟨G, 0, none⟩) 3 3) rfl HS0.out (fun _ hW => by kernel_rfl) ?_
              simp only [Act.put, List.setIfInBounds_toArray, List.set_cons_succ, List.set_cons_zero]
              refine Steps.take (.pointer (some ⟨G, 1, none⟩)) rfl HS0.out (fun _ hW => by go_simp) ?_
              simp only [Act.put, List.setIfInBounds_toArray, List.set_cons_succ, List.set_cons_zero]
              refine Steps.take (.int .i64 x1) rfl HS0.out (fun _ hW => by obtain ⟨hw1, hw2⟩ := hW; go_simp) ?_
              simp only [Act.put, List.setIfInBounds_toArray, List.set_cons_succ, List.set_cons_zero]
              refine Steps.take (.int .i64 M) rfl HS0.out (fun _ hW => by go_simp; try exact esum) ?_
              simp only [Act.put, List.setIfInBounds_toArray, List.set_cons_succ, List.set_cons_zero]
              refine Steps.call 96 #[.pointer (some ⟨p.r, 0, none⟩), .slice (some ⟨F, 0, none⟩) 19 19, .int .i64 M] rfl (by kernel_rfl) (HRW.out.mono ?_)
              rintro e w3 ⟨ho3, hif⟩
              have s3 := HSK.out w3 ho3
              have HO3 : Hid (Only (· = p.r) w w3) := Lib.hid ((HO.out.drew).trans ho3)
              obtain ⟨y0, y1⟩ := s3
              have s3 := HSK.out w3 ho3
              clear ho3 HRW HSK
              by_cases hx : x = 0
              · subst hx
                rw [if_neg (by simp)] at hif
                obtain ⟨Ao, co, rfl, hA⟩ := hif
                refine ⟨_, rfl, s3, ?_⟩
                simp only [Act.put, List.setIfInBounds_toArray, List.set_cons_succ, List.set_cons_zero]
                refine Steps.take (.tuple #[.slice Ao M co, .int .i64 0]) rfl s3 (fun _ hW => by kernel_rfl) ?_
                simp only [Act.put, List.setIfInBounds_toArray, List.set_cons_succ, List.set_cons_zero]
                refine Steps.take (.slice Ao M co) rfl s3 (fun _ hW => by kernel_rfl) ?_
                simp only [Act.put, List.setIfInBounds_toArray, List.set_cons_succ, List.set_cons_zero]
                refine Steps.take (.int .i64 0) rfl s3 (fun _ hW => by kernel_rfl) ?_
                simp only [Act.put, List.setIfInBounds_toArray, List.set_cons_succ, List.set_cons_zero]
                refine Steps.take (.slice Ao M co) rfl s3 (fun _ hW => by kernel_rfl) ?_
                simp only [Act.put, List.setIfInBounds_toArray, List.set_cons_succ, List.set_cons_zero]
                refine Steps.take (.int .i64 0) rfl s3 (fun _ hW => by kernel_rfl) ?_
                simp only [Act.put, List.setIfInBounds_toArray, List.set_cons_succ, List.set_cons_zero]
                show wpList _ _ _ _ _ _
                obtain ⟨g, eA, cl, _⟩ := hA.row.cell (ints_at o 256 (by rw [hA.len]; omega))
                subst eA
                have hR := HRR.out
                rw [if_neg (by simp)] at hR
                obtain ⟨y, hy⟩ : ∃ y, ln o 256 = y := ⟨_, rfl⟩
                rw [hy] at cl hR
                have hM1 : (256 : Int) < (M : Int) := by omega
                have hM2 : (256 : Int) < (x0 : Int) := by omega
                have hMc : M ≤ co := by
                  obtain ⟨_, ⟨_, h0, _⟩ | ⟨_, _, _, _, _, h3, _⟩⟩ := hA.row
                  · omega
                  · exact h3
                have hxc : x0 ≤ co := by omega
                have hxM : x0 ≤ M := by omega
                have hcN : ¬ co = x0 := by omega
                have hta : (o.take x0).length = x0 := by rw [List.length_take, hA.len]; omega
                have htb : (o.drop x0).length = M - x0 := by rw [List.length_drop, hA.len]
                have hL1 : Lens (o.take x0) := ⟨fun z hz => HLOW.out z (List.mem_of_mem_take hz), by omega⟩
                have hL2 : Lens (o.drop x0) := ⟨fun z hz => HLOW.out z (List.mem_of_mem_drop hz), by omega⟩
                have s1 : See w3 w3.heap.size (some ⟨g, 0, none⟩) (ints (o.take x0)) := by rw [← ints_took]; exact see_take hA.row.see
                have s2 : See w3 w3.heap.size (some ⟨g, x0, none⟩) (ints (o.drop x0)) := by rw [← ints_drop]; exact see_drop hA.row.see
                have HC1 := Lib.hid (rcheck_yes (some ⟨g, 0, none⟩) x0 co _ _ w3 s1 hta (by omega) hL1.low)
                obtain ⟨Q, hQ⟩ : ∃ Q, M - x0 = Q := ⟨_, rfl⟩
                obtain ⟨Q2, hQ2⟩ : ∃ Q2, co - x0 = Q2 := ⟨_, rfl⟩
                rw [hQ] at htb
                have HC2 := Lib.hid (rcheck_yes (some ⟨g, x0, none⟩) Q Q2 _ _ w3 s2 htb (by omega) hL2.low)
                have hgl : g < w3.heap.size := cell_lt cl
                have hglo : w.heap.size ≤ g := Nat.le_trans HO.out.size (hA.lies g ⟨_, rfl, rfl⟩)
                have HRF := Lib.hid hA.rf
                have HS1 := Lib.hid s1
                have HS2 := Lib.hid s2
                have hsub : M - x0 = Q := hQ
                by_cases hy0 : y = 0
                · subst hy0
                  rw [if_pos rfl] at hR
                  have HRX := Lib.hid hR
                  clear hR hA hy s1 s2 HC1 HC2
                  go_wp2
                  go_ret3
                  exact ⟨HO3.out, by rw [← HRX.out]; rfl⟩
                · rw [if_neg hy0] at hR
                  have hyi : ¬ (y : Int) = 0 := by omega
                  obtain ⟨d1, hd1⟩ : ∃ d, (kd (o.take x0)).1 = d := ⟨_, rfl⟩
                  obtain ⟨d2, hd2⟩ : ∃ d, (kd (o.drop x0)).1 = d := ⟨_, rfl⟩
                  rw [hd1] at HC1
                  rw [hd2] at HC2
                  clear hA hy s1 s2 hd1 hd2
                  rcases kd_two (o.take x0) with t1 | t1
                  · rw [t1] at HC1
                    rcases kd_two (o.drop x0) with t2 | t2
                    · rw [t2] at HC2
                      rw [if_neg (by rw [t1, t2]; simp)] at hR
                      have HRX := Lib.hid hR
                      have HFI : Hid (DOwnPost p w A n c kv out R (.returned (.tuple #[.slice (some ⟨g, 0, none⟩) x0 co, .slice (some ⟨g, x0, none⟩) Q Q2, .int .i64 0])) w3) := Lib.hid (by
                        refine ⟨HO3.out, ?_⟩
                        rw [← hR, if_neg (by simp)]
                        refine ⟨_, _, _, _, _, _, rfl, HRF.out, HS1.out, HS2.out, hta, htb, hL1, hL2, t1, t2, ?_⟩
                        rintro j (⟨ad, e, rfl⟩ | ⟨ad, e, rfl⟩)
                        · obtain rfl := Option.some.inj e
                          exact ⟨hglo, hgl⟩
                        · obtain rfl := Option.some.inj e
                          exact ⟨hglo, hgl⟩)
                      clear hR hta htb hL1 hL2 HRF HS1 HS2 t1 t2
                      go_wp2_with fail
                      refine HC1.out.mono ?_
                      rintro e w4 ⟨rfl, rfl⟩
                      go_wp2_with fail
                      refine HC2.out.mono ?_
                      rintro e w4 ⟨rfl, rfl⟩
                      go_wp2
                      go_ret3
                      exact HFI.out
                    · rw [t2] at HC2
                      rw [if_pos (.inr (by rw [t2]; decide))] at hR
                      have HRX := Lib.hid hR
                      clear hR hta htb hL1 hL2 HRF HS1 HS2 t1 t2
                      go_wp2_with fail
                      refine HC1.out.mono ?_
                      rintro e w4 ⟨rfl, rfl⟩
                      go_wp2_with fail
                      refine HC2.out.mono ?_
                      rintro e w4 ⟨rfl, rfl⟩
                      go_wp2
                      go_ret3
                      exact ⟨HO3.out, by rw [← HRX.out]; rfl⟩
                  · rw [t1] at HC1
                    rw [if_pos (.inl (by rw [t1]; decide))] at hR
                    obtain ⟨t2, ht2⟩ : ∃ d, (kd (o.drop x0)).2 = d := ⟨_, rfl⟩
                    rw [ht2] at HC2
                    have HRX := Lib.hid hR
                    clear hR hta htb hL1 hL2 HRF HS1 HS2 t1 ht2
                    go_wp2_with fail
                    refine HC1.out.mono ?_
                    rintro e w4 ⟨rfl, rfl⟩
                    go_wp2_with fail
                    refine HC2.out.mono ?_
                    rintro e w4 ⟨rfl, rfl⟩
                    go_wp2
                    go_ret3
                    exact ⟨HO3.out, by rw [← HRX.out]; rfl⟩
              · rw [if_pos hx] at hif
                subst hif
                refine ⟨_, rfl, s3, ?_⟩
                simp only [Act.put, List.setIfInBounds_toArray, List.set_cons_succ, List.set_cons_zero]
                refine Steps.take (.tuple #[.slice none 0 0, .int .i64 x]) rfl s3 (fun _ hW => by kernel_rfl) ?_
                simp only [Act.put, List.setIfInBounds_toArray, List.set_cons_succ, List.set_cons_zero]
                refine Steps.take (.slice none 0 0) rfl s3 (fun _ hW => by kernel_rfl) ?_
                simp only [Act.put, List.setIfInBounds_toArray, List.set_cons_succ, List.set_cons_zero]
                refine Steps.take (.int .i64 x) rfl s3 (fun _ hW => by kernel_rfl) ?_
                simp only [Act.put, List.setIfInBounds_toArray, List.set_cons_succ, List.set_cons_zero]
                refine Steps.take (.slice none 0 0) rfl s3 (fun _ hW => by kernel_rfl) ?_
                simp only [Act.put, List.setIfInBounds_toArray, List.set_cons_succ, List.set_cons_zero]
                refine Steps.take (.int .i64 x) rfl s3 (fun _ hW => by kernel_rfl) ?_
                simp only [Act.put, List.setIfInBounds_toArray, List.set_cons_succ, List.set_cons_zero]
                show wpList _ _ _ _ _ _
                have hx2 : ¬ (x : Int) = 0 := by omega
                have hR := HRR.out
                rw [if_pos hx] at hR
                have HRX := Lib.hid hR
                clear hR HRR
                go_wp2
                go_ret3
                exact ⟨HO3.out, by rw [← HRX.out, if_pos hx]; rfl⟩
end Go.Proofs.YtjlkjebmilfgoaaGreat
