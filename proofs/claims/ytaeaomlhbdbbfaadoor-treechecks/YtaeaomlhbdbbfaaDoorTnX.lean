/- Layer 15, the laws: whether nodes make a tree. -/
import Derived.Test.YtaeaomlhbdbbfaaDoorTnV
namespace Go.Proofs.YtaeaomlhbdbbfaaDoor
open Go.RowKit
variable {G : World → Prop} {T : Value → List Nd → (Nat → Prop) → World → Prop}

set_option maxRecDepth 100000 in
set_option maxHeartbeats 8000000 in
theorem treeChecksWalk (C : TrC G T) (M : TrM G T) (A : Option Addr) (n c B : Nat) (ps : List Nd) (w : World) (hg : G w) (hS : See w B A (nds ps)) (hn : ps.length = n) (hb : n ≤ 9223372036854775807) (hc : n ≤ c) (hr : ∀ p ∈ ps, NdR p) : Calls Tryd.prog 3 #[.slice A n c] w fun e w' => e = .returned (.bool true) ∧ Only (fun _ => False) w w' := by
  have HAW := Lib.hid (awake15 C w hg)
  have HC := Lib.hid C
  have HMO := Lib.hid M
  have HK : Hid (∀ w', Only (fun _ => False) w w' → G w') := Lib.hid fun w' k => C.keep w w' hg k
  have HS := Lib.hid hS
  have HN := Lib.hid hn
  have HR := Lib.hid hr
  clear C hg hS hr hn
  go_enter Tryd.func3, Tryd.ntmps3
  go_wp2_with fail
  refine HAW.out.mono ?_
  rintro e w1 ⟨rfl, o1⟩
  have HO1 := Lib.hid o1
  clear o1 HAW
  by_cases h60 : 60 < n
  · have l1 : (60 : Int) < (n : Int) := by omega
    go_wp2
    go_ret
    exact ⟨rfl, HO1.out⟩
  have l1 : ¬ (60 : Int) < (n : Int) := by omega
  clear hb
  go_wp2_with fail
  go_loopg [17] n (fun gk u wx => ∃ i : Nat, u = .int .i64 i ∧ i + gk = n ∧ Hid (Only (fun _ => False) w wx) ∧ Hid (∀ m ∈ ps.take i, NdSm m))
  case atStart => exact ⟨0, rfl, by omega, HO1, Lib.hid fun m hm => (by cases hm)⟩
  case round =>
    obtain ⟨i, rfl, hi, HO, HM⟩ := hrel
    by_cases hlt : i < n
    · have l4 : (i : Int) < (n : Int) := by omega
      have hlt2 : i < ps.length := by rw [HN.out]; exact hlt
      obtain ⟨b, o, rfl, d0, d1, d2, d3, d4⟩ := see_nd (HS.out.new HO.out) hlt2
      have HRQ := Lib.hid (HR.out _ (getD_mem nd0 ps i hlt2))
      have HMS : Hid (NdSm (ps.getD i nd0) → ∀ m ∈ ps.take (i + 1), NdSm m) := Lib.hid fun h m hm => by
        rw [getD_take_snoc nd0 ps i hlt2] at hm
        rcases List.mem_append.1 hm with g | g
        · exact HM.out m g
        · rw [List.mem_singleton.1 g]
          exact h
      clear hlt2
      generalize ps.getD i nd0 = q at *
      obtain ⟨pa, di, da, mo, ti⟩ := q
      replace d0 : wr.cell? ⟨b, o + i * 5, none⟩ = some (.string (tx pa)) := d0
      replace d1 : wr.cell? ⟨b, o + i * 5 + 1, none⟩ = some (.bool di) := d1
      replace d2 : wr.cell? ⟨b, o + i * 5 + 2, none⟩ = some (.string (tx da)) := d2
      replace d3 : wr.cell? ⟨b, o + i * 5 + 3, none⟩ = some (.int .i64 mo) := d3
      replace d4 : wr.cell? ⟨b, o + i * 5 + 4, none⟩ = some (.int .i64 ti) := d4
      have z1 : (tx pa).size = pa.length := tx_size _
      have z2 : (tx da).size = da.length := tx_size _
      by_cases c1 : 60 < pa.length
      · have k1 : (60 : Int) < (pa.length : Int) := by omega
        clear c1 HMS HRQ
        go_wp2
        go_ret
        exact ⟨rfl, HO.out.alloc _⟩
      have k1 : ¬ (60 : Int) < (pa.length : Int) := by omega
      by_cases c2 : 60 < da.length
      · have k2 : (60 : Int) < (da.length : Int) := by omega
        clear c1 c2 HMS HRQ
        go_wp2
        go_ret
        exact ⟨rfl, HO.out.alloc _⟩
      have k2 : ¬ (60 : Int) < (da.length : Int) := by omega
      have HQ : Hid (NdSm ⟨pa, di, da, mo, ti⟩) := Lib.hid ⟨⟨by show pa.length ≤ 2000; omega, by show da.length ≤ 1000000; omega, HRQ.out⟩, by show pa.length ≤ 60; omega, by show da.length ≤ 60; omega⟩
      have HMN := Lib.hid (HMS.out HQ.out)
      clear HMS HRQ c1 c2
      have HMA : Hid (∀ x, Calls Tryd.prog 7 #[.agg #[.string (tx pa), .bool di, .string (tx da), .int .i64 mo, .int .i64 ti]] (wr.alloc x) fun e w' => e = .returned (.tuple #[.bool (mayPath ⟨pa, di, da, mo, ti⟩), .bool (mayRest ⟨pa, di, da, mo, ti⟩)]) ∧ Only (fun _ => False) (wr.alloc x) w') := Lib.hid fun x => rmay ⟨pa, di, da, mo, ti⟩ (wr.alloc x) HQ.out.1
      have HMB : Hid (∀ w1, G w1 → Calls Tryd.prog 8 #[.agg #[.string (tx pa), .bool di, .string (tx da), .int .i64 mo, .int .i64 ti]] w1 fun e w' => e = .returned (.bool (mayPath ⟨pa, di, da, mo, ti⟩ && mayRest ⟨pa, di, da, mo, ti⟩)) ∧ Only (fun _ => False) w1 w') := Lib.hid fun w1 h => HMO.out.may ⟨pa, di, da, mo, ti⟩ w1 h HQ.out
      generalize mayPath ⟨pa, di, da, mo, ti⟩ = P at HMA HMB
      generalize mayRest ⟨pa, di, da, mo, ti⟩ = R at HMA HMB
      obtain ⟨X, hX⟩ : ∃ X, wr.heap.size = X := ⟨_, rfl⟩
      have HI : Hid (Is (wr.alloc (.cells #[.string (tx pa), .bool di, .string (tx da), .int .i64 mo, .int .i64 ti] 25)) X 25 [.string (tx pa), .bool di, .string (tx da), .int .i64 mo, .int .i64 ti]) := Lib.hid (by
        rw [← hX]
        exact Is.new wr _ _)
      go_wp2_with fail
      refine (HMA.out _).mono ?_
      rintro e w5 ⟨rfl, o5⟩
      have HI5 := Lib.hid (HI.out.only o5 fun f => f)
      have HO5 := Lib.hid ((HO.out.alloc _).trans o5)
      have HMB5 := Lib.hid (HMB.out w5 (HK.out _ HO5.out))
      clear HMA HMB HI HO o5 hX d0 d1 d2 d3 d4
      have y0 := HI5.out.cell 0 rfl
      have y1 := HI5.out.cell 1 rfl
      have y2 := HI5.out.cell 2 rfl
      have y3 := HI5.out.cell 3 rfl
      have y4 := HI5.out.cell 4 rfl
      go_wp2_with fail
      refine HMB5.out.mono ?_
      rintro e w6 ⟨rfl, o6⟩
      have HO6 := Lib.hid (HO5.out.trans o6)
      clear HMB5 HI5 HO5 o6 y0 y1 y2 y3 y4
      cases P with
      | false =>
        rw [Bool.false_and]
        go_wp2_with fail
        go_roundg (gk - 1)
        case measure => omega
        case rel => exact ⟨i + 1, by go_num, by omega, HO6, HMN⟩
      | true =>
        rw [Bool.true_and]
        have k5 : (R == R) = true := by cases R <;> rfl
        cases R with
        | false =>
          go_wp2_with fail
          go_roundg (gk - 1)
          case measure => omega
          case rel => exact ⟨i + 1, by go_num, by omega, HO6, HMN⟩
        | true =>
          go_wp2_with fail
          go_roundg (gk - 1)
          case measure => omega
          case rel => exact ⟨i + 1, by go_num, by omega, HO6, HMN⟩
    · obtain rfl : i = n := by omega
      have l4 : ¬ (i : Int) < (i : Int) := by omega
      have HM2 : Hid (∀ m ∈ ps, NdSm m) := Lib.hid (by
        have := HM.out
        rw [List.take_of_length_le (by rw [HN.out]; exact Nat.le_refl _)] at this
        exact this)
      have HRC := Lib.hid (rcheck A i c _ ps wr (HS.out.new HO.out) HN.out ⟨by rw [HN.out]; omega, fun m hm => (HM2.out m hm).1⟩ hc)
      clear HM
      go_wp2_with fail
      refine HRC.out.mono ?_
      rintro e w5 ⟨rfl, o5⟩
      have HO5 := Lib.hid (HO.out.trans o5)
      have HOF := Lib.hid (HMO.out.of A i c _ ps w5 (HK.out _ HO5.out) (HS.out.new HO5.out) HN.out hc (by omega) HM2.out)
      clear HRC HO o5
      obtain ⟨E, hE⟩ : ∃ E, checkT ps = E := ⟨_, rfl⟩
      have HE := Lib.hid hE
      rw [hE] at HOF ⊢
      clear hE
      go_wp2_with fail
      refine HOF.out.mono ?_
      rintro e w6 ⟨a, rfl, ha, ht, o6⟩
      have HO6 := Lib.hid (HO5.out.trans o6)
      have HA := Lib.hid ha
      have HTT := Lib.hid ht
      have HCK := Lib.hid (HC.out.check A i c _ ps w6 (HK.out _ HO6.out) (HS.out.new HO6.out) HN.out hc (by omega) HM2.out)
      rw [HE.out] at HCK
      clear HOF HO5 o6 ha ht
      have k5 : (E == E) = true := by rw [beq_iff_eq]
      by_cases h0 : E = 0
      · subst h0
        obtain ⟨ad, rfl⟩ : ∃ ad, a = some ad := by
          cases a with
          | none => exact ((HA.out.1 rfl) rfl).elim
          | some ad => exact ⟨ad, rfl⟩
        obtain ⟨F, hF, _⟩ := HTT.out rfl
        have HF := Lib.hid hF
        clear hF HTT HA
        go_wp2_with fail
        refine HCK.out.mono ?_
        rintro e w7 ⟨rfl, o7⟩
        have HO7 := Lib.hid (HO6.out.trans o7)
        have HAL := Lib.hid (HC.out.all w7 (HK.out _ HO7.out) (HC.out.stay HF.out o7 fun _ _ f => f) HM2.out (by rw [HN.out]; omega))
        clear HCK HO6 HF o7
        go_wp2_with fail
        refine HAL.out.mono ?_
        rintro e w8 ⟨A8, c8, B8, rfl, s1, s2, o8, _⟩
        have HO8 := Lib.hid (HO7.out.trans o8)
        have HSA := Lib.hid (rsame A8 A ps.length c8 i c B8 _ ps ps w8 s1 (HS.out.new HO8.out) rfl HN.out (by rw [HN.out]; omega) (by omega))
        rw [decide_eq_true rfl] at HSA
        clear HAL HO7 o8 s1 s2
        go_wp2_with fail
        refine HSA.out.mono ?_
        rintro e w9 ⟨rfl, o9⟩
        have HO9 := Lib.hid (HO8.out.trans o9)
        clear HSA HO8 o9
        go_wp2
        go_ret
        exact ⟨rfl, HO9.out⟩
      · have ha0 : a = none := HA.out.2 h0
        subst ha0
        have k6 : (E == 0) = false := by rw [beq_eq_false_iff_ne]; exact h0
        clear HTT HA
        go_wp2_with fail
        refine HCK.out.mono ?_
        rintro e w7 ⟨rfl, o7⟩
        have HO7 := Lib.hid (HO6.out.trans o7)
        clear HCK HO6 o7
        go_wp2
        go_ret
        exact ⟨rfl, HO7.out⟩
end Go.Proofs.YtaeaomlhbdbbfaaDoor
