/- Layer 15, the document: a node put; two rows, the same or not. -/
import Derived.Test.YtaeaomlhbdbbfaaDoorTnA
namespace Go.Proofs.YtaeaomlhbdbbfaaDoor
open Go.RowKit

set_option maxHeartbeats 4000000 in
theorem neq_nd (p q : Nd) (w : World) : (binOp .neq 25 (ndV p) (ndV q)).run Tryd.prog w = .ok (.bool (!(decide (p = q)))) w := by
  rw [run_neq_struct]
  have t1 := tx_toList p.path
  have t2 := tx_toList q.path
  have t3 := tx_toList p.data
  have t4 := tx_toList q.data
  go_simp
  have he : p = q ↔ p.path = q.path ∧ p.dir = q.dir ∧ p.data = q.data ∧ p.mode = q.mode ∧ p.time = q.time := by
    constructor
    · rintro rfl
      exact ⟨rfl, rfl, rfl, rfl, rfl⟩
    · rintro ⟨h1, h2, h3, h4, h5⟩
      cases p
      cases q
      simp_all
  by_cases h1 : p.path = q.path
  · rw [if_pos h1]
    by_cases h2 : p.dir = q.dir
    · rw [if_pos h2]
      by_cases h3 : p.data = q.data
      · rw [if_pos h3]
        by_cases h4 : p.mode = q.mode
        · rw [if_pos h4]
          by_cases h5 : p.time = q.time
          · rw [if_pos h5, decide_eq_true (he.2 ⟨h1, h2, h3, h4, h5⟩)]
            rfl
          · rw [if_neg h5, decide_eq_false fun h => h5 (he.1 h).2.2.2.2]
            rfl
        · rw [if_neg h4, decide_eq_false fun h => h4 (he.1 h).2.2.2.1]
          rfl
      · rw [if_neg h3, decide_eq_false fun h => h3 (he.1 h).2.2.1]
        rfl
    · rw [if_neg h2, decide_eq_false fun h => h2 (he.1 h).2.1]
      rfl
  · rw [if_neg h1, decide_eq_false fun h => h1 (he.1 h).1]
    rfl
theorem take_eq_step (ps qs : List Nd) (i : Nat) (h : i < ps.length) (h2 : i < qs.length) (he : ps.take i = qs.take i) : (ps.take (i + 1) = qs.take (i + 1) ↔ ps.getD i nd0 = qs.getD i nd0) := by
  rw [getD_take_snoc nd0 ps i h, getD_take_snoc nd0 qs i h2, he]
  simp
set_option maxHeartbeats 4000000 in
theorem rsame (A A2 : Option Addr) (n c m c2 B B2 : Nat) (ps qs : List Nd) (w : World) (h : See w B A (nds ps)) (h2 : See w B2 A2 (nds qs)) (hn : ps.length = n) (hm : qs.length = m) (hb : n ≤ 100000) (hb2 : m ≤ 100000) : Calls Tryd.prog 12 #[.slice A n c, .slice A2 m c2] w fun e w' => e = .returned (.bool (decide (ps = qs))) ∧ Only (fun _ => False) w w' := by
  have HS := Lib.hid h
  have HS2 := Lib.hid h2
  have HN := Lib.hid hn
  have HM := Lib.hid hm
  clear h h2 hn hm
  go_enter Tryd.func12, Tryd.ntmps12
  by_cases hnm : n = m
  · subst hnm
    go_wp2_with fail
    go_loopg [5] n (fun gk u wx => ∃ i : Nat, u = .int .i64 i ∧ i + gk = n ∧ (∃ q, wx = w.drewN q) ∧ Hid (ps.take i = qs.take i))
    case atStart => exact ⟨0, rfl, by omega, ⟨0, rfl⟩, Lib.hid rfl⟩
    case round =>
      obtain ⟨i, rfl, hi, ⟨q, rfl⟩, HK⟩ := hrel
      by_cases hlt : i < n
      · have l4 : (i : Int) < (n : Int) := by omega
        have hlt2 : i < ps.length := by rw [HN.out]; exact hlt
        have hlt3 : i < qs.length := by rw [HM.out]; exact hlt
        obtain ⟨b, o, rfl, d0, d1, d2, d3, d4⟩ := see_nd HS.out hlt2
        obtain ⟨b2, o2, rfl, e0, e1, e2, e3, e4⟩ := see_nd HS2.out hlt3
        have HT := Lib.hid (take_eq_step ps qs i hlt2 hlt3 HK.out)
        have HY : Hid (ps.take (i + 1) ≠ qs.take (i + 1) → ps ≠ qs) := Lib.hid fun hne he => hne (by rw [he])
        clear hlt2 hlt3
        generalize ps.getD i nd0 = x at d0 d1 d2 d3 d4 HT
        generalize qs.getD i nd0 = y at e0 e1 e2 e3 e4 HT
        have hne : ∀ W : World, (binOp .neq 25 (ndV x) (ndV y)).run Tryd.prog W = .ok (.bool (!(decide (x = y)))) W := fun W => neq_nd x y W
        by_cases hxy : x = y
        · have HE := Lib.hid (HT.out.2 hxy)
          subst hxy
          clear HT HY HK hne
          go_upto_region 6 with fail
          go_quiet (fail)
          go_wp2_with fail
          go_roundg (gk - 1)
          case measure => omega
          case rel => exact ⟨i + 1, by go_num, by omega, ⟨_, rfl⟩, HE⟩
        · have HE := Lib.hid (HY.out fun h => hxy (HT.out.1 h))
          rw [decide_eq_false hxy] at hne
          simp only [Bool.not_false] at hne
          clear HT HY HK
          go_upto_region 6 with fail
          go_quiet (fail)
          go_wp2
          go_ret
          rw [decide_eq_false HE.out]
          exact ⟨rfl, ((Only.refl _ w).drewN _).drewN _⟩
      · obtain rfl : i = n := by omega
        have l4 : ¬ (i : Int) < (i : Int) := by omega
        have HE : Hid (ps = qs) := Lib.hid (by
          have := HK.out
          rw [List.take_of_length_le (by rw [HN.out]; exact Nat.le_refl _), List.take_of_length_le (by rw [HM.out]; exact Nat.le_refl _)] at this
          exact this)
        go_wp2
        go_ret
        rw [decide_eq_true HE.out]
        exact ⟨rfl, (Only.refl _ w).drewN q⟩
  · have HE : Hid (ps ≠ qs) := Lib.hid fun h => hnm (by rw [← HN.out, ← HM.out, h])
    have l4 : ((n : Int) == (m : Int)) = false := by rw [beq_eq_false_iff_ne]; omega
    have l5 : ¬ (n : Int) = (m : Int) := by omega
    go_wp2
    go_ret
    rw [decide_eq_false HE.out]
    exact ⟨rfl, Only.refl _ _⟩
end Go.Proofs.YtaeaomlhbdbbfaaDoor
