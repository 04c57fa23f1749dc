/- Layer 15, the document: a node put; two rows, the same or not. -/
import Derived.Test.YtaeaomlhbdbbfaaGreatDoorTnA
namespace Go.Proofs.YtaeaomlhbdbbfaaGreatDoor
open Go.RowKit

set_option maxHeartbeats 8000000 in
theorem rput (A : Option Addr) (k c B : Nat) (ps : List Nd) (n : Nd) (w : World) (hS : See w B A (nds ps)) (hk : ps.length = k) (hb : k + n.path.length + 3 ≤ 100000) (hin : ∀ n ∈ ps, NdIn n) (hc : k ≤ c) (hn : NdIn n) : Calls Tryz.prog 35 #[.slice A k c, ndV n] w (SeeP w A (putT ps n)) := by
  have h2 := hn.1
  obtain ⟨X, hX⟩ : ∃ X, w.heap.size = X := ⟨_, rfl⟩
  obtain ⟨w0, hw0⟩ : ∃ w0, w.alloc (.cells #[.string (tx n.path), .bool n.dir, .string (tx n.data), .int .i64 n.mode, .int .i64 n.time] 29) = w0 := ⟨_, rfl⟩
  have HI : Hid (Is w0 X 29 (ndVals n)) := Lib.hid (by
    rw [← hw0, ← hX]
    exact Is.new w _ _)
  have HFR : Hid (Only (fun _ => False) w w0) := Lib.hid (by
    rw [← hw0]
    exact (Only.refl _ w).alloc _)
  have HLI : Hid (∀ j, Lies A j → Lies A j ∨ (w.heap.size ≤ j ∧ j < w0.heap.size)) := Lib.hid fun j hj => .inl hj
  have HSS := Lib.hid (hS.new HFR.out)
  have HNN := Lib.hid hk
  have HIN := Lib.hid hin
  have HND := Lib.hid hn
  have HP := Lib.hid (rparent n.path w0 (by omega))
  have x0 := HI.out.cell 0 rfl
  have HPT : Hid (putT ps n = setT (if n.dir = true then headT ps n.path else dropT (headT ps n.path) n.path true) n) := Lib.hid rfl
  obtain ⟨D, hD⟩ : ∃ D, n.dir = D := ⟨_, rfl⟩
  have HDD := Lib.hid hD
  by_cases hp : (parentF n.path).2 = true
  · have hpl := parent_lt n.path hp
    have HPI := Lib.hid (rensure _ (parentF n.path).1 A k c B ps w0 (Nat.lt_succ_self _) (by omega) HSS.out hk (by omega) hin hc)
    have HEN := Lib.hid (ensure_in _ (parentF n.path).1 ps (Nat.le_refl _) (by omega) hin)
    have HHD : Hid (headT ps n.path = ensureT ps (parentF n.path).1) := Lib.hid (if_pos hp)
    rw [hp] at HP
    clear hS hin hn hD hp
    generalize (parentF n.path).1 = pp at *
    generalize ensureT ps pp = hs at HPI HEN HHD
    go_enter Tryz.func35, Tryz.ntmps35
    go_wp2_with fail
    refine HP.out.mono ?_
    rintro e _ ⟨rfl, rfl⟩
    clear HP
    go_wp2_with fail
    refine HPI.out.mono ?_
    rintro e w2 ⟨A2, c2, B2, rfl, s1, s2, s3, s4⟩
    have HS2 := Lib.hid s1
    have HFR2 := Lib.hid (HFR.out.trans s3)
    have HLI2 : Hid (∀ j, Lies A2 j → Lies A j ∨ (w.heap.size ≤ j ∧ j < w2.heap.size)) := Lib.hid fun j hj => (s4 j hj).elim .inl fun g => .inr ⟨Nat.le_trans HFR.out.size g.1, g.2⟩
    have HI2 := Lib.hid (HI.out.only s3 fun f => f)
    have hlen := HEN.out.1
    have HIN2 := Lib.hid HEN.out.2
    clear s1 s3 s4 HPI HEN hw0 hX x0
    obtain ⟨n2, hn2⟩ : ∃ n2, hs.length = n2 := ⟨_, rfl⟩
    have HN2 := Lib.hid hn2
    rw [hn2] at s2 hlen ⊢
    rw [hk] at hlen
    clear hn2 hk
    cases D with
    | true =>
      have x1 : w2.cell? ⟨X, 1, none⟩ = some (.bool true) := by rw [← HDD.out]; exact HI2.out.cell 1 rfl
      have HEQ : Hid (putT ps n = setT hs n) := Lib.hid (by rw [HPT.out, HDD.out, if_pos rfl, HHD.out])
      have HST := Lib.hid (rset A2 n2 c2 B2 hs n w2 HS2.out HN2.out ⟨by rw [HN2.out]; omega, HIN2.out⟩ HND.out)
      have y0 := HI2.out.cell 0 rfl
      have y1 := x1
      have y2 := HI2.out.cell 2 rfl
      have y3 := HI2.out.cell 3 rfl
      have y4 := HI2.out.cell 4 rfl
      have HVN : Hid (ndV n = .agg #[.string (tx n.path), .bool true, .string (tx n.data), .int .i64 n.mode, .int .i64 n.time]) := Lib.hid (by rw [← HDD.out])
      rw [HVN.out] at HST
      go_wp2_with fail
      refine HST.out.mono ?_
      intro e w6 h6
      rw [← HEQ.out] at h6
      obtain ⟨A6, c6, B6, rfl, s1, s2, s3, s4⟩ := (NdsP.see (A0 := A2) h6).from HFR2.out (A0 := A) HLI2.out
      have HF := Lib.hid (And.intro s1 (And.intro s2 (And.intro s3 s4)))
      clear h6 s1 s2 s3 s4 HST
      go_wp2
      go_ret
      exact ⟨A6, c6, B6, rfl, HF.out⟩
    | false =>
      have x1 : w2.cell? ⟨X, 1, none⟩ = some (.bool false) := by rw [← HDD.out]; exact HI2.out.cell 1 rfl
      have x0 := HI2.out.cell 0 rfl
      have HDR := Lib.hid (rdrop A2 n2 c2 B2 hs n.path true w2 HS2.out HN2.out ⟨by rw [HN2.out]; omega, HIN2.out⟩ h2)
      have hdl := dropT_len hs n.path true
      have HIN5 : Hid (∀ m ∈ dropT hs n.path true, NdIn m) := Lib.hid fun m hm => HIN2.out m (dropT_mem hm)
      rw [HN2.out] at hdl
      go_wp2_with fail
      refine HDR.out.mono ?_
      rintro e w5 ⟨A5, c5, rfl, hm5⟩
      have HS5 := Lib.hid hm5.1.see
      have HFR5 := Lib.hid (HFR2.out.trans hm5.2.1)
      have HLI5 : Hid (∀ j, Lies A5 j → Lies A j ∨ (w.heap.size ≤ j ∧ j < w5.heap.size)) := Lib.hid fun j hj => .inr ⟨Nat.le_trans HFR2.out.size (hm5.2.2 j hj), rs_lies hm5.1 j hj⟩
      have HI5 := Lib.hid (HI2.out.only hm5.2.1 fun f => f)
      have HN5 : Hid ((dropT hs n.path true).length = (dropT hs n.path true).length) := Lib.hid rfl
      clear hm5 HDR x0 x1
      have HEQ : Hid (putT ps n = setT (dropT hs n.path true) n) := Lib.hid (by rw [HPT.out, HDD.out, if_neg (by decide), HHD.out])
      have HST := Lib.hid (rset A5 (dropT hs n.path true).length c5 w5.heap.size (dropT hs n.path true) n w5 HS5.out HN5.out ⟨by rw [HN5.out]; omega, HIN5.out⟩ HND.out)
      have y0 := HI5.out.cell 0 rfl
      have y1 : w5.cell? ⟨X, 1, none⟩ = some (.bool false) := by rw [← HDD.out]; exact HI5.out.cell 1 rfl
      have y2 := HI5.out.cell 2 rfl
      have y3 := HI5.out.cell 3 rfl
      have y4 := HI5.out.cell 4 rfl
      have HVN : Hid (ndV n = .agg #[.string (tx n.path), .bool false, .string (tx n.data), .int .i64 n.mode, .int .i64 n.time]) := Lib.hid (by rw [← HDD.out])
      rw [HVN.out] at HST
      go_wp2_with fail
      refine HST.out.mono ?_
      intro e w6 h6
      rw [← HEQ.out] at h6
      obtain ⟨A6, c6, B6, rfl, s1, s2, s3, s4⟩ := (NdsP.see (A0 := A5) h6).from HFR5.out (A0 := A) HLI5.out
      have HF := Lib.hid (And.intro s1 (And.intro s2 (And.intro s3 s4)))
      clear h6 s1 s2 s3 s4 HST
      go_wp2
      go_ret
      exact ⟨A6, c6, B6, rfl, HF.out⟩
  · have hp2 : (parentF n.path).2 = false := by
      cases e : (parentF n.path).2 with
      | false => rfl
      | true => exact (hp e).elim
    have HHD : Hid (headT ps n.path = ps) := Lib.hid (head_no hp2)
    rw [hp2] at HP
    clear hS hin hn hD hp hk
    generalize (parentF n.path).1 = pp at HP
    go_enter Tryz.func35, Tryz.ntmps35
    go_wp2_with fail
    refine HP.out.mono ?_
    rintro e _ ⟨rfl, rfl⟩
    clear HP hw0 hX x0
    cases D with
    | true =>
      have x1 : w0.cell? ⟨X, 1, none⟩ = some (.bool true) := by rw [← HDD.out]; exact HI.out.cell 1 rfl
      have HEQ : Hid (putT ps n = setT ps n) := Lib.hid (by rw [HPT.out, HDD.out, if_pos rfl, HHD.out])
      have HST := Lib.hid (rset A k c B ps n w0 HSS.out HNN.out ⟨by rw [HNN.out]; omega, HIN.out⟩ HND.out)
      have y0 := HI.out.cell 0 rfl
      have y1 := x1
      have y2 := HI.out.cell 2 rfl
      have y3 := HI.out.cell 3 rfl
      have y4 := HI.out.cell 4 rfl
      have HVN : Hid (ndV n = .agg #[.string (tx n.path), .bool true, .string (tx n.data), .int .i64 n.mode, .int .i64 n.time]) := Lib.hid (by rw [← HDD.out])
      rw [HVN.out] at HST
      go_wp2_with fail
      refine HST.out.mono ?_
      intro e w6 h6
      rw [← HEQ.out] at h6
      obtain ⟨A6, c6, B6, rfl, s1, s2, s3, s4⟩ := (NdsP.see (A0 := A) h6).from HFR.out (A0 := A) HLI.out
      have HF := Lib.hid (And.intro s1 (And.intro s2 (And.intro s3 s4)))
      clear h6 s1 s2 s3 s4 HST
      go_wp2
      go_ret
      exact ⟨A6, c6, B6, rfl, HF.out⟩
    | false =>
      have x1 : w0.cell? ⟨X, 1, none⟩ = some (.bool false) := by rw [← HDD.out]; exact HI.out.cell 1 rfl
      have x0 := HI.out.cell 0 rfl
      have HDR := Lib.hid (rdrop A k c B ps n.path true w0 HSS.out HNN.out ⟨by rw [HNN.out]; omega, HIN.out⟩ h2)
      have hdl := dropT_len ps n.path true
      have HIN5 : Hid (∀ m ∈ dropT ps n.path true, NdIn m) := Lib.hid fun m hm => HIN.out m (dropT_mem hm)
      rw [HNN.out] at hdl
      go_wp2_with fail
      refine HDR.out.mono ?_
      rintro e w5 ⟨A5, c5, rfl, hm5⟩
      have HS5 := Lib.hid hm5.1.see
      have HFR5 := Lib.hid (HFR.out.trans hm5.2.1)
      have HLI5 : Hid (∀ j, Lies A5 j → Lies A j ∨ (w.heap.size ≤ j ∧ j < w5.heap.size)) := Lib.hid fun j hj => .inr ⟨Nat.le_trans HFR.out.size (hm5.2.2 j hj), rs_lies hm5.1 j hj⟩
      have HI5 := Lib.hid (HI.out.only hm5.2.1 fun f => f)
      have HN5 : Hid ((dropT ps n.path true).length = (dropT ps n.path true).length) := Lib.hid rfl
      clear hm5 HDR x0 x1
      have HEQ : Hid (putT ps n = setT (dropT ps n.path true) n) := Lib.hid (by rw [HPT.out, HDD.out, if_neg (by decide), HHD.out])
      have HST := Lib.hid (rset A5 (dropT ps n.path true).length c5 w5.heap.size (dropT ps n.path true) n w5 HS5.out HN5.out ⟨by rw [HN5.out]; omega, HIN5.out⟩ HND.out)
      have y0 := HI5.out.cell 0 rfl
      have y1 : w5.cell? ⟨X, 1, none⟩ = some (.bool false) := by rw [← HDD.out]; exact HI5.out.cell 1 rfl
      have y2 := HI5.out.cell 2 rfl
      have y3 := HI5.out.cell 3 rfl
      have y4 := HI5.out.cell 4 rfl
      have HVN : Hid (ndV n = .agg #[.string (tx n.path), .bool false, .string (tx n.data), .int .i64 n.mode, .int .i64 n.time]) := Lib.hid (by rw [← HDD.out])
      rw [HVN.out] at HST
      go_wp2_with fail
      refine HST.out.mono ?_
      intro e w6 h6
      rw [← HEQ.out] at h6
      obtain ⟨A6, c6, B6, rfl, s1, s2, s3, s4⟩ := (NdsP.see (A0 := A5) h6).from HFR5.out (A0 := A) HLI5.out
      have HF := Lib.hid (And.intro s1 (And.intro s2 (And.intro s3 s4)))
      clear h6 s1 s2 s3 s4 HST
      go_wp2
      go_ret
      exact ⟨A6, c6, B6, rfl, HF.out⟩

set_option maxHeartbeats 4000000 in
theorem neq_nd (p q : Nd) (w : World) : (binOp .neq 29 (ndV p) (ndV q)).run Tryz.prog w = .ok (.bool (!(decide (p = q)))) w := by
  rw [run_neq_struct]
  have t1 := tx_toList p.path
  have t2 := tx_toList q.path
  have t3 := tx_toList p.data
  have t4 := tx_toList q.data
  go_simp
  have he : p = q ↔ p.path = q.path ∧ p.dir = q.dir ∧ p.data = q.data ∧ p.mode = q.mode ∧ p.time = q.time := by
    constructor
    · rintro rfl
      exact ⟨rfl, rfl, rfl, rfl, rfl⟩
    · rintro ⟨h1, h2, h3, h4, h5⟩
      cases p
      cases q
      simp_all
  by_cases h1 : p.path = q.path
  · rw [if_pos h1]
    by_cases h2 : p.dir = q.dir
    · rw [if_pos h2]
      by_cases h3 : p.data = q.data
      · rw [if_pos h3]
        by_cases h4 : p.mode = q.mode
        · rw [if_pos h4]
          by_cases h5 : p.time = q.time
          · rw [if_pos h5, decide_eq_true (he.2 ⟨h1, h2, h3, h4, h5⟩)]
            rfl
          · rw [if_neg h5, decide_eq_false fun h => h5 (he.1 h).2.2.2.2]
            rfl
        · rw [if_neg h4, decide_eq_false fun h => h4 (he.1 h).2.2.2.1]
          rfl
      · rw [if_neg h3, decide_eq_false fun h => h3 (he.1 h).2.2.1]
        rfl
    · rw [if_neg h2, decide_eq_false fun h => h2 (he.1 h).2.1]
      rfl
  · rw [if_neg h1, decide_eq_false fun h => h1 (he.1 h).1]
    rfl
theorem take_eq_step (ps qs : List Nd) (i : Nat) (h : i < ps.length) (h2 : i < qs.length) (he : ps.take i = qs.take i) : (ps.take (i + 1) = qs.take (i + 1) ↔ ps.getD i nd0 = qs.getD i nd0) := by
  rw [getD_take_snoc nd0 ps i h, getD_take_snoc nd0 qs i h2, he]
  simp
set_option maxHeartbeats 4000000 in
theorem rsame (A A2 : Option Addr) (n c m c2 B B2 : Nat) (ps qs : List Nd) (w : World) (h : See w B A (nds ps)) (h2 : See w B2 A2 (nds qs)) (hn : ps.length = n) (hm : qs.length = m) (hb : n ≤ 100000) (hb2 : m ≤ 100000) : Calls Tryz.prog 12 #[.slice A n c, .slice A2 m c2] w fun e w' => e = .returned (.bool (decide (ps = qs))) ∧ Only (fun _ => False) w w' := by
  have HS := Lib.hid h
  have HS2 := Lib.hid h2
  have HN := Lib.hid hn
  have HM := Lib.hid hm
  clear h h2 hn hm
  go_enter Tryz.func12, Tryz.ntmps12
  by_cases hnm : n = m
  · subst hnm
    go_wp2_with fail
    go_loopg [5] n (fun gk u wx => ∃ i : Nat, u = .int .i64 i ∧ i + gk = n ∧ (∃ q, wx = w.drewN q) ∧ Hid (ps.take i = qs.take i))
    case atStart => exact ⟨0, rfl, by omega, ⟨0, rfl⟩, Lib.hid rfl⟩
    case round =>
      obtain ⟨i, rfl, hi, ⟨q, rfl⟩, HK⟩ := hrel
      by_cases hlt : i < n
      · have l4 : (i : Int) < (n : Int) := by omega
        have hlt2 : i < ps.length := by rw [HN.out]; exact hlt
        have hlt3 : i < qs.length := by rw [HM.out]; exact hlt
        obtain ⟨b, o, rfl, d0, d1, d2, d3, d4⟩ := see_nd HS.out hlt2
        obtain ⟨b2, o2, rfl, e0, e1, e2, e3, e4⟩ := see_nd HS2.out hlt3
        have HT := Lib.hid (take_eq_step ps qs i hlt2 hlt3 HK.out)
        have HY : Hid (ps.take (i + 1) ≠ qs.take (i + 1) → ps ≠ qs) := Lib.hid fun hne he => hne (by rw [he])
        clear hlt2 hlt3
        generalize ps.getD i nd0 = x at d0 d1 d2 d3 d4 HT
        generalize qs.getD i nd0 = y at e0 e1 e2 e3 e4 HT
        have hne : ∀ W : World, (binOp .neq 29 (ndV x) (ndV y)).run Tryz.prog W = .ok (.bool (!(decide (x = y)))) W := fun W => neq_nd x y W
        by_cases hxy : x = y
        · have HE := Lib.hid (HT.out.2 hxy)
          subst hxy
          clear HT HY HK hne
          go_upto_region 6 with fail
          go_quiet (fail)
          go_wp2_with fail
          go_roundg (gk - 1)
          case measure => omega
          case rel => exact ⟨i + 1, by go_num, by omega, ⟨_, rfl⟩, HE⟩
        · have HE := Lib.hid (HY.out fun h => hxy (HT.out.1 h))
          rw [decide_eq_false hxy] at hne
          simp only [Bool.not_false] at hne
          clear HT HY HK
          go_upto_region 6 with fail
          go_quiet (fail)
          go_wp2
          go_ret
          rw [decide_eq_false HE.out]
          exact ⟨rfl, ((Only.refl _ w).drewN _).drewN _⟩
      · obtain rfl : i = n := by omega
        have l4 : ¬ (i : Int) < (i : Int) := by omega
        have HE : Hid (ps = qs) := Lib.hid (by
          have := HK.out
          rw [List.take_of_length_le (by rw [HN.out]; exact Nat.le_refl _), List.take_of_length_le (by rw [HM.out]; exact Nat.le_refl _)] at this
          exact this)
        go_wp2
        go_ret
        rw [decide_eq_true HE.out]
        exact ⟨rfl, (Only.refl _ w).drewN q⟩
  · have HE : Hid (ps ≠ qs) := Lib.hid fun h => hnm (by rw [← HN.out, ← HM.out, h])
    have l4 : ((n : Int) == (m : Int)) = false := by rw [beq_eq_false_iff_ne]; omega
    have l5 : ¬ (n : Int) = (m : Int) := by omega
    go_wp2
    go_ret
    rw [decide_eq_false HE.out]
    exact ⟨rfl, Only.refl _ _⟩
end Go.Proofs.YtaeaomlhbdbbfaaGreatDoor
