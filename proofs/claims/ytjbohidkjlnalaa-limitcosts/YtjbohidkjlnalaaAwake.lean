/- Layer 6: the law's awake. -/
import Derived.Test.YtjbohidkjlnalaaFree
namespace Go.Proofs.Ytjbohidkjlnalaa
open Go.RowKit

theorem all3 : ((List.range 3).all fun a => (List.range 3).all fun b => (List.range 3).all fun d => !(decide (pw 15 a + pw 15 b + pw 15 d = 32768) && decide (5 * a + b + d = 9) && decide (0 < a) && decide (0 < b) && decide (0 < d)) || (decide (a = 1) && decide (b = 2) && decide (d = 2))) = true := by decide +kernel
theorem only3 (a : Nat) (ha : a < 3) (b : Nat) (hb : b < 3) (d : Nat) (hd : d < 3) (h1 : pw 15 a + pw 15 b + pw 15 d = 32768) (h2 : 5 * a + b + d = 9) (pa : 0 < a) (pb : 0 < b) (pd : 0 < d) : a = 1 ∧ b = 2 ∧ d = 2 := by
  have h := List.all_eq_true.1 (List.all_eq_true.1 (List.all_eq_true.1 all3 a (by simpa using ha)) b (by simpa using hb)) d (by simpa using hd)
  rw [decide_eq_true h1, decide_eq_true h2, decide_eq_true pa, decide_eq_true pb, decide_eq_true pd] at h
  simp at h
  omega
theorem all5 : ((List.range 4).all fun e => (List.range 8).all fun d => (List.range 16).all fun c => (List.range 31).all fun b => !(decide (pw 40 (30 - (b + 2 * c + 4 * d + 8 * e)) + pw 40 b + pw 40 c + pw 40 d + pw 40 e = 1099511627776) && decide (b + 2 * c + 4 * d + 8 * e < 30) && decide (0 < b) && decide (0 < c) && decide (0 < d) && decide (0 < e)) || (decide (30 - (b + 2 * c + 4 * d + 8 * e) = 4) && decide (e = 1))) = true := by decide +kernel
theorem only5 (a b c d e : Nat) (he : e < 4) (hd : d < 8) (hc : c < 16) (hb : b < 31) (h1 : pw 40 a + pw 40 b + pw 40 c + pw 40 d + pw 40 e = 1099511627776) (h2 : a + b + 2 * c + 4 * d + 8 * e = 30) (pa : 0 < a) (pb : 0 < b) (pc : 0 < c) (pd : 0 < d) (pe : 0 < e) : a = 4 ∧ e = 1 := by
  have h := List.all_eq_true.1 (List.all_eq_true.1 (List.all_eq_true.1 (List.all_eq_true.1 all5 e (by simpa using he)) d (by simpa using hd)) c (by simpa using hc)) b (by simpa using hb)
  have ea : 30 - (b + 2 * c + 4 * d + 8 * e) = a := by omega
  rw [ea, decide_eq_true h1, decide_eq_true (show b + 2 * c + 4 * d + 8 * e < 30 by omega), decide_eq_true pb, decide_eq_true pc, decide_eq_true pd, decide_eq_true pe] at h
  simp at h
  omega
theorem wt3 : Wt [5, 1, 1] [1, 1, 5] := ⟨by unfold Rise; decide, by decide⟩
theorem wt5 : Wt [1, 1, 2, 4, 8] [1, 1, 2, 4, 8] := ⟨by unfold Rise; decide, by decide⟩
theorem least3 : leastOf [1, 1, 5] 2 = 9 := by simp [leastOf, rs, prs, mrg]
theorem free5 : freeOf [1, 1, 2, 4, 8] = 30 := by simp [freeOf, hsum, hstep, mrg, ln]
theorem list3 {L : List Nat} (h : L.length = 3) : L = [ln L 0, ln L 1, ln L 2] := by
  match L, h with
  | [a, b, d], _ => rfl
theorem list5 {L : List Nat} (h : L.length = 5) : L = [ln L 0, ln L 1, ln L 2, ln L 3, ln L 4] := by
  match L, h with
  | [a, b, c, d, e], _ => rfl
theorem good3 {L : List Nat} (h : Good [5, 1, 1] L 15 2 (leastOf [1, 1, 5] 2)) : L = [1, 2, 2] := by
  have h1 := h.full (by decide)
  have h2 := h.cost
  rw [least3] at h2
  have p0 := (h.pos 0).2 (by decide)
  have p1 := (h.pos 1).2 (by decide)
  have p2 := (h.pos 2).2 (by decide)
  have t0 := h.top 0
  have t1 := h.top 1
  have t2 := h.top 2
  have h3 : 0 + pw 15 (ln L 0) + pw 15 (ln L 1) + pw 15 (ln L 2) = 32768 := h1
  have h4 : 0 + 5 * ln L 0 + 1 * ln L 1 + 1 * ln L 2 = 9 := h2
  obtain ⟨e0, e1, e2⟩ := only3 (ln L 0) (by omega) (ln L 1) (by omega) (ln L 2) (by omega) (by omega) (by omega) p0 p1 p2
  rw [list3 h.len, e0, e1, e2]
theorem good5 {L : List Nat} (h : Good [1, 1, 2, 4, 8] L 40 40 (freeOf [1, 1, 2, 4, 8])) : L.length = 5 ∧ ln L 0 = 4 ∧ ln L 4 = 1 := by
  have h1 := h.full (by decide)
  have h2 := h.cost
  rw [free5] at h2
  have p0 := (h.pos 0).2 (by decide)
  have p1 := (h.pos 1).2 (by decide)
  have p2 := (h.pos 2).2 (by decide)
  have p3 := (h.pos 3).2 (by decide)
  have p4 := (h.pos 4).2 (by decide)
  have h3 : 0 + pw 40 (ln L 0) + pw 40 (ln L 1) + pw 40 (ln L 2) + pw 40 (ln L 3) + pw 40 (ln L 4) = 1099511627776 := h1
  have h4 : 0 + 1 * ln L 0 + 1 * ln L 1 + 2 * ln L 2 + 4 * ln L 3 + 8 * ln L 4 = 30 := h2
  exact ⟨h.len, only5 (ln L 0) (ln L 1) (ln L 2) (ln L 3) (ln L 4) (by omega) (by omega) (by omega) (by omega) (by omega) (by omega) p0 p1 p2 p3 p4⟩
theorem ints_new (w : World) (l : List Nat) : See (w.alloc (.cells (ints l).toArray 3)) (w.alloc (.cells (ints l).toArray 3)).heap.size (some ⟨w.heap.size, 0, none⟩) (ints l) := (Is.new w 3 (ints l)).see

set_option maxRecDepth 10000 in
set_option maxHeartbeats 4000000 in
theorem awake (w : World) : Calls Try.prog 6 #[] w fun e w' => e = .returned (.bool true) ∧ Only (fun _ => False) w w' := by
  go_enter Try.func6, Try.ntmps6
  go_wp2_with fail
  have H1 := Lib.hid (lengths (some ⟨w.heap.size, 0, none⟩) 3 3 2 _ [5, 1, 1] _ (ints_new w [5, 1, 1]) (Nat.le_refl _) rfl (by omega) (by unfold Low; decide) (by omega) (by omega) (by decide))
  refine H1.out.mono ?_
  rintro e w1 ⟨g1, L, rfl, hm1, hg1⟩
  obtain rfl := good3 (hg1 _ wt3)
  have HM1 := Lib.hid hm1
  have HO1 : Hid (Only (fun _ => False) w w1) := Lib.hid (((Only.refl _ w).alloc _).trans hm1.2.1)
  clear H1 hm1 hg1
  go_wp2_with fail
  have H2 := Lib.hid (free_yes (some ⟨w1.heap.size, 0, none⟩) 5 5 _ [1, 1, 2, 4, 8] _ (ints_new w1 [1, 1, 2, 4, 8]) (Nat.le_refl _) rfl (by omega) (by unfold Low; decide))
  refine H2.out.mono ?_
  rintro e w2 ⟨g2, L2, rfl, hm2, hg2⟩
  obtain ⟨hl2, ha, hb⟩ := good5 (hg2 _ wt5)
  have HM2 := Lib.hid hm2
  have HO12 : Hid (Only (fun _ => False) w1 w2) := Lib.hid (((Only.refl _ w1).alloc _).trans hm2.2.1)
  have HO2 : Hid (Only (fun _ => False) w w2) := Lib.hid (HO1.out.trans HO12.out)
  have HL2 := Lib.hid hl2
  have HA := Lib.hid ha
  have HB := Lib.hid hb
  clear H2 hm2 hg2 hl2 ha hb
  go_wp2_with fail
  have H3 := Lib.hid (cost_yes (some ⟨w2.heap.size, 0, none⟩) (some ⟨g1, 0, none⟩) 3 3 3 _ _ [5, 1, 1] [1, 2, 2] _ (ints_new w2 [5, 1, 1]) (((HM1.out.see.new HO12.out)).new ((Only.refl _ w2).alloc _)) rfl rfl (by omega) (by unfold Low; decide) (by unfold Short; decide))
  refine H3.out.mono ?_
  rintro e w3 ⟨rfl, rfl⟩
  rw [show costOf [5, 1, 1] [1, 2, 2] = 9 from rfl]
  have HO3 : Hid (Only (fun _ => False) w (w2.alloc (.cells (ints [5, 1, 1]).toArray 3))) := Lib.hid (HO2.out.alloc _)
  have a1 := ((HM1.out.1.only HO12.out (fun _ _ f => f)).alloc (.cells (ints [5, 1, 1]).toArray 3)).num 0 (by decide)
  have a2 := ((HM1.out.1.only HO12.out (fun _ _ f => f)).alloc (.cells (ints [5, 1, 1]).toArray 3)).num 1 (by decide)
  have b1 := (HM2.out.1.alloc (.cells (ints [5, 1, 1]).toArray 3)).num 0 (by rw [HL2.out]; omega)
  have b2 := (HM2.out.1.alloc (.cells (ints [5, 1, 1]).toArray 3)).num 4 (by rw [HL2.out]; omega)
  rw [HA.out] at b1
  rw [HB.out] at b2
  rw [show ln [1, 2, 2] 0 = 1 from rfl] at a1
  rw [show ln [1, 2, 2] 1 = 2 from rfl] at a2
  obtain ⟨w4, hw4⟩ : ∃ w4, w2.alloc (.cells (ints [5, 1, 1]).toArray 3) = w4 := ⟨_, rfl⟩
  rw [hw4] at a1 a2 b1 b2 HO3
  have hw5 : w2.alloc (.cells #[.int .i64 5, .int .i64 1, .int .i64 1] 3) = w4 := hw4
  try rw [hw4]
  try rw [hw5]
  have a1 := a1.1
  have a2 := a2.1
  have b1 := b1.1
  have b2 := b2.1
  clear hw4 hw5 H3 HM1 HM2
  go_wp2
  go_ret
  exact ⟨rfl, HO3.out⟩
end Go.Proofs.Ytjbohidkjlnalaa
