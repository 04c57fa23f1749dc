/- Layer 11, the program: how many bits tokens take by two codes. -/
import Derived.Test.YtjlkjebmilfgoaaGreatKTal
import Derived.Test.YtjlkjebmilfgoaaGreatKMW
import Derived.Test.YtjlkjebmilfgoaaGreatQB
import Derived.BigQuiet
namespace Go.Proofs.YtjlkjebmilfgoaaGreat
open Go.RowKit

theorem tbits_any (T s lo : Nat) (l : List Nat) (w : World) (h : Tab2 w lo T l) : Calls Tryz.prog 72 #[.pointer (some ⟨T, 0, none⟩), .int .i64 s] w fun e w' => e = .returned (.int .i64 (ln l s : Nat)) ∧ w = w' := by
  by_cases hs : s < l.length
  · exact tbits T s lo l w h hs
  · have h0 : ln l s = 0 := by
      unfold ln
      rw [List.getD_eq_getElem?_getD, List.getElem?_eq_none (by omega)]
      rfl
    rw [h0]
    obtain ⟨A1, A2, A3, A4, c1, c2, c3, c4, h0, h1, h2, l3, l4, hT⟩ := h
    have t0 := h0.cell 0 rfl
    obtain ⟨n, hn⟩ : ∃ n, l.length = n := ⟨_, rfl⟩
    rw [hn] at hs t0
    have d0 : ¬ (s : Int) < 0 := by omega
    have h1 : (n : Int) ≤ (s : Int) := by omega
    clear h0 h1 h2 l3 l4 hn
    have h1 : (n : Int) ≤ (s : Int) := by omega
    go_enter Tryz.func72, Tryz.ntmps72
    go_wp2
    go_ret
    exact ⟨rfl, rfl⟩

/-- What numbers of symbols come to, by their lengths. -/
def dot (cs l : List Nat) (k : Nat) : Nat := sumTo k fun i => ln cs i * ln l i
theorem dot_le (cs l : List Nat) (M : Nat) (hl : Low l) (h : ∀ i, ln cs i ≤ M) (k : Nat) : dot cs l k ≤ k * (M * 15) := by
  refine sumTo_le (M * 15) fun i _ => ?_
  exact Nat.mul_le_mul (h i) (ln_le l i hl)
set_option maxHeartbeats 2000000 in
theorem sizeBy (T lo : Nat) (A : Option Addr) (n c B : Nat) (l cs : List Nat) (w : World) (h : Tab2 w lo T l) (hl : Low l) (hs : See w B A (ints cs)) (hn : cs.length = n) (hb : n ≤ 300) (hM : ∀ i, ln cs i ≤ 1000000) :
    Calls Tryz.prog 56 #[.pointer (some ⟨T, 0, none⟩), .slice A n c] w fun e w' => e = .returned (.int .i64 (dot cs l n : Nat)) ∧ w = w' := by
  have HS := Lib.hid hs
  have HN := Lib.hid hn
  have HM := Lib.hid hM
  have HL : Hid (∀ i, ln l i ≤ 15) := Lib.hid fun i => ln_le l i hl
  have HT := Lib.hid fun s => tbits_any T s lo l w h
  have HD : Hid (∀ k, k ≤ n → dot cs l k ≤ 4500000000) := Lib.hid fun k hk => by
    have := dot_le cs l 1000000 hl hM k
    omega
  clear h hl hs hn hM
  go_enter Tryz.func56, Tryz.ntmps56
  go_wp2_with fail
  go_loopg [5, 10] n (fun gk v i wx => ∃ k z : Nat, i = .int .i64 k ∧ v = .int .i64 z ∧ k + gk ≤ n ∧ n ≤ k + gk ∧ Hid (dot cs l k = z) ∧ wx = w)
  case atStart => exact ⟨0, 0, rfl, rfl, by omega, by omega, Lib.hid rfl, rfl⟩
  case round =>
    obtain ⟨k, z, rfl, rfl, hk, hk2, HZ, hw⟩ := hrel
    have hw2 := hw.symm
    subst hw2
    by_cases hlt : k < n
    · obtain ⟨b, off, rfl, _, c0⟩ := HS.out k _ (ints_at cs k (by rw [HN.out]; exact hlt))
      have hz := HD.out k (by omega)
      rw [HZ.out] at hz
      have h1 := HM.out k
      have h2 := HL.out k
      have HTk := Lib.hid (HT.out k)
      obtain ⟨x, hx⟩ : ∃ x, ln cs k = x := ⟨_, rfl⟩
      obtain ⟨y, hy⟩ : ∃ y, ln l k = y := ⟨_, rfl⟩
      rw [hx] at c0 h1
      rw [hy] at h2 HTk
      obtain ⟨p, hp⟩ : ∃ p, x * y = p := ⟨_, rfl⟩
      have hp2 : p ≤ 15000000 := by rw [← hp]; exact Nat.mul_le_mul h1 h2
      have ep : (x : Int) * (y : Int) = (p : Int) := by rw [← hp]; simp
      have HZ2 : Hid (dot cs l (k + 1) = z + p) := Lib.hid (by rw [dot, sumTo, hx, hy, hp]; have := HZ.out; rw [dot] at this; rw [this])
      clear hx hy hp
      go_wp2_with fail
      refine HTk.out.mono ?_
      rintro e w1 ⟨rfl, rfl⟩
      go_wp2_with fail
      go_roundg (gk - 1)
      case measure => omega
      case rel => exact ⟨k + 1, z + p, by go_num, by go_num, by omega, by omega, HZ2, rfl⟩
    · obtain rfl : k = n := by omega
      have HZ2 := HZ
      go_wp2
      go_ret
      exact ⟨by rw [HZ2.out]; rfl, rfl⟩

/-- How many bits symbols take, of so many. -/
def sizeF (la lb L : List Nat) : Nat := ln L 316 + dot L la 286 + dot (L.drop 286) lb 30
theorem dot_take (cs l : List Nat) (k m : Nat) (h : k ≤ m) : dot (cs.take m) l k = dot cs l k := by
  unfold dot
  refine sumTo_congr fun i hi => ?_
  congr 1
  unfold ln
  rw [List.getD_eq_getElem?_getD, List.getD_eq_getElem?_getD, List.getElem?_take, if_pos (by omega)]
theorem ln_drop (l : List Nat) (m i : Nat) : ln (l.drop m) i = ln l (m + i) := by
  unfold ln
  rw [List.getD_eq_getElem?_getD, List.getD_eq_getElem?_getD, List.getElem?_drop]
theorem ln_take_le (l : List Nat) (m i M : Nat) (h : ln l i ≤ M) : ln (l.take m) i ≤ M := by
  unfold ln at h ⊢
  rw [List.getD_eq_getElem?_getD, List.getElem?_take]
  split
  · rw [← List.getD_eq_getElem?_getD]; exact h
  · exact Nat.zero_le _
/-- A block's cells, seen as slices. -/
theorem Is.part {w : World} {g : Nat} {t : TypeId} {L : List Nat} (h : Is w g t (ints L)) (m k : Nat) : See w (g + 1) (some ⟨g, m, none⟩) (ints ((L.drop m).take k)) := by
  intro i v hv
  refine ⟨g, m, rfl, Nat.lt_succ_self g, ?_⟩
  refine h.cell (m + i) ?_
  simp only [ints, List.map_take, List.map_drop, List.getElem?_take, List.getElem?_drop] at hv ⊢
  split at hv
  · exact hv
  · cases hv

set_option maxRecDepth 20000 in
set_option maxHeartbeats 4000000 in
theorem csize (lo hi T1 T2 : Nat) (la lb L : List Nat) (w : World) (h : Cod2 w lo hi T1 T2 la lb) (hL : L.length = 317) (hM : ∀ i, ln L i ≤ 1000000) :
    Calls Tryz.prog 33 #[.agg #[.pointer (some ⟨T1, 0, none⟩), .pointer (some ⟨T2, 0, none⟩)], .agg (ints L).toArray] w fun e w' => e = .returned (.int .i64 (sizeF la lb L : Nat)) ∧ Only (fun _ => False) w w' := by
  obtain ⟨wa, hwa⟩ : ∃ wa, w.alloc (.cells #[.pointer (some ⟨T1, 0, none⟩), .pointer (some ⟨T2, 0, none⟩)] 65) = wa := ⟨_, rfl⟩
  obtain ⟨cs, hcs⟩ : ∃ cs, (ints L).toArray = cs := ⟨_, rfl⟩
  obtain ⟨wb, hwb⟩ : ∃ wb, wa.alloc (.cells cs 71) = wb := ⟨_, rfl⟩
  have hoa : Only (fun _ => False) w wa := by rw [← hwa]; exact (Only.refl _ w).alloc _
  have hob : Only (fun _ => False) wa wb := by rw [← hwb]; exact (Only.refl _ wa).alloc _
  obtain ⟨K, hK⟩ : ∃ K, w.heap.size = K := ⟨_, rfl⟩
  obtain ⟨H, hH⟩ : ∃ H, wa.heap.size = H := ⟨_, rfl⟩
  have hIa : Is wb K 65 [.pointer (some ⟨T1, 0, none⟩), .pointer (some ⟨T2, 0, none⟩)] := by
    have : Is wa K 65 [.pointer (some ⟨T1, 0, none⟩), .pointer (some ⟨T2, 0, none⟩)] := by rw [← hwa, ← hK]; exact Is.new w _ _
    exact this.only hob fun f => f
  have hIb : Is wb H 71 (ints L) := by rw [← hwb, ← hH, ← hcs]; exact Is.new wa _ _
  have hc := h.new (hoa.trans hob)
  have hm : ∀ k, ln L k ≤ 1000000 := hM
  have S1 : Hid (∀ n, Calls Tryz.prog 56 #[.pointer (some ⟨T1, 0, none⟩), .slice (some ⟨H, 0, none⟩) 286 286] (wb.drewN n) fun e w' => e = .returned (.int .i64 (dot L la 286 : Nat)) ∧ ∃ m, w' = wb.drewN m) := Lib.hid fun n => by
    have hi2 : Is (wb.drewN n) H 71 (ints L) := hIb.drewN n
    have hc2 : Cod2 (wb.drewN n) lo hi T1 T2 la lb := hc.new ((Only.refl _ wb).drewN n)
    have := sizeBy T1 lo (some ⟨H, 0, none⟩) 286 286 _ la ((L.drop 0).take 286) _ hc2.t1 hc2.l1 (hi2.part 0 286) (by simp [hL]) (by decide) (fun i => by rw [List.drop_zero]; exact ln_take_le _ _ _ _ (hm i))
    rw [List.drop_zero, dot_take _ _ _ _ (Nat.le_refl _)] at this
    exact this.mono fun e w' q => ⟨q.1, n, q.2.symm⟩
  have S2 : Hid (∀ n, Calls Tryz.prog 56 #[.pointer (some ⟨T2, 0, none⟩), .slice (some ⟨H, 286, none⟩) 30 30] (wb.drewN n) fun e w' => e = .returned (.int .i64 (dot (L.drop 286) lb 30 : Nat)) ∧ ∃ m, w' = wb.drewN m) := Lib.hid fun n => by
    have hi2 : Is (wb.drewN n) H 71 (ints L) := hIb.drewN n
    have hc2 : Cod2 (wb.drewN n) lo hi T1 T2 la lb := hc.new ((Only.refl _ wb).drewN n)
    have := sizeBy T2 lo (some ⟨H, 286, none⟩) 30 30 _ lb ((L.drop 286).take 30) _ hc2.t2 hc2.l2 (hi2.part 286 30) (by simp [hL]) (by decide) (fun i => ln_take_le _ _ _ _ (by rw [ln_drop]; exact hm _))
    rw [dot_take _ _ _ _ (Nat.le_refl _)] at this
    exact this.mono fun e w' q => ⟨q.1, n, q.2.symm⟩
  have c0 : ∀ n, (wb.drewN n).cell? ⟨K, 0, none⟩ = some (.pointer (some ⟨T1, 0, none⟩)) := fun n => (hIa.drewN n).cell 0 rfl
  have c1 : ∀ n, (wb.drewN n).cell? ⟨K, 1, none⟩ = some (.pointer (some ⟨T2, 0, none⟩)) := fun n => (hIa.drewN n).cell 1 rfl
  have c2 : ∀ n, (wb.drewN n).cell? ⟨H, 316, none⟩ = some (.int .i64 (ln L 316 : Nat)) := fun n => (hIb.drewN n).cell 316 (ints_at L 316 (by omega))
  have b1 := dot_le L la 1000000 h.l1 hm 286
  have b2 := dot_le (L.drop 286) lb 1000000 h.l2 (fun i => by rw [ln_drop]; exact hm _) 30
  have b3 := hm 316
  obtain ⟨x, hx⟩ : ∃ x, ln L 316 = x := ⟨_, rfl⟩
  obtain ⟨y, hy⟩ : ∃ y, dot L la 286 = y := ⟨_, rfl⟩
  obtain ⟨z, hz⟩ : ∃ z, dot (L.drop 286) lb 30 = z := ⟨_, rfl⟩
  have hsz : sizeF la lb L = x + y + z := by rw [sizeF, hx, hy, hz]
  rw [hsz]
  rw [hx] at c2 b3
  rw [hy] at S1 b1
  rw [hz] at S2 b2
  have HO : Hid (∀ n, Only (fun _ => False) w (wb.drewN n)) := Lib.hid fun n => (hoa.trans hob).drewN n
  have e1 : IntKind.i64.wrap ((x : Int) + (y : Int)) = ((x + y : Nat) : Int) := by rw [IntWalk.i64_in _ (by omega)]; omega
  have e2 : IntKind.i64.wrap (((x + y : Nat) : Int) + (z : Int)) = ((x + y + z : Nat) : Int) := by rw [IntWalk.i64_in _ (by omega)]; omega
  have SB : Hid (∀ (n : Nat) (Tp sl : Value) (v : Nat), (Tp = .pointer (some ⟨T1, 0, none⟩) ∧ sl = .slice (some ⟨H, 0, none⟩) 286 286 ∧ v = y) ∨ (Tp = .pointer (some ⟨T2, 0, none⟩) ∧ sl = .slice (some ⟨H, 286, none⟩) 30 30 ∧ v = z) → Calls Tryz.prog 56 #[Tp, sl] (wb.drewN n) fun e w' => e = .returned (.int .i64 (v : Nat)) ∧ ∃ m, w' = wb.drewN m) := Lib.hid fun n Tp sl v q => by
    rcases q with ⟨rfl, rfl, rfl⟩ | ⟨rfl, rfl, rfl⟩
    · exact S1.out n
    · exact S2.out n
  clear S1 S2
  rw [hcs]
  clear hx hy hz hsz h hc hoa hob hIa hIb hL hM hm hcs
  go_enter Tryz.func33, Tryz.ntmps33
  go_upto_region 1 with fail
  go_quiet ((go_at_call 56; exact SB.out _ _ _ _ (by first | exact .inl ⟨rfl, rfl, rfl⟩ | exact .inr ⟨rfl, rfl, rfl⟩)))
  have e3 : (x : Int) + (y : Int) + (z : Int) = ((x + y + z : Nat) : Int) := by omega
  go_wp2
  go_ret
  refine ⟨?_, HO.out _⟩
  rw [← e3]
  rfl
end Go.Proofs.YtjlkjebmilfgoaaGreat
