/- Layer 5: the numbers of the codes, in the program and in the document. -/
import Derived.Test.YtackcgiokkbhdaaDoorOrder
namespace Go.Proofs.YtackcgiokkbhdaaDoor
open Go.RowKit

/-- Of each symbol its code. -/
def cds (l : List Nat) : List Nat := (List.range l.length).map (cd l)
theorem cds_length (l : List Nat) : (cds l).length = l.length := by simp [cds]
/-- Those of the first i symbols in order. -/
def cdf (l : List Nat) (i : Nat) : Nat → Nat := fun s => if 0 < ln l s ∧ ps l s < i then cd l s else 0
def cdTo (l : List Nat) (i : Nat) : List Nat := (List.range l.length).map (cdf l i)
theorem cdTo_length (l : List Nat) (i : Nat) : (cdTo l i).length = l.length := by simp [cdTo]
theorem cdTo_one (l : List Nat) : cdTo l 1 = List.replicate l.length 0 := by
  unfold cdTo
  apply List.ext_getElem
  · simp
  · intro s h1 h2
    simp only [List.length_map, List.length_range] at h1
    simp only [List.getElem_map, List.getElem_range, List.getElem_replicate, cdf]
    split
    · rename_i h3
      exact cd_first l s ⟨h1, h3.1⟩ (by omega)
    · rfl
theorem cdTo_all (l : List Nat) (hl : Low l) (i : Nat) (h : st l 16 ≤ i) : cdTo l i = cds l := by
  refine map_same _ _ _ fun s hs => ?_
  unfold cdf
  split
  · rfl
  · rename_i h3
    have h4 : ln l s = 0 := by
      rcases Nat.eq_zero_or_pos (ln l s) with e | e
      · exact e
      · have := ps_lt16 l s ⟨hs, e⟩ hl
        omega
    simp [cd, h4]
theorem cdTo_put (l : List Nat) (i : Nat) (h : i < st l 16) : (cdTo l i).set (sy l i) (cd l (sy l i)) = cdTo l (i + 1) := by
  obtain ⟨h1, h2⟩ := sy_of l i h
  refine map_set _ _ _ _ _ ?_ fun t ht hne => ?_
  · simp [cdf, h1.2, h2]
  · unfold cdf
    by_cases h3 : 0 < ln l t
    · have h4 : ps l t ≠ i := by
        intro e
        have := sy_ps l t ⟨ht, h3⟩
        rw [e] at this
        exact hne this.symm
      have h5 : (ps l t < i + 1) ↔ (ps l t < i) := by omega
      simp only [h5]
    · simp [h3]
theorem cdTo_at (l : List Nat) (i s : Nat) (h : Has l s) (hp : ps l s < i) : ln (cdTo l i) s = cd l s := by
  unfold cdTo
  rw [map_at _ _ _ h.1]
  simp [cdf, h.2, hp]
theorem ord_at (l : List Nat) (i : Nat) (h : i < st l 16) : ln (ord l) i = sy l i := map_at _ _ i h

def IntIn (x : Int) : Prop := -9223372036854775808 ≤ x ∧ x ≤ 9223372036854775807
theorem IntIn.both {x : Int} (h : IntIn x) : wrap64 x = x ∧ IntKind.i64.wrap x = x := ⟨IntWalk.wrap64_in _ h, IntWalk.i64_in _ h⟩
def NumPost (w : World) (l : List Nat) (n : Nat) (e : Ending) (w' : World) : Prop := ∃ g, e = .returned (.slice (some ⟨g, 0, none⟩) n n) ∧ Made 3 w (some ⟨g, 0, none⟩) n n (ints (cds l)) w'

set_option maxHeartbeats 800000 in
theorem numbers (A A2 : Option Addr) (n c m c2 B : Nat) (l : List Nat) (w : World) (h : See w B A (ints l)) (h2 : See w B A2 (ints (ord l))) (hn : l.length = n) (h288 : n ≤ 288) (hl : Low l) (hm : st l 16 = m) :
    Calls Tryd.prog 90 #[.slice A n c, .slice A2 m c2] w (NumPost w l n) := by
  have HS := Lib.hid h
  have HS2 := Lib.hid h2
  have HL := Lib.hid hl
  have HN := Lib.hid hn
  have HM := Lib.hid hm
  have hm2 := st_small l (by omega) 16 (Nat.le_refl _)
  rw [hm] at hm2
  clear h h2 hl hn hm
  have hmk := run_make_row Tryd.underlying26 info3 (by omega) n (by omega) w
  have hst : Made 3 w (some ⟨w.heap.size, 0, none⟩) n n (ints (cdTo l 1)) (w.alloc (.cells (List.replicate n (Value.int .i64 0)).toArray 3)) := by
    rw [cdTo_one, HN.out, ← ints_zeros]
    exact zeros_made (e := 3) (w := w) (kd := .i64) n (by omega)
  obtain ⟨R, hR⟩ : ∃ R, w.heap.size = R := ⟨_, rfl⟩
  rw [hR] at hst hmk
  have HST := Lib.hid hst
  have HR := Lib.hid hR
  clear hst hR
  go_enter Tryd.func90, Tryd.ntmps90
  go_wp2_with fail
  go_loopg [6] m (fun gk i wx => ∃ k : Nat, i = .int .i64 k ∧ k + gk ≤ m + 1 ∧ m ≤ k + gk ∧ 1 ≤ k ∧ Hid (k ≤ m ∨ k = 1) ∧ Made 3 w (some ⟨R, 0, none⟩) n n (ints (cdTo l k)) wx)
  case atStart => exact ⟨1, rfl, by omega, by omega, by omega, Lib.hid (.inr rfl), HST.out⟩
  case round =>
    clear HST hmk
    obtain ⟨k, rfl, hk, hk2, hk1, hk3, hM⟩ := hrel
    by_cases hlt : k < m
    · obtain ⟨k', rfl⟩ : ∃ k', k = k' + 1 := ⟨k - 1, by omega⟩
      have hkm : k' + 1 < st l 16 := by rw [HM.out]; exact hlt
      obtain ⟨s1, s2⟩ := sy_of l k' (by omega)
      obtain ⟨t1, t2⟩ := sy_of l (k' + 1) hkm
      have hnx := cd_next l (sy l k') (sy l (k' + 1)) s1 t1 (by omega)
      obtain ⟨b2, off2, rfl, hb2, c1⟩ := (HS2.out.new hM.2.1) k' _ (ints_at (ord l) k' (by rw [ord_length]; omega))
      obtain ⟨b2', off2', e2, _, c2'⟩ := (HS2.out.new hM.2.1) (k' + 1) _ (ints_at (ord l) (k' + 1) (by rw [ord_length]; omega))
      simp only [Option.some.injEq, Addr.mk.injEq, and_true] at e2
      obtain ⟨rfl, rfl⟩ := e2
      rw [ord_at l k' (by omega)] at c1
      rw [ord_at l (k' + 1) hkm] at c2'
      have hput := cdTo_put l (k' + 1) hkm
      have hat := cdTo_at l (k' + 1) (sy l k') s1 (by omega)
      have hb1 := cd_small l (by rw [HN.out]; exact h288) HL.out (sy l k')
      have hb2' := cd_small l (by rw [HN.out]; exact h288) HL.out (sy l (k' + 1))
      have hb3 := ln_le l (sy l (k' + 1)) HL.out
      have hs1 := s1.1
      have ht1 := t1.1
      obtain ⟨b, off, rfl, hb, c3⟩ := (HS.out.new hM.2.1) _ _ (ints_at l (sy l k') hs1)
      obtain ⟨b', off', e3, _, c4⟩ := (HS.out.new hM.2.1) _ _ (ints_at l (sy l (k' + 1)) ht1)
      simp only [Option.some.injEq, Addr.mk.injEq, and_true] at e3
      obtain ⟨rfl, rfl⟩ := e3
      obtain ⟨g, e4, c5, _⟩ := hM.1.cell (ints_at (cdTo l (k' + 1)) (sy l k') (by rw [cdTo_length]; exact hs1))
      simp only [Option.some.injEq, Addr.mk.injEq, and_true] at e4
      subst e4
      obtain ⟨g, e4, c6, c7⟩ := hM.1.cell (ints_at (cdTo l (k' + 1)) (sy l (k' + 1)) (by rw [cdTo_length]; exact ht1))
      simp only [Option.some.injEq, Addr.mk.injEq, and_true] at e4
      subst e4
      rw [hat] at c5
      rw [HN.out] at hs1 ht1
      obtain ⟨s, hs⟩ : ∃ s, sy l k' = s := ⟨_, rfl⟩
      obtain ⟨t, ht⟩ : ∃ t, sy l (k' + 1) = t := ⟨_, rfl⟩
      rw [hs] at c1 c3 c5 hnx hb1 hs1
      rw [ht] at c2' c4 c6 c7 hnx hb2' hb3 ht1 hput
      obtain ⟨x, hx⟩ : ∃ x, ln l s = x := ⟨_, rfl⟩
      obtain ⟨y, hy⟩ : ∃ y, ln l t = y := ⟨_, rfl⟩
      obtain ⟨u, hu⟩ : ∃ u, cd l s = u := ⟨_, rfl⟩
      obtain ⟨v, hv⟩ : ∃ v, cd l t = v := ⟨_, rfl⟩
      obtain ⟨o, ho⟩ : ∃ o, ln (cdTo l (k' + 1)) t = o := ⟨_, rfl⟩
      rw [hx] at c3 hnx
      rw [hy] at c4 hnx hb3
      rw [hu] at c5 hnx hb1
      rw [hv] at hnx hb2' hput
      rw [ho] at c6
      obtain ⟨hxy, hnx⟩ := hnx
      obtain ⟨q, hq⟩ : ∃ q, y - x = q := ⟨_, rfl⟩
      rw [hq] at hnx
      have e7 : ((u : Int) + 1) * 2 ^ q = (v : Int) := by rw [hnx]; simp
      have E7 := Lib.hid e7
      clear hnx e7
      have e1 : ((k' + 1 : Nat) : Int) - 1 = (k' : Int) := by omega
      have e5 : (y : Int) - (x : Int) = (q : Int) := by omega
      obtain ⟨r2, r6, r8, r9⟩ : IntIn k' ∧ IntIn q ∧ IntIn ((u : Int) + 1) ∧ IntIn v := by unfold IntIn; omega
      have HQ : Hid (q ≤ 64) := Lib.hid (by omega)
      have HP := Lib.hid hput
      have HMM := Lib.hid hM
      clear hM hput hat s1 s2 t1 t2 hs ht hx hy hu hv ho hq hkm
      have H3 := Lib.hid c3
      have H4 := Lib.hid c4
      have H5 := Lib.hid c5
      have H6 := Lib.hid c6
      have H7 := Lib.hid c7
      have E5 := Lib.hid e5
      have HXY := Lib.hid hxy
      have f2 := r2.both.2
      clear c3 c4 c5 c6 c7 e5 hb1 hb2' hb3 hxy hk3
      go_wp2_with fail
      go_quiet (fail)
      go_wp2_with fail
      clear c1 c2' e1 f2 r2
      have c3 := H3.out
      have c4 := H4.out
      have c5 := H5.out
      have c6 := H6.out
      have c7 := H7.out
      have e5 := E5.out
      have e7 := E7.out
      have f6 := r6.both.2
      have f8 := r8.both.2
      have f9 := r9.both.2
      go_region
      all_goals
        go_wp2_with fail
        go_roundg (gk - 1)
        case measure => omega
        case rel =>
          refine ⟨k' + 1 + 1, by go_num, by omega, by omega, by omega, Lib.hid (.inl (by omega)), ?_⟩
          rw [← HP.out, ← ints_set, show wrap64 (((u : Int) + 1) * 2 ^ min q 64) = (v : Int) by rw [Nat.min_eq_left HQ.out, E7.out]; exact r9.both.1]
          exact (HMM.out.drewN _).setAt t _
    · have hkm : cdTo l k = cds l := cdTo_all l HL.out k (by rw [HM.out]; omega)
      rw [hkm] at hM
      have HMM := Lib.hid hM
      clear hM hkm
      go_wp2
      go_ret
      exact ⟨R, rfl, HMM.out⟩
end Go.Proofs.YtackcgiokkbhdaaDoor
