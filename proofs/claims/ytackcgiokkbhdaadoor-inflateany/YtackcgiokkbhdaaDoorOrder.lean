/- Layer 5: the symbols in the order of their codes, in the program. -/
import Derived.Test.YtackcgiokkbhdaaDoorRefKinds
namespace Go.Proofs.YtackcgiokkbhdaaDoor
open Go.RowKit

/-- The symbols in the order of their codes. -/
def ord (l : List Nat) : List Nat := (List.range (st l 16)).map (sy l)
theorem ord_length (l : List Nat) : (ord l).length = st l 16 := by simp [ord]
def ordTo (l : List Nat) (k : Nat) : List Nat := (List.range (st l 16)).map fun p => if sy l p < k then sy l p else 0
theorem ordTo_zero (l : List Nat) : ordTo l 0 = List.replicate (st l 16) 0 := by
  unfold ordTo
  apply List.ext_getElem <;> simp
theorem ordTo_all (l : List Nat) : ordTo l l.length = ord l := by
  refine map_same _ _ _ fun t ht => ?_
  have := (sy_of l t ht).1.1
  simp [this]
theorem ordTo_put (l : List Nat) (k : Nat) (h : Has l k) : (ordTo l k).set (ps l k) k = ordTo l (k + 1) := by
  refine map_set _ _ _ _ _ ?_ fun t ht hne => ?_
  · simp [sy_ps l k h]
  · have h1 : sy l t ≠ k := by
      intro e
      have := (sy_of l t ht).2
      rw [e] at this
      exact hne this.symm
    have h2 : (sy l t < k + 1) ↔ (sy l t < k) := by omega
    simp only [h2]
theorem ordTo_same (l : List Nat) (k : Nat) (h : ln l k = 0) : ordTo l (k + 1) = ordTo l k := by
  refine map_same _ _ _ fun t ht => ?_
  have h1 : sy l t ≠ k := by
    intro e
    have := (sy_of l t ht).1.2
    rw [e] at this
    omega
  have h2 : (sy l t < k + 1) ↔ (sy l t < k) := by omega
  simp only [h2]

theorem Made.far {e : TypeId} {w wx : World} {g n c : Nat} {vs : List Value} (h : Made e w (some ⟨g, 0, none⟩) n c vs wx) (N x : Nat) (u : Value) (hN : N ≠ g) (hw : w.heap.size ≤ N) : Made e w (some ⟨g, 0, none⟩) n c vs (wx.setCell ⟨N, x, none⟩ u) :=
  ⟨h.1.only (Only.one wx N x u) (by rintro j ⟨ad, e1, rfl⟩ e2; obtain rfl := Option.some.inj e1; exact hN e2.symm), h.2.1.set (p := ⟨N, x, none⟩) (.inr hw) _, h.2.2⟩
def NextAt (w : World) (G N : Nat) (l : List Nat) (f : Nat → Nat) (wx : World) : Prop :=
  Is wx G 142 (ints (cnts l)) ∧ Is wx N 142 (ints ((List.range 16).map f)) ∧ Only (fun _ => False) w wx
/-- The places of the next symbols, behind those of lengths below k. -/
def nx (l : List Nat) (k : Nat) : Nat → Nat := fun t => if t < k then st l t else 0
theorem nx_put (l : List Nat) (k : Nat) : ((List.range 16).map (nx l k)).set k (st l k) = (List.range 16).map (nx l (k + 1)) := by
  refine map_set _ _ _ _ _ ?_ fun t _ hne => ?_
  · simp [nx]
  · have h2 : (t < k + 1) ↔ (t < k) := by omega
    simp only [nx, h2]
/-- The same, behind k symbols. -/
def ny (l : List Nat) (k : Nat) : Nat → Nat := fun t => st l t + cn (l.take k) t
theorem nx_ny (l : List Nat) : (List.range 16).map (nx l 16) = (List.range 16).map (ny l 0) := by
  refine map_same _ _ _ fun t ht => ?_
  simp [nx, ny, ht, cn]
theorem ny_at (l : List Nat) (k : Nat) (h0 : 0 < ln l k) : ny l k (ln l k) = ps l k := by
  have : ln l k ≠ 0 := by omega
  simp [ny, ps, rk, cn, this]
theorem ny_put (l : List Nat) (k : Nat) (h : k < l.length) (h0 : 0 < ln l k) : ((List.range 16).map (ny l k)).set (ln l k) (ps l k + 1) = (List.range 16).map (ny l (k + 1)) := by
  refine map_set _ _ _ _ _ ?_ fun t _ hne => ?_
  · rw [← ny_at l k h0]
    simp only [ny]
    rw [cn_take l k _ h, if_pos ⟨rfl, by omega⟩, Nat.add_assoc]
  · simp only [ny]
    rw [cn_take l k _ h, if_neg (fun e => hne e.1.symm), Nat.add_zero]
theorem ny_same (l : List Nat) (k : Nat) (h : k < l.length) (h0 : ln l k = 0) : (List.range 16).map (ny l (k + 1)) = (List.range 16).map (ny l k) := by
  refine map_same _ _ _ fun t _ => ?_
  simp only [ny]
  rw [cn_take l k _ h, if_neg (fun x => x.2 (by omega)), Nat.add_zero]
theorem ints_zeros (n : Nat) : List.replicate n (Value.int .i64 0) = ints (List.replicate n 0) := by simp [ints]
theorem zeros_nx (l : List Nat) : List.replicate 16 (Value.int .i64 0) = ints ((List.range 16).map (nx l 1)) := by
  rw [ints_zeros]
  congr 1

def OrderPost (w : World) (l : List Nat) (e : Ending) (w' : World) : Prop := ∃ g, e = .returned (.slice (some ⟨g, 0, none⟩) (st l 16) (st l 16)) ∧ Made 3 w (some ⟨g, 0, none⟩) (st l 16) (st l 16) (ints (ord l)) w'

set_option maxHeartbeats 4000000 in
theorem inOrder (A : Option Addr) (n c B : Nat) (l : List Nat) (w : World) (h : See w B A (ints l)) (hn : l.length = n) (h288 : n ≤ 288) (hl : Low l) :
    Calls Tryd.prog 87 #[.slice A n c] w (OrderPost w l) := by
  have HS := Lib.hid h
  have HL := Lib.hid hl
  have HN := Lib.hid hn
  have HC := Lib.hid (count A n c B l w h hn h288 hl)
  have HU := Lib.hid fun w => used l w (by omega)
  have hstl := st_small l (by omega) 16 (Nat.le_refl _)
  clear h hl hn
  go_enter Tryd.func87, Tryd.ntmps87
  go_wp2_with fail
  refine HC.out.mono ?_
  rintro e w1 ⟨rfl, ho1⟩
  obtain ⟨cs, hcs⟩ : ∃ cs, ints (cnts l) = cs := ⟨_, rfl⟩
  have hlen : cs.length = 16 := by rw [← hcs, ints_length, cnts_length]
  have hone : ∀ v ∈ cs, v.oneCell' = true := by rw [← hcs]; exact ints_one _
  rw [hcs] at HU ⊢
  have HCS := Lib.hid hcs
  have HO1 := Lib.hid ho1
  have HLn := Lib.hid hlen
  have HON := Lib.hid hone
  clear hcs ho1 HC hlen hone
  go_wp2_with ((with_reducible show wpList _ _ _ (Oper.mk _ (Op.store _ _ _) _ _ _ _ :: _) _ _); refine wpList_store_is rfl 142 (.tmp 3) (.tmp 10) rfl w1.heap.size cs rfl rfl 142 _ (Is.new w1 142 (List.replicate 16 (.int .i64 0))) (by rw [HLn.out]; exact info142) (by rw [HLn.out]; rfl) HON.out ?_; intro w2 hi2 ho2; have HI2 := Lib.hid hi2; have HO2 := Lib.hid ho2; clear hi2 ho2)
  have hst : NextAt w w1.heap.size w2.heap.size l (nx l 1) (w2.alloc (.cells (List.replicate 16 (Value.int .i64 0)).toArray 142)) := by
    refine ⟨?_, ?_, ?_⟩
    · rw [HCS.out]; exact HI2.out.alloc _
    · rw [← zeros_nx l]; exact Is.new w2 142 _
    · exact ((HO1.out.alloc _).andThen HO2.out fun j hj => .inr (hj ▸ HO1.out.size)).alloc _
  have hGN : w1.heap.size < w2.heap.size := by have := HO2.out.size; simp at this; omega
  have hwG : w.heap.size ≤ w1.heap.size := HO1.out.size
  obtain ⟨G, hG⟩ : ∃ G, w1.heap.size = G := ⟨_, rfl⟩
  obtain ⟨N, hN⟩ : ∃ N, w2.heap.size = N := ⟨_, rfl⟩
  rw [hG, hN] at hst
  rw [hG] at hGN hwG
  rw [hN] at hGN
  try rw [hG]
  try rw [hN]
  have HST := Lib.hid hst
  clear hst hG hN HI2 HO1 HO2
  go_loopg [5] 15 (fun gk i wx => ∃ k : Nat, i = .int .i64 k ∧ k + gk ≤ 16 ∧ 16 ≤ k + gk ∧ 1 ≤ k ∧ NextAt w G N l (nx l k) wx)
  case atStart => exact ⟨1, rfl, by omega, by omega, by omega, HST.out⟩
  case round =>
    clear HST
    obtain ⟨k, rfl, hk, hk2, hk1, hI⟩ := hrel
    by_cases hlt : k < 16
    · obtain ⟨k', rfl⟩ : ∃ k', k = k' + 1 := ⟨k - 1, by omega⟩
      have c1 := hI.1.cell k' (ints_at _ k' (by rw [cnts_length]; omega))
      have c2 := hI.2.1.cell k' (ints_at _ k' (by simp; omega))
      have c3 := hI.2.1.cell (k' + 1) (ints_at _ (k' + 1) (by simp; omega))
      have c4 := hI.2.1.frozen (k' + 1)
      rw [show ln (cnts l) k' = cn l k' from map_at 16 _ k' (by omega)] at c1
      rw [map_at 16 _ k' (by omega), show nx l (k' + 1) k' = st l k' by simp [nx]] at c2
      rw [map_at 16 _ (k' + 1) (by omega), show nx l (k' + 1) (k' + 1) = 0 by simp [nx]] at c3
      have hm := nx_put l (k' + 1)
      have b1 := cn_le l k'
      have b2 := st_small l (by rw [HN.out]; exact h288) k' (by omega)
      rw [st] at hm
      rw [HN.out] at b1
      obtain ⟨x, hx⟩ : ∃ x, cn l k' = x := ⟨_, rfl⟩
      obtain ⟨y, hy⟩ : ∃ y, st l k' = y := ⟨_, rfl⟩
      rw [hx] at c1 b1 hm
      rw [hy] at c2 b2 hm
      have e1 : ((k' + 1 : Nat) : Int) - 1 = (k' : Int) := by omega
      have e2 : wrap64 (k' : Int) = k' := IntWalk.wrap64_in _ (by omega)
      have HM := Lib.hid hm
      have HI := Lib.hid hI
      clear hx hy hm hI
      go_wp2_with fail
      go_region
      all_goals
        go_wp2_with fail
        go_roundg (gk - 1)
        case measure => omega
        case rel =>
          refine ⟨k' + 1 + 1, by go_num, by omega, by omega, by omega, HI.out.1.drew.far (p := ⟨N, k' + 1, none⟩) (by simp; omega) _, ?_, HI.out.2.2.drew.set (p := ⟨N, k' + 1, none⟩) (.inr (by simp; omega)) _⟩
          rw [← HM.out, ← ints_set]
          exact HI.out.2.1.drew.set (k' + 1) _
    · obtain rfl : k = 16 := by omega
      have h1 := hI.1
      rw [HCS.out] at h1
      have H1 := Lib.hid h1
      obtain ⟨h2, h3, h4⟩ := hI
      rw [nx_ny] at h3
      have H3 := Lib.hid h3
      have H4 := Lib.hid h4
      clear h1 h2 h3 h4
      go_wp2_with ((with_reducible show wpList _ _ _ (Oper.mk _ (Op.load _ _) _ _ _ _ :: _) _ _); refine wpList_load_is rfl 142 (.tmp 3) rfl G rfl 142 _ H1.out Tryd.underlying142 (by rw [HLn.out]; exact info142) ?_)
      refine (HU.out wr).mono ?_
      rintro e w3 ⟨rfl, ho3⟩
      have hSTL := Lib.hid (rfl : st l 16 = st l 16)
      obtain ⟨m, hm⟩ : ∃ m, st l 16 = m := ⟨_, rfl⟩
      rw [hm] at hstl hSTL ⊢
      have hmk := run_make_row Tryd.underlying26 info3 (by omega) m (by omega) w3
      obtain ⟨R, hR⟩ : ∃ R, w3.heap.size = R := ⟨_, rfl⟩
      have hNR : N < w3.heap.size := Nat.lt_of_lt_of_le H3.out.lt ho3.size
      have hst : NextAt w G N l (ny l 0) (w3.alloc (.cells (List.replicate m (Value.int .i64 0)).toArray 3)) ∧ Made 3 w (some ⟨w3.heap.size, 0, none⟩) m m (ints (ordTo l 0)) (w3.alloc (.cells (List.replicate m (Value.int .i64 0)).toArray 3)) := by
        refine ⟨⟨?_, (H3.out.only ho3 id).alloc _, (H4.out.trans ho3).alloc _⟩, ?_⟩
        · rw [HCS.out]; exact (H1.out.only ho3 id).alloc _
        · rw [ordTo_zero, hm, ← ints_zeros]
          have := zeros_made (e := 3) (w := w3) (kd := .i64) m (by omega)
          exact ⟨this.1, (H4.out.trans ho3).trans this.2.1, fun j hj => Nat.le_trans (H4.out.trans ho3).size (this.2.2 j hj)⟩
      rw [hR] at hst hmk hNR
      have HST := Lib.hid hst
      have HM := Lib.hid hm
      clear hst hR hm ho3 H1 H3 H4
      go_wp2_with fail
      go_loopg [31] n (fun gk i wx => ∃ k : Nat, i = .int .i64 k ∧ k + gk ≤ n ∧ n ≤ k + gk ∧ NextAt w G N l (ny l k) wx ∧ Made 3 w (some ⟨R, 0, none⟩) m m (ints (ordTo l k)) wx)
      case atStart => exact ⟨0, rfl, by omega, by omega, HST.out⟩
      case round =>
        clear HST hmk
        obtain ⟨k, rfl, hk, hk2, hI, hM⟩ := hrel
        by_cases hlt : k < n
        · have hkl : k < l.length := by rw [HN.out]; exact hlt
          obtain ⟨b, off, rfl, hbB, hc⟩ := (HS.out.new hI.2.2) k _ (ints_at l k hkl)
          have hx := ln_le l k HL.out
          have hny := ny_at l k
          have hnp := ny_put l k hkl
          have hns := ny_same l k hkl
          have hop := ordTo_put l k
          have hos := ordTo_same l k
          have hps := fun h => ps_lt16 l k h HL.out
          have hhas : 0 < ln l k → Has l k := fun h => ⟨hkl, h⟩
          rw [HM.out] at hps
          obtain ⟨x, hx1⟩ : ∃ x, ln l k = x := ⟨_, rfl⟩
          rw [hx1] at hx hc hny hnp hns hos hhas
          clear hx1 hkl
          by_cases h0 : 0 < x
          · have c1 := hI.2.1.cell x (ints_at _ x (by simp; omega))
            have c2 := hI.2.1.frozen x
            rw [map_at 16 _ x (by omega), hny h0] at c1
            have hps := hps (hhas h0)
            have HOP := Lib.hid (hop (hhas h0))
            have HNP := Lib.hid (hnp h0)
            obtain ⟨p, hp⟩ : ∃ p, ps l k = p := ⟨_, rfl⟩
            rw [hp] at c1 hps HOP HNP
            obtain ⟨g, hg, c3, c4⟩ := hM.1.cell (ints_at _ p (by rw [show (ordTo l k).length = m by rw [← HM.out]; simp [ordTo]]; exact hps))
            simp only [Option.some.injEq, Addr.mk.injEq, and_true] at hg
            subst hg
            have hNR2 : ¬ N = R := by omega
            have hNR3 : ¬ R = N := by omega
            have c5 : (wr.setCell ⟨R, p, none⟩ (.int .i64 (k : Int))).cell? ⟨N, x, none⟩ = some (.int .i64 (p : Int)) := (hI.2.1.far (p := ⟨R, p, none⟩) (by simp; omega) (.int .i64 (k : Int))).cell x (by rw [ints_at _ x (by simp; omega), map_at 16 _ x (by omega), hny h0, hp])
            have c6 : (wr.setCell ⟨R, p, none⟩ (.int .i64 (k : Int))).frozen? ⟨N, x, none⟩ = false := (hI.2.1.far (p := ⟨R, p, none⟩) (by simp; omega) (.int .i64 (k : Int))).frozen x
            have HI := Lib.hid hI
            have HMM := Lib.hid hM
            clear hI hM hny hnp hns hop hos hhas hp
            go_wp2_with fail
            go_roundg (gk - 1)
            case measure => omega
            case rel =>
              refine ⟨k + 1, by go_num, by omega, by omega, ⟨(HI.out.1.far (p := ⟨R, p, none⟩) (by simp; omega) _).far (p := ⟨N, x, none⟩) (by simp; omega) _, ?_, (HI.out.2.2.set (p := ⟨R, p, none⟩) (.inr (by simp; omega)) _).set (p := ⟨N, x, none⟩) (.inr (by simp; omega)) _⟩, ?_⟩
              · rw [← HNP.out, ← ints_set]
                exact (HI.out.2.1.far (p := ⟨R, p, none⟩) (by simp; omega) _).set x _
              · rw [← HOP.out, ← ints_set]
                exact (HMM.out.setAt p _).far N x _ (by omega) (by omega)
          · obtain rfl : x = 0 := by omega
            have HNS := Lib.hid (hns rfl)
            have HOS := Lib.hid (hos rfl)
            have HI := Lib.hid hI
            have HMM := Lib.hid hM
            clear hI hM hny hnp hns hop hos hps hhas
            go_wp2_with fail
            go_roundg (gk - 1)
            case measure => omega
            case rel =>
              refine ⟨k + 1, by go_num, by omega, by omega, ?_, ?_⟩
              · unfold NextAt
                rw [HNS.out]
                exact HI.out
              · rw [HOS.out]
                exact HMM.out
        · have hkn : k = l.length := by rw [HN.out]; omega
          rw [hkn, ordTo_all, ← HM.out] at hM
          have HMM := Lib.hid hM
          clear hM hI
          go_wp2
          go_ret
          exact ⟨R, by rw [HM.out]; rfl, HMM.out⟩
end Go.Proofs.YtackcgiokkbhdaaDoor
