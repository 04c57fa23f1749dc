/- Layer 5: symbols in order, the numbers of codes, copies of rows. -/
import Derived.Test.YtjlkjebmilfgoaaM4
/- Layer 5: the symbols in the order of their codes, in the program. -/
namespace Go.Proofs.Ytjlkjebmilfgoaa
open Go.RowKit

/-- The symbols in the order of their codes. -/
def ord (l : List Nat) : List Nat := (List.range (st l 16)).map (sy l)
theorem ord_length (l : List Nat) : (ord l).length = st l 16 := by simp [ord]
def ordTo (l : List Nat) (k : Nat) : List Nat := (List.range (st l 16)).map fun p => if sy l p < k then sy l p else 0
theorem ordTo_zero (l : List Nat) : ordTo l 0 = List.replicate (st l 16) 0 := by
  unfold ordTo
  apply List.ext_getElem <;> simp
theorem ordTo_all (l : List Nat) : ordTo l l.length = ord l := by
  refine map_same _ _ _ fun t ht => ?_
  have := (sy_of l t ht).1.1
  simp [this]
theorem ordTo_put (l : List Nat) (k : Nat) (h : Has l k) : (ordTo l k).set (ps l k) k = ordTo l (k + 1) := by
  refine map_set _ _ _ _ _ ?_ fun t ht hne => ?_
  · simp [sy_ps l k h]
  · have h1 : sy l t ≠ k := by
      intro e
      have := (sy_of l t ht).2
      rw [e] at this
      exact hne this.symm
    have h2 : (sy l t < k + 1) ↔ (sy l t < k) := by omega
    simp only [h2]
theorem ordTo_same (l : List Nat) (k : Nat) (h : ln l k = 0) : ordTo l (k + 1) = ordTo l k := by
  refine map_same _ _ _ fun t ht => ?_
  have h1 : sy l t ≠ k := by
    intro e
    have := (sy_of l t ht).1.2
    rw [e] at this
    omega
  have h2 : (sy l t < k + 1) ↔ (sy l t < k) := by omega
  simp only [h2]

theorem Made.far {e : TypeId} {w wx : World} {g n c : Nat} {vs : List Value} (h : Made e w (some ⟨g, 0, none⟩) n c vs wx) (N x : Nat) (u : Value) (hN : N ≠ g) (hw : w.heap.size ≤ N) : Made e w (some ⟨g, 0, none⟩) n c vs (wx.setCell ⟨N, x, none⟩ u) :=
  ⟨h.1.only (Only.one wx N x u) (by rintro j ⟨ad, e1, rfl⟩ e2; obtain rfl := Option.some.inj e1; exact hN e2.symm), h.2.1.set (p := ⟨N, x, none⟩) (.inr hw) _, h.2.2⟩
def NextAt (w : World) (G N : Nat) (l : List Nat) (f : Nat → Nat) (wx : World) : Prop :=
  Is wx G 105 (ints (cnts l)) ∧ Is wx N 105 (ints ((List.range 16).map f)) ∧ Only (fun _ => False) w wx
/-- The places of the next symbols, behind those of lengths below k. -/
def nx (l : List Nat) (k : Nat) : Nat → Nat := fun t => if t < k then st l t else 0
theorem nx_put (l : List Nat) (k : Nat) : ((List.range 16).map (nx l k)).set k (st l k) = (List.range 16).map (nx l (k + 1)) := by
  refine map_set _ _ _ _ _ ?_ fun t _ hne => ?_
  · simp [nx]
  · have h2 : (t < k + 1) ↔ (t < k) := by omega
    simp only [nx, h2]
/-- The same, behind k symbols. -/
def ny (l : List Nat) (k : Nat) : Nat → Nat := fun t => st l t + cn (l.take k) t
theorem nx_ny (l : List Nat) : (List.range 16).map (nx l 16) = (List.range 16).map (ny l 0) := by
  refine map_same _ _ _ fun t ht => ?_
  simp [nx, ny, ht, cn]
theorem ny_at (l : List Nat) (k : Nat) (h0 : 0 < ln l k) : ny l k (ln l k) = ps l k := by
  have : ln l k ≠ 0 := by omega
  simp [ny, ps, rk, cn, this]
theorem ny_put (l : List Nat) (k : Nat) (h : k < l.length) (h0 : 0 < ln l k) : ((List.range 16).map (ny l k)).set (ln l k) (ps l k + 1) = (List.range 16).map (ny l (k + 1)) := by
  refine map_set _ _ _ _ _ ?_ fun t _ hne => ?_
  · rw [← ny_at l k h0]
    simp only [ny]
    rw [cn_take l k _ h, if_pos ⟨rfl, by omega⟩, Nat.add_assoc]
  · simp only [ny]
    rw [cn_take l k _ h, if_neg (fun e => hne e.1.symm), Nat.add_zero]
theorem ny_same (l : List Nat) (k : Nat) (h : k < l.length) (h0 : ln l k = 0) : (List.range 16).map (ny l (k + 1)) = (List.range 16).map (ny l k) := by
  refine map_same _ _ _ fun t _ => ?_
  simp only [ny]
  rw [cn_take l k _ h, if_neg (fun x => x.2 (by omega)), Nat.add_zero]
theorem ints_zeros (n : Nat) : List.replicate n (Value.int .i64 0) = ints (List.replicate n 0) := by simp [ints]
theorem zeros_nx (l : List Nat) : List.replicate 16 (Value.int .i64 0) = ints ((List.range 16).map (nx l 1)) := by
  rw [ints_zeros]
  congr 1

def OrderPost (w : World) (l : List Nat) (e : Ending) (w' : World) : Prop := ∃ g, e = .returned (.slice (some ⟨g, 0, none⟩) (st l 16) (st l 16)) ∧ Made 3 w (some ⟨g, 0, none⟩) (st l 16) (st l 16) (ints (ord l)) w'

set_option maxHeartbeats 4000000 in
theorem inOrder (A : Option Addr) (n c B : Nat) (l : List Nat) (w : World) (h : See w B A (ints l)) (hn : l.length = n) (h288 : n ≤ 288) (hl : Low l) :
    Calls Try.prog 58 #[.slice A n c] w (OrderPost w l) := by
  have HS := Lib.hid h
  have HL := Lib.hid hl
  have HN := Lib.hid hn
  have HC := Lib.hid (count A n c B l w h hn h288 hl)
  have HU := Lib.hid fun w => used l w (by omega)
  have hstl := st_small l (by omega) 16 (Nat.le_refl _)
  clear h hl hn
  go_enter Try.func58, Try.ntmps58
  go_wp2_with fail
  refine HC.out.mono ?_
  rintro e w1 ⟨rfl, ho1⟩
  obtain ⟨cs, hcs⟩ : ∃ cs, ints (cnts l) = cs := ⟨_, rfl⟩
  have hlen : cs.length = 16 := by rw [← hcs, ints_length, cnts_length]
  have hone : ∀ v ∈ cs, v.oneCell' = true := by rw [← hcs]; exact ints_one _
  rw [hcs] at HU ⊢
  have HCS := Lib.hid hcs
  have HO1 := Lib.hid ho1
  have HLn := Lib.hid hlen
  have HON := Lib.hid hone
  clear hcs ho1 HC hlen hone
  go_wp2_with ((with_reducible show wpList _ _ _ (Oper.mk _ (Op.store _ _ _) _ _ _ _ :: _) _ _); refine wpList_store_is rfl 105 (.tmp 3) (.tmp 10) rfl w1.heap.size cs rfl rfl 105 _ (Is.new w1 105 (List.replicate 16 (.int .i64 0))) (by rw [HLn.out]; exact info142) (by rw [HLn.out]; rfl) HON.out ?_; intro w2 hi2 ho2; have HI2 := Lib.hid hi2; have HO2 := Lib.hid ho2; clear hi2 ho2)
  have hst : NextAt w w1.heap.size w2.heap.size l (nx l 1) (w2.alloc (.cells (List.replicate 16 (Value.int .i64 0)).toArray 105)) := by
    refine ⟨?_, ?_, ?_⟩
    · rw [HCS.out]; exact HI2.out.alloc _
    · rw [← zeros_nx l]; exact Is.new w2 105 _
    · exact ((HO1.out.alloc _).andThen HO2.out fun j hj => .inr (hj ▸ HO1.out.size)).alloc _
  have hGN : w1.heap.size < w2.heap.size := by have := HO2.out.size; simp at this; omega
  have hwG : w.heap.size ≤ w1.heap.size := HO1.out.size
  obtain ⟨G, hG⟩ : ∃ G, w1.heap.size = G := ⟨_, rfl⟩
  obtain ⟨N, hN⟩ : ∃ N, w2.heap.size = N := ⟨_, rfl⟩
  rw [hG, hN] at hst
  rw [hG] at hGN hwG
  rw [hN] at hGN
  try rw [hG]
  try rw [hN]
  have HST := Lib.hid hst
  clear hst hG hN HI2 HO1 HO2
  go_loopg [5] 15 (fun gk i wx => ∃ k : Nat, i = .int .i64 k ∧ k + gk ≤ 16 ∧ 16 ≤ k + gk ∧ 1 ≤ k ∧ NextAt w G N l (nx l k) wx)
  case atStart => exact ⟨1, rfl, by omega, by omega, by omega, HST.out⟩
  case round =>
    clear HST
    obtain ⟨k, rfl, hk, hk2, hk1, hI⟩ := hrel
    by_cases hlt : k < 16
    · obtain ⟨k', rfl⟩ : ∃ k', k = k' + 1 := ⟨k - 1, by omega⟩
      have c1 := hI.1.cell k' (ints_at _ k' (by rw [cnts_length]; omega))
      have c2 := hI.2.1.cell k' (ints_at _ k' (by simp; omega))
      have c3 := hI.2.1.cell (k' + 1) (ints_at _ (k' + 1) (by simp; omega))
      have c4 := hI.2.1.frozen (k' + 1)
      rw [show ln (cnts l) k' = cn l k' from map_at 16 _ k' (by omega)] at c1
      rw [map_at 16 _ k' (by omega), show nx l (k' + 1) k' = st l k' by simp [nx]] at c2
      rw [map_at 16 _ (k' + 1) (by omega), show nx l (k' + 1) (k' + 1) = 0 by simp [nx]] at c3
      have hm := nx_put l (k' + 1)
      have b1 := cn_le l k'
      have b2 := st_small l (by rw [HN.out]; exact h288) k' (by omega)
      rw [st] at hm
      rw [HN.out] at b1
      obtain ⟨x, hx⟩ : ∃ x, cn l k' = x := ⟨_, rfl⟩
      obtain ⟨y, hy⟩ : ∃ y, st l k' = y := ⟨_, rfl⟩
      rw [hx] at c1 b1 hm
      rw [hy] at c2 b2 hm
      have e1 : ((k' + 1 : Nat) : Int) - 1 = (k' : Int) := by omega
      have e2 : wrap64 (k' : Int) = k' := IntWalk.wrap64_in _ (by omega)
      have HM := Lib.hid hm
      have HI := Lib.hid hI
      clear hx hy hm hI
      go_wp2_with fail
      go_region
      all_goals
        go_wp2_with fail
        go_roundg (gk - 1)
        case measure => omega
        case rel =>
          refine ⟨k' + 1 + 1, by go_num, by omega, by omega, by omega, HI.out.1.drew.far (p := ⟨N, k' + 1, none⟩) (by simp; omega) _, ?_, HI.out.2.2.drew.set (p := ⟨N, k' + 1, none⟩) (.inr (by simp; omega)) _⟩
          rw [← HM.out, ← ints_set]
          exact HI.out.2.1.drew.set (k' + 1) _
    · obtain rfl : k = 16 := by omega
      have h1 := hI.1
      rw [HCS.out] at h1
      have H1 := Lib.hid h1
      obtain ⟨h2, h3, h4⟩ := hI
      rw [nx_ny] at h3
      have H3 := Lib.hid h3
      have H4 := Lib.hid h4
      clear h1 h2 h3 h4
      go_wp2_with ((with_reducible show wpList _ _ _ (Oper.mk _ (Op.load _ _) _ _ _ _ :: _) _ _); refine wpList_load_is rfl 105 (.tmp 3) rfl G rfl 105 _ H1.out Try.underlying105 (by rw [HLn.out]; exact info142) ?_)
      refine (HU.out wr).mono ?_
      rintro e w3 ⟨rfl, ho3⟩
      have hSTL := Lib.hid (rfl : st l 16 = st l 16)
      obtain ⟨m, hm⟩ : ∃ m, st l 16 = m := ⟨_, rfl⟩
      rw [hm] at hstl hSTL ⊢
      have hmk := run_make_row Try.underlying53 info3 (by omega) m (by omega) w3
      obtain ⟨R, hR⟩ : ∃ R, w3.heap.size = R := ⟨_, rfl⟩
      have hNR : N < w3.heap.size := Nat.lt_of_lt_of_le H3.out.lt ho3.size
      have hst : NextAt w G N l (ny l 0) (w3.alloc (.cells (List.replicate m (Value.int .i64 0)).toArray 3)) ∧ Made 3 w (some ⟨w3.heap.size, 0, none⟩) m m (ints (ordTo l 0)) (w3.alloc (.cells (List.replicate m (Value.int .i64 0)).toArray 3)) := by
        refine ⟨⟨?_, (H3.out.only ho3 id).alloc _, (H4.out.trans ho3).alloc _⟩, ?_⟩
        · rw [HCS.out]; exact (H1.out.only ho3 id).alloc _
        · rw [ordTo_zero, hm, ← ints_zeros]
          have := zeros_made (e := 3) (w := w3) (kd := .i64) m (by omega)
          exact ⟨this.1, (H4.out.trans ho3).trans this.2.1, fun j hj => Nat.le_trans (H4.out.trans ho3).size (this.2.2 j hj)⟩
      rw [hR] at hst hmk hNR
      have HST := Lib.hid hst
      have HM := Lib.hid hm
      clear hst hR hm ho3 H1 H3 H4
      go_wp2_with fail
      go_loopg [31] n (fun gk i wx => ∃ k : Nat, i = .int .i64 k ∧ k + gk ≤ n ∧ n ≤ k + gk ∧ NextAt w G N l (ny l k) wx ∧ Made 3 w (some ⟨R, 0, none⟩) m m (ints (ordTo l k)) wx)
      case atStart => exact ⟨0, rfl, by omega, by omega, HST.out⟩
      case round =>
        clear HST hmk
        obtain ⟨k, rfl, hk, hk2, hI, hM⟩ := hrel
        by_cases hlt : k < n
        · have hkl : k < l.length := by rw [HN.out]; exact hlt
          obtain ⟨b, off, rfl, hbB, hc⟩ := (HS.out.new hI.2.2) k _ (ints_at l k hkl)
          have hx := ln_le l k HL.out
          have hny := ny_at l k
          have hnp := ny_put l k hkl
          have hns := ny_same l k hkl
          have hop := ordTo_put l k
          have hos := ordTo_same l k
          have hps := fun h => ps_lt16 l k h HL.out
          have hhas : 0 < ln l k → Has l k := fun h => ⟨hkl, h⟩
          rw [HM.out] at hps
          obtain ⟨x, hx1⟩ : ∃ x, ln l k = x := ⟨_, rfl⟩
          rw [hx1] at hx hc hny hnp hns hos hhas
          clear hx1 hkl
          by_cases h0 : 0 < x
          · have c1 := hI.2.1.cell x (ints_at _ x (by simp; omega))
            have c2 := hI.2.1.frozen x
            rw [map_at 16 _ x (by omega), hny h0] at c1
            have hps := hps (hhas h0)
            have HOP := Lib.hid (hop (hhas h0))
            have HNP := Lib.hid (hnp h0)
            obtain ⟨p, hp⟩ : ∃ p, ps l k = p := ⟨_, rfl⟩
            rw [hp] at c1 hps HOP HNP
            obtain ⟨g, hg, c3, c4⟩ := hM.1.cell (ints_at _ p (by rw [show (ordTo l k).length = m by rw [← HM.out]; simp [ordTo]]; exact hps))
            simp only [Option.some.injEq, Addr.mk.injEq, and_true] at hg
            subst hg
            have hNR2 : ¬ N = R := by omega
            have hNR3 : ¬ R = N := by omega
            have c5 : (wr.setCell ⟨R, p, none⟩ (.int .i64 (k : Int))).cell? ⟨N, x, none⟩ = some (.int .i64 (p : Int)) := (hI.2.1.far (p := ⟨R, p, none⟩) (by simp; omega) (.int .i64 (k : Int))).cell x (by rw [ints_at _ x (by simp; omega), map_at 16 _ x (by omega), hny h0, hp])
            have c6 : (wr.setCell ⟨R, p, none⟩ (.int .i64 (k : Int))).frozen? ⟨N, x, none⟩ = false := (hI.2.1.far (p := ⟨R, p, none⟩) (by simp; omega) (.int .i64 (k : Int))).frozen x
            have HI := Lib.hid hI
            have HMM := Lib.hid hM
            clear hI hM hny hnp hns hop hos hhas hp
            go_wp2_with fail
            go_roundg (gk - 1)
            case measure => omega
            case rel =>
              refine ⟨k + 1, by go_num, by omega, by omega, ⟨(HI.out.1.far (p := ⟨R, p, none⟩) (by simp; omega) _).far (p := ⟨N, x, none⟩) (by simp; omega) _, ?_, (HI.out.2.2.set (p := ⟨R, p, none⟩) (.inr (by simp; omega)) _).set (p := ⟨N, x, none⟩) (.inr (by simp; omega)) _⟩, ?_⟩
              · rw [← HNP.out, ← ints_set]
                exact (HI.out.2.1.far (p := ⟨R, p, none⟩) (by simp; omega) _).set x _
              · rw [← HOP.out, ← ints_set]
                exact (HMM.out.setAt p _).far N x _ (by omega) (by omega)
          · obtain rfl : x = 0 := by omega
            have HNS := Lib.hid (hns rfl)
            have HOS := Lib.hid (hos rfl)
            have HI := Lib.hid hI
            have HMM := Lib.hid hM
            clear hI hM hny hnp hns hop hos hps hhas
            go_wp2_with fail
            go_roundg (gk - 1)
            case measure => omega
            case rel =>
              refine ⟨k + 1, by go_num, by omega, by omega, ?_, ?_⟩
              · unfold NextAt
                rw [HNS.out]
                exact HI.out
              · rw [HOS.out]
                exact HMM.out
        · have hkn : k = l.length := by rw [HN.out]; omega
          rw [hkn, ordTo_all, ← HM.out] at hM
          have HMM := Lib.hid hM
          clear hM hI
          go_wp2
          go_ret
          exact ⟨R, by rw [HM.out]; rfl, HMM.out⟩
end Go.Proofs.Ytjlkjebmilfgoaa

/- Layer 5: the numbers of the codes, in the program and in the document. -/
namespace Go.Proofs.Ytjlkjebmilfgoaa
open Go.RowKit

/-- Of each symbol its code. -/
def cds (l : List Nat) : List Nat := (List.range l.length).map (cd l)
theorem cds_length (l : List Nat) : (cds l).length = l.length := by simp [cds]
/-- Those of the first i symbols in order. -/
def cdf (l : List Nat) (i : Nat) : Nat → Nat := fun s => if 0 < ln l s ∧ ps l s < i then cd l s else 0
def cdTo (l : List Nat) (i : Nat) : List Nat := (List.range l.length).map (cdf l i)
theorem cdTo_length (l : List Nat) (i : Nat) : (cdTo l i).length = l.length := by simp [cdTo]
theorem cdTo_one (l : List Nat) : cdTo l 1 = List.replicate l.length 0 := by
  unfold cdTo
  apply List.ext_getElem
  · simp
  · intro s h1 h2
    simp only [List.length_map, List.length_range] at h1
    simp only [List.getElem_map, List.getElem_range, List.getElem_replicate, cdf]
    split
    · rename_i h3
      exact cd_first l s ⟨h1, h3.1⟩ (by omega)
    · rfl
theorem cdTo_all (l : List Nat) (hl : Low l) (i : Nat) (h : st l 16 ≤ i) : cdTo l i = cds l := by
  refine map_same _ _ _ fun s hs => ?_
  unfold cdf
  split
  · rfl
  · rename_i h3
    have h4 : ln l s = 0 := by
      rcases Nat.eq_zero_or_pos (ln l s) with e | e
      · exact e
      · have := ps_lt16 l s ⟨hs, e⟩ hl
        omega
    simp [cd, h4]
theorem cdTo_put (l : List Nat) (i : Nat) (h : i < st l 16) : (cdTo l i).set (sy l i) (cd l (sy l i)) = cdTo l (i + 1) := by
  obtain ⟨h1, h2⟩ := sy_of l i h
  refine map_set _ _ _ _ _ ?_ fun t ht hne => ?_
  · simp [cdf, h1.2, h2]
  · unfold cdf
    by_cases h3 : 0 < ln l t
    · have h4 : ps l t ≠ i := by
        intro e
        have := sy_ps l t ⟨ht, h3⟩
        rw [e] at this
        exact hne this.symm
      have h5 : (ps l t < i + 1) ↔ (ps l t < i) := by omega
      simp only [h5]
    · simp [h3]
theorem cdTo_at (l : List Nat) (i s : Nat) (h : Has l s) (hp : ps l s < i) : ln (cdTo l i) s = cd l s := by
  unfold cdTo
  rw [map_at _ _ _ h.1]
  simp [cdf, h.2, hp]
theorem ord_at (l : List Nat) (i : Nat) (h : i < st l 16) : ln (ord l) i = sy l i := map_at _ _ i h

def IntIn (x : Int) : Prop := -9223372036854775808 ≤ x ∧ x ≤ 9223372036854775807
theorem IntIn.both {x : Int} (h : IntIn x) : wrap64 x = x ∧ IntKind.i64.wrap x = x := ⟨IntWalk.wrap64_in _ h, IntWalk.i64_in _ h⟩
def NumPost (w : World) (l : List Nat) (n : Nat) (e : Ending) (w' : World) : Prop := ∃ g, e = .returned (.slice (some ⟨g, 0, none⟩) n n) ∧ Made 3 w (some ⟨g, 0, none⟩) n n (ints (cds l)) w'

set_option maxHeartbeats 800000 in
theorem numbers (A A2 : Option Addr) (n c m c2 B : Nat) (l : List Nat) (w : World) (h : See w B A (ints l)) (h2 : See w B A2 (ints (ord l))) (hn : l.length = n) (h288 : n ≤ 288) (hl : Low l) (hm : st l 16 = m) :
    Calls Try.prog 61 #[.slice A n c, .slice A2 m c2] w (NumPost w l n) := by
  have HS := Lib.hid h
  have HS2 := Lib.hid h2
  have HL := Lib.hid hl
  have HN := Lib.hid hn
  have HM := Lib.hid hm
  have hm2 := st_small l (by omega) 16 (Nat.le_refl _)
  rw [hm] at hm2
  clear h h2 hl hn hm
  have hmk := run_make_row Try.underlying53 info3 (by omega) n (by omega) w
  have hst : Made 3 w (some ⟨w.heap.size, 0, none⟩) n n (ints (cdTo l 1)) (w.alloc (.cells (List.replicate n (Value.int .i64 0)).toArray 3)) := by
    rw [cdTo_one, HN.out, ← ints_zeros]
    exact zeros_made (e := 3) (w := w) (kd := .i64) n (by omega)
  obtain ⟨R, hR⟩ : ∃ R, w.heap.size = R := ⟨_, rfl⟩
  rw [hR] at hst hmk
  have HST := Lib.hid hst
  have HR := Lib.hid hR
  clear hst hR
  go_enter Try.func61, Try.ntmps61
  go_wp2_with fail
  go_loopg [6] m (fun gk i wx => ∃ k : Nat, i = .int .i64 k ∧ k + gk ≤ m + 1 ∧ m ≤ k + gk ∧ 1 ≤ k ∧ Hid (k ≤ m ∨ k = 1) ∧ Made 3 w (some ⟨R, 0, none⟩) n n (ints (cdTo l k)) wx)
  case atStart => exact ⟨1, rfl, by omega, by omega, by omega, Lib.hid (.inr rfl), HST.out⟩
  case round =>
    clear HST hmk
    obtain ⟨k, rfl, hk, hk2, hk1, hk3, hM⟩ := hrel
    by_cases hlt : k < m
    · obtain ⟨k', rfl⟩ : ∃ k', k = k' + 1 := ⟨k - 1, by omega⟩
      have hkm : k' + 1 < st l 16 := by rw [HM.out]; exact hlt
      obtain ⟨s1, s2⟩ := sy_of l k' (by omega)
      obtain ⟨t1, t2⟩ := sy_of l (k' + 1) hkm
      have hnx := cd_next l (sy l k') (sy l (k' + 1)) s1 t1 (by omega)
      obtain ⟨b2, off2, rfl, hb2, c1⟩ := (HS2.out.new hM.2.1) k' _ (ints_at (ord l) k' (by rw [ord_length]; omega))
      obtain ⟨b2', off2', e2, _, c2'⟩ := (HS2.out.new hM.2.1) (k' + 1) _ (ints_at (ord l) (k' + 1) (by rw [ord_length]; omega))
      simp only [Option.some.injEq, Addr.mk.injEq, and_true] at e2
      obtain ⟨rfl, rfl⟩ := e2
      rw [ord_at l k' (by omega)] at c1
      rw [ord_at l (k' + 1) hkm] at c2'
      have hput := cdTo_put l (k' + 1) hkm
      have hat := cdTo_at l (k' + 1) (sy l k') s1 (by omega)
      have hb1 := cd_small l (by rw [HN.out]; exact h288) HL.out (sy l k')
      have hb2' := cd_small l (by rw [HN.out]; exact h288) HL.out (sy l (k' + 1))
      have hb3 := ln_le l (sy l (k' + 1)) HL.out
      have hs1 := s1.1
      have ht1 := t1.1
      obtain ⟨b, off, rfl, hb, c3⟩ := (HS.out.new hM.2.1) _ _ (ints_at l (sy l k') hs1)
      obtain ⟨b', off', e3, _, c4⟩ := (HS.out.new hM.2.1) _ _ (ints_at l (sy l (k' + 1)) ht1)
      simp only [Option.some.injEq, Addr.mk.injEq, and_true] at e3
      obtain ⟨rfl, rfl⟩ := e3
      obtain ⟨g, e4, c5, _⟩ := hM.1.cell (ints_at (cdTo l (k' + 1)) (sy l k') (by rw [cdTo_length]; exact hs1))
      simp only [Option.some.injEq, Addr.mk.injEq, and_true] at e4
      subst e4
      obtain ⟨g, e4, c6, c7⟩ := hM.1.cell (ints_at (cdTo l (k' + 1)) (sy l (k' + 1)) (by rw [cdTo_length]; exact ht1))
      simp only [Option.some.injEq, Addr.mk.injEq, and_true] at e4
      subst e4
      rw [hat] at c5
      rw [HN.out] at hs1 ht1
      obtain ⟨s, hs⟩ : ∃ s, sy l k' = s := ⟨_, rfl⟩
      obtain ⟨t, ht⟩ : ∃ t, sy l (k' + 1) = t := ⟨_, rfl⟩
      rw [hs] at c1 c3 c5 hnx hb1 hs1
      rw [ht] at c2' c4 c6 c7 hnx hb2' hb3 ht1 hput
      obtain ⟨x, hx⟩ : ∃ x, ln l s = x := ⟨_, rfl⟩
      obtain ⟨y, hy⟩ : ∃ y, ln l t = y := ⟨_, rfl⟩
      obtain ⟨u, hu⟩ : ∃ u, cd l s = u := ⟨_, rfl⟩
      obtain ⟨v, hv⟩ : ∃ v, cd l t = v := ⟨_, rfl⟩
      obtain ⟨o, ho⟩ : ∃ o, ln (cdTo l (k' + 1)) t = o := ⟨_, rfl⟩
      rw [hx] at c3 hnx
      rw [hy] at c4 hnx hb3
      rw [hu] at c5 hnx hb1
      rw [hv] at hnx hb2' hput
      rw [ho] at c6
      obtain ⟨hxy, hnx⟩ := hnx
      obtain ⟨q, hq⟩ : ∃ q, y - x = q := ⟨_, rfl⟩
      rw [hq] at hnx
      have e7 : ((u : Int) + 1) * 2 ^ q = (v : Int) := by rw [hnx]; simp
      have E7 := Lib.hid e7
      clear hnx e7
      have e1 : ((k' + 1 : Nat) : Int) - 1 = (k' : Int) := by omega
      have e5 : (y : Int) - (x : Int) = (q : Int) := by omega
      obtain ⟨r2, r6, r8, r9⟩ : IntIn k' ∧ IntIn q ∧ IntIn ((u : Int) + 1) ∧ IntIn v := by unfold IntIn; omega
      have HQ : Hid (q ≤ 64) := Lib.hid (by omega)
      have HP := Lib.hid hput
      have HMM := Lib.hid hM
      clear hM hput hat s1 s2 t1 t2 hs ht hx hy hu hv ho hq hkm
      have H3 := Lib.hid c3
      have H4 := Lib.hid c4
      have H5 := Lib.hid c5
      have H6 := Lib.hid c6
      have H7 := Lib.hid c7
      have E5 := Lib.hid e5
      have HXY := Lib.hid hxy
      have f2 := r2.both.2
      clear c3 c4 c5 c6 c7 e5 hb1 hb2' hb3 hxy hk3
      go_wp2_with fail
      go_quiet (fail)
      go_wp2_with fail
      clear c1 c2' e1 f2 r2
      have c3 := H3.out
      have c4 := H4.out
      have c5 := H5.out
      have c6 := H6.out
      have c7 := H7.out
      have e5 := E5.out
      have e7 := E7.out
      have f6 := r6.both.2
      have f8 := r8.both.2
      have f9 := r9.both.2
      go_region
      all_goals
        go_wp2_with fail
        go_roundg (gk - 1)
        case measure => omega
        case rel =>
          refine ⟨k' + 1 + 1, by go_num, by omega, by omega, by omega, Lib.hid (.inl (by omega)), ?_⟩
          rw [← HP.out, ← ints_set, show wrap64 (((u : Int) + 1) * 2 ^ min q 64) = (v : Int) by rw [Nat.min_eq_left HQ.out, E7.out]; exact r9.both.1]
          exact (HMM.out.drewN _).setAt t _
    · have hkm : cdTo l k = cds l := cdTo_all l HL.out k (by rw [HM.out]; omega)
      rw [hkm] at hM
      have HMM := Lib.hid hM
      clear hM hkm
      go_wp2
      go_ret
      exact ⟨R, rfl, HMM.out⟩
end Go.Proofs.Ytjlkjebmilfgoaa

/- Layer 5: the document's codes; whether two rows of numbers are the same; the program's Codes. -/
namespace Go.Proofs.Ytjlkjebmilfgoaa
open Go.RowKit

/-- The codes below length k, and those of length k up to symbol i. -/
def cdg (l : List Nat) (k i : Nat) : Nat → Nat := fun s => if 0 < ln l s ∧ (ln l s < k ∨ (ln l s = k ∧ s < i)) then cd l s else 0
def cdG (l : List Nat) (k i : Nat) : List Nat := (List.range l.length).map (cdg l k i)
theorem cdG_length (l : List Nat) (k i : Nat) : (cdG l k i).length = l.length := by simp [cdG]
theorem cdG_start (l : List Nat) : cdG l 1 0 = List.replicate l.length 0 := by
  unfold cdG
  apply List.ext_getElem
  · simp
  · intro s h1 h2
    simp only [List.length_map, List.length_range] at h1
    simp only [List.getElem_map, List.getElem_range, List.getElem_replicate, cdg]
    rw [if_neg (by omega)]
theorem cdG_put (l : List Nat) (k i : Nat) (hk : ln l i = k) (h0 : 0 < k) : (cdG l k i).set i (cd l i) = cdG l k (i + 1) := by
  refine map_set _ _ _ _ _ ?_ fun t ht hne => ?_
  · unfold cdg
    rw [if_pos (by omega)]
  · unfold cdg
    have : (0 < ln l t ∧ (ln l t < k ∨ (ln l t = k ∧ t < i + 1))) ↔ (0 < ln l t ∧ (ln l t < k ∨ (ln l t = k ∧ t < i))) := by omega
    simp only [this]
theorem cdG_same (l : List Nat) (k i : Nat) (hk : ln l i ≠ k) : cdG l k (i + 1) = cdG l k i := by
  refine map_same _ _ _ fun t ht => ?_
  unfold cdg
  have : (0 < ln l t ∧ (ln l t < k ∨ (ln l t = k ∧ t < i + 1))) ↔ (0 < ln l t ∧ (ln l t < k ∨ (ln l t = k ∧ t < i))) := by
    by_cases e : t = i
    · subst e; omega
    · omega
  simp only [this]
theorem cdG_next (l : List Nat) (k : Nat) : cdG l k l.length = cdG l (k + 1) 0 := by
  refine map_same _ _ _ fun t ht => ?_
  unfold cdg
  have : (0 < ln l t ∧ (ln l t < k + 1 ∨ (ln l t = k + 1 ∧ t < 0))) ↔ (0 < ln l t ∧ (ln l t < k ∨ (ln l t = k ∧ t < l.length))) := by omega
  simp only [this]
theorem cdG_end (l : List Nat) (hl : Low l) : cdG l 16 0 = cds l := by
  refine map_same _ _ _ fun t ht => ?_
  have := ln_le l t hl
  unfold cdg
  split
  · rfl
  · unfold cd
    rw [if_pos (by omega)]

end Go.Proofs.Ytjlkjebmilfgoaa

/- Layer 5: a copy of a row of numbers (slices.Clone). -/
namespace Go.Proofs.Ytjlkjebmilfgoaa
open Go.RowKit

theorem Made.later {e : TypeId} {w w1 w2 : World} {A : Option Addr} {n c : Nat} {vs : List Value} (h : Made e w1 A n c vs w2) (o : Only (fun _ => False) w w1) : Made e w A n c vs w2 :=
  ⟨h.1, o.trans h.2.1, fun j hj => Nat.le_trans o.size (h.2.2 j hj)⟩

theorem See.src {P : Program} {tx e : TypeId} (hk : P.underlying tx = some (.slice e)) {w : World} {B n c : Nat} {a : Addr} {vs : List Value} (h : See w B (some a) vs) (hn : vs.length = n) (h1 : ∀ v ∈ vs, v.oneCell' = true) : Src P 1 tx (.slice (some a) n c) n vs w := by
  refine Src.ofSlice w hk a n c vs (by omega) (fun j u hu => ?_) h1
  obtain ⟨b, off, e1, _, hc⟩ := h j u hu
  obtain rfl := Option.some.inj e1
  rw [Addr.add_lit]
  exact hc
def ClonePost (w : World) (vs : List Value) (n : Nat) (e : Ending) (w' : World) : Prop := ∃ A c, e = .returned (.slice A n c) ∧ Made 3 w A n c vs w'

set_option maxHeartbeats 1000000 in
theorem clone (A : Option Addr) (n c B : Nat) (vs : List Value) (w : World) (h : See w B A vs) (hn : vs.length = n) (hb : n ≤ 1000000) (h1 : ∀ v ∈ vs, v.oneCell' = true) :
    Calls Try.prog 59 #[.slice A n c] w (ClonePost w vs n) := by
  cases A with
  | none =>
    have hv : vs = [] := by
      cases vs with
      | nil => rfl
      | cons v r => obtain ⟨b, off, e, _⟩ := h 0 v rfl; cases e
    subst hv
    obtain rfl : n = 0 := by simpa using hn.symm
    clear h hn h1 hb
    have hE : (binOp .eql 53 (.slice none 0 c) (.slice none 0 0)).run Try.prog w = .ok (.bool true) w := by kernel_rfl
    go_enter Try.func59, Try.ntmps59
    go_wp2
    go_ret
    exact ⟨none, 0, rfl, Row.nil 3 w, Only.refl _ w, by rintro j ⟨ad, e, _⟩; cases e⟩
  | some a =>
    have HS := Lib.hid h
    have HN := Lib.hid hn
    have H1 := Lib.hid h1
    clear h hn h1
    have hE : (binOp .eql 53 (.slice (some a) n c) (.slice none 0 0)).run Try.prog w = .ok (.bool false) w := by kernel_rfl
    go_enter Try.func59, Try.ntmps59
    go_wp2_with (at_builtin
                 refine wpList_append_row rfl (.tmp 5) (.tmp 6) 53 53 3 rfl Try.underlying53 info3 (some ⟨w.heap.size, 0, none⟩) 0 0 n [] vs (.slice (some a) n c) rfl rfl (Row.of_is (Is.new w 3 []) rfl (by unfold maxLen; omega)) HN.out (See.src Try.underlying53 (HS.out.new ((Only.refl _ w).alloc _)) HN.out H1.out) (by omega) (by omega) ?_
                 intro A2 c2 w2 hrow2 honly2 hlies2
                 have HR := Lib.hid hrow2
                 have HO := Lib.hid honly2
                 have HL := Lib.hid hlies2
                 clear hrow2 honly2 hlies2)
    go_ret
    have hr := HR.out
    rw [Nat.zero_add, List.nil_append] at hr
    refine ⟨A2, c2, rfl, hr, ((Only.refl _ w).alloc _).andThen HO.out ?_, ?_⟩
    · rintro j ⟨ad, e1, rfl⟩
      obtain rfl := Option.some.inj e1
      exact .inr (Nat.le_refl _)
    · rintro j ⟨ad, e1, rfl⟩
      rcases HL.out with e | e
      · rw [e] at e1
        obtain rfl := Option.some.inj e1
        exact Nat.le_refl _
      · rw [e] at e1
        obtain rfl := Option.some.inj e1
        simp
end Go.Proofs.Ytjlkjebmilfgoaa
