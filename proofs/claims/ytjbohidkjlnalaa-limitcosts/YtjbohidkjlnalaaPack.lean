/- Layer 6: the rows of packages, and how deep each leaf comes to stand, in the program. -/
import Derived.Test.YtjbohidkjlnalaaRowsOf
namespace Go.Proofs.Ytjbohidkjlnalaa
open Go.RowKit

/-- The row below a row. -/
def rowB (W : List Nat) : Nat → List (Nat × Bool)
  | 0 => []
  | k + 1 => row W k
theorem row_of (W : List Nat) (k : Nat) : row W k = mrgF W (prs ((rowB W k).map Prod.fst)) := by
  cases k <;> rfl
theorem rowB_fst (W : List Nat) (k : Nat) : (rowB W (k + 1)).map Prod.fst = rs W k := row_fst W k
theorem rowB_length (W : List Nat) (k : Nat) : (rowB W k).length ≤ 2 * W.length := by
  cases k with
  | zero => simp [rowB]
  | succ k => rw [rowB, row_length]; exact (rs_short W k).1
theorem rowB_max {W : List Nat} (h : Low W) (k : Nat) (hk : k ≤ 16) : ∀ x ∈ (rowB W k).map Prod.fst, x ≤ 1099511627776 := by
  intro x hx
  cases k with
  | zero => simp [rowB] at hx
  | succ k =>
    rw [rowB_fst] at hx
    have h1 := rs_max h k x hx
    have h2 : 2 ^ k ≤ 2 ^ 16 := Nat.pow_le_pow_right (by decide) (by omega)
    have h3 : 1048576 * 2 ^ k ≤ 1048576 * 2 ^ 16 := Nat.mul_le_mul_left _ h2
    omega
theorem See.far {w w' : World} {B g o : Nat} {vs : List Value} {S : Nat → Prop} (h : See w B (some ⟨g, o, none⟩) vs) (k : Only S w w') (hg : ¬ S g) : See w' B (some ⟨g, o, none⟩) vs := by
  intro i v hv
  obtain ⟨b, off, e1, e2, e3⟩ := h i v hv
  simp only [Option.some.injEq, Addr.mk.injEq, and_true] at e1
  obtain ⟨rfl, rfl⟩ := e1
  exact ⟨_, _, rfl, e2, (World.cell?_of_block (k.block _ (cell_lt e3) hg)).trans e3⟩

/-- The rows that are laid: k slices in block G, each with its items. -/
def RowsAt (w : World) (W : List Nat) (G k most : Nat) (wx : World) : Prop := Only (fun _ => False) w wx ∧ w.heap.size ≤ G ∧ ∃ vs, Buf 47 1 wx G k most vs ∧ ∀ i, i < k → ∃ g, (g ≠ G ∧ w.heap.size ≤ g) ∧ vs[i]? = some (.slice (some ⟨g, 0, none⟩) (row W i).length (row W i).length) ∧ See wx wx.heap.size (some ⟨g, 0, none⟩) (its (row W i))
theorem RowsAt.new {w wx wy : World} {W : List Nat} {G k most : Nat} (h : RowsAt w W G k most wx) (ho : Only (fun _ => False) wx wy) : RowsAt w W G k most wy := by
  obtain ⟨h1, h2, vs, h3, h4⟩ := h
  refine ⟨h1.trans ho, h2, vs, h3.only ho id, fun i hi => ?_⟩
  obtain ⟨g, e1, e2, e3⟩ := h4 i hi
  exact ⟨g, e1, e2, (e3.far ho id).more ho.size⟩
theorem RowsAt.put {w wx : World} {W : List Nat} {G k most g : Nat} {o : Obj} (h : RowsAt w W G k most wx) (hs : See wx wx.heap.size (some ⟨g, 0, none⟩) (its (row W k))) (hg : g ≠ G ∧ w.heap.size ≤ g) :
    ∃ vs, Buf 47 1 (wx.alloc o) G k most vs ∧ ∀ wy, Buf 47 1 wy G (k + 1) most (vs ++ [.slice (some ⟨g, 0, none⟩) (row W k).length (row W k).length]) → Only (fun j => j = G) (wx.alloc o) wy → RowsAt w W G (k + 1) most wy ∧ See wy wy.heap.size (some ⟨g, 0, none⟩) (its (row W k)) := by
  obtain ⟨h1, h2, vs, h3, h4⟩ := h
  refine ⟨vs, h3.alloc _, fun wy hb ho => ?_⟩
  have hvl : vs.length = k := by have := h3.1; omega
  have hsz : (wx.alloc o).heap.size ≤ wy.heap.size := ho.size
  have hsx : wx.heap.size ≤ (wx.alloc o).heap.size := by simp
  have hsee : ∀ g' vs', g' ≠ G → See wx wx.heap.size (some ⟨g', 0, none⟩) vs' → See wy wy.heap.size (some ⟨g', 0, none⟩) vs' := fun g' vs' hne hh => (((hh.far ((Only.refl (fun _ => False) wx).alloc o) id).far ho hne).more (by omega))
  refine ⟨⟨(h1.alloc o).andThen ho fun j hj => .inr (hj ▸ h2), h2, _, hb, fun i hi => ?_⟩, hsee g _ hg.1 hs⟩
  rcases Nat.lt_or_ge i k with hi2 | hi2
  · obtain ⟨g', e1, e2, e3⟩ := h4 i hi2
    exact ⟨g', e1, by rw [List.getElem?_append_left (by omega)]; exact e2, hsee g' _ e1.1 e3⟩
  · obtain rfl : i = k := by omega
    exact ⟨g, hg, by rw [List.getElem?_append_right (by omega), hvl]; simp, hsee g _ hg.1 hs⟩
theorem Src.oneSlice (w : World) (v : Value) (h1 : v.oneCell' = true) (c : Nat) (t : TypeId) : Src Try.prog 1 44 (.slice (some ⟨w.heap.size, 0, none⟩) 1 c) 1 [v] (w.alloc (.cells #[v] t)) :=
  Src.ofSlice _ Try.underlying44 _ 1 c _ rfl (cell_one_new w _ t) (by simpa using h1)
theorem info47 : (Try.prog.info? 47).map (fun i => (i.zero, i.size, i.bytes)) = some (some (.slice none 0 0), 1, 24) := by kernel_rfl

def RowsPost (w : World) (W : List Nat) (most : Nat) (e : Ending) (w' : World) : Prop := ∃ G, e = .returned (.slice (some ⟨G, 0, none⟩) most most) ∧ RowsAt w W G most most w'

set_option maxHeartbeats 4000000 in
theorem rowsOf (A : Option Addr) (n k most B : Nat) (W : List Nat) (w : World) (h : See w B A (ints W)) (hn : W.length = n) (hn288 : n ≤ 288) (hW : Low W) (hm1 : 1 ≤ most) (hm15 : most ≤ 15) :
    Calls Try.prog 29 #[.slice A n k, .int .i64 most] w (RowsPost w W most) := by
  have hmk := run_make_room Try.underlying44 info47 most (by omega) (by omega) w
  have HST : Hid (RowsAt w W w.heap.size 0 most (w.alloc (.cells (madeCells #[.slice none 0 0] (most * 1)) 47))) := Lib.hid ⟨(Only.refl _ w).alloc _, Nat.le_refl _, [], Buf.made (z := .slice none 0 0) most, fun i hi => by omega⟩
  rw [Nat.mul_one] at HST
  have HS := Lib.hid h
  have HN := Lib.hid hn
  have HW := Lib.hid hW
  clear h hn hW
  obtain ⟨G, hG⟩ : ∃ G, w.heap.size = G := ⟨_, rfl⟩
  go_enter Try.func29, Try.ntmps29
  go_wp2_with fail
  rw [hG] at HST
  try rw [hG]
  clear hmk hG
  go_loopg [5, 6, 11] most (fun gk v5 v6 i wx => ∃ (j nb cb : Nat) (Ab : Option Addr), i = .int .i64 j ∧ v5 = .slice (some ⟨G, 0, none⟩) j most ∧ v6 = .slice Ab nb cb ∧ j + gk ≤ most ∧ most ≤ j + gk ∧ Hid ((rowB W j).length = nb) ∧ Hid (See wx wx.heap.size Ab (its (rowB W j))) ∧ Hid (RowsAt w W G j most wx))
  case atStart => exact ⟨0, 0, 0, none, rfl, rfl, rfl, by omega, by omega, Lib.hid rfl, Lib.hid (fun i v hv => by simp [its, rowB] at hv), HST⟩
  case round =>
    clear HST
    obtain ⟨j, nb, cb, Ab, rfl, rfl, rfl, hg1, hg2, HB, HSB, HI⟩ := hrel
    by_cases hlt : j < most
    · have hnb : nb ≤ 2 * n := by have := rowB_length W j; rw [HB.out, HN.out] at this; exact this
      have HC := Lib.hid (pairsOf Ab nb cb _ (rowB W j) wr HSB.out HB.out (by omega) (rowB_max HW.out j (by omega)))
      go_wp2_with fail
      refine HC.out.mono ?_
      rintro e w1 ⟨gp, rfl, hmd⟩
      have hpl := prs_length ((rowB W j).map Prod.fst)
      rw [List.length_map, HB.out] at hpl
      obtain ⟨mp, hmp⟩ : ∃ mp, (prs ((rowB W j).map Prod.fst)).length = mp := ⟨_, rfl⟩
      have hmp2 : mp ≤ n := by omega
      rw [hmp] at hmd ⊢
      have HC2 := Lib.hid (woven A (some ⟨gp, 0, none⟩) n k mp mp B _ W (prs ((rowB W j).map Prod.fst)) w1 (HS.out.new (HI.out.1.trans hmd.2.1)) hmd.see HN.out hmp (Nat.le_refl _) (by omega) hn288)
      rw [← row_of] at HC2
      have HI1 := Lib.hid (HI.out.new hmd.2.1)
      have hrl : (row W j).length = n + mp := by rw [row_of, mrgF_length, HN.out, hmp]
      have HRL := Lib.hid hrl
      clear HC hmd hpl hmp HI HSB hrl
      go_wp2_with fail
      refine HC2.out.mono ?_
      rintro e w2 ⟨g, hgl, rfl, hs2, ho2⟩
      obtain ⟨rl, hrl⟩ : ∃ rl, n + mp = rl := ⟨_, rfl⟩
      rw [hrl] at HRL ⊢
      have hgG : g ≠ G ∧ w.heap.size ≤ g := by
        obtain ⟨ho, _, vs, hb, _⟩ := HI1.out
        have := hb.lt
        have := ho.size
        omega
      obtain ⟨vs, hv1, hv2⟩ := RowsAt.put (o := .cells #[.slice (some ⟨g, 0, none⟩) rl rl] 47) (HI1.out.new ho2) hs2 hgG
      rw [HRL.out] at hv2
      have HV1 := Lib.hid hv1
      have HV2 := Lib.hid hv2
      clear hv1 hv2 hs2 ho2 HI1 HC2 hgG hgl
      go_upto_region 6 with fail
      go_wp2_with (at_builtin
                   refine wpList_append_buf rfl (.tmp 17) (.tmp 19) 44 44 47 rfl Try.underlying44 size47 G j most vs [.slice (some ⟨g, 0, none⟩) rl rl] (.slice (some ⟨w2.heap.size, 0, none⟩) 1 1) rfl rfl HV1.out (Src.oneSlice w2 _ rfl 1 47) (by omega) ?_
                   intro w9 hbuf9 honly9
                   have H9 := Lib.hid (HV2.out _ hbuf9 honly9)
                   clear hbuf9 honly9)
      go_roundg (gk - 1)
      case measure => omega
      case rel => exact ⟨j + 1, rl, rl, _, by go_num, rfl, rfl, by omega, by omega, HRL, Lib.hid H9.out.2, Lib.hid H9.out.1⟩
    · obtain rfl : j = most := by omega
      go_wp2
      go_ret
      exact ⟨G, rfl, HI.out⟩

/-- How deep each leaf stands behind some rows. -/
def dpt (n : Nat) (ls : List Nat) : List Nat := (List.range n).map (dp ls)
theorem dpt_length (n : Nat) (ls : List Nat) : (dpt n ls).length = n := by simp [dpt]
def dptTo (n : Nat) (ls : List Nat) (a j : Nat) : List Nat := (List.range n).map fun t => dp ls t + if t < j ∧ t < a then 1 else 0
theorem dptTo_zero (n : Nat) (ls : List Nat) (a : Nat) : dptTo n ls a 0 = dpt n ls := map_same _ _ _ fun t _ => by simp
theorem dptTo_put (n : Nat) (ls : List Nat) (a j : Nat) (hj : j < a) : (dptTo n ls a j).set j (dp ls j + 1) = dptTo n ls a (j + 1) := by
  refine map_set _ _ _ _ _ ?_ fun t _ ht => ?_
  · simp [hj]
  · have : (t < j + 1 ∧ t < a) ↔ (t < j ∧ t < a) := by omega
    simp only [this]
theorem dptTo_at (n : Nat) (ls : List Nat) (a j : Nat) (hj : j < n) : ln (dptTo n ls a j) j = dp ls j := by
  unfold dptTo
  rw [map_at n _ j hj]
  simp
theorem dptTo_all (n : Nat) (ls : List Nat) (a : Nat) : dptTo n ls a a = dpt n (ls ++ [a]) := map_same _ _ _ fun t _ => by
  unfold dp
  rw [List.countP_append]
  simp [List.countP_cons]
theorem dptTo_length (n : Nat) (ls : List Nat) (a j : Nat) : (dptTo n ls a j).length = n := by simp [dptTo]
/-- The rows that are still to come behind some. -/
theorem lv_step (W : List Nat) (k t : Nat) : lv W (k + 1) t = lvs (row W (k + 1)) t :: lv W k (2 * (t - lvs (row W (k + 1)) t)) := rfl

/-- The rows, whoever else writes. -/
def RowsIn (B : Nat) (W : List Nat) (G most : Nat) (wx : World) : Prop := ∀ i, i < most → ∃ g, B ≤ g ∧ B ≤ G ∧ wx.cell? ⟨G, i, none⟩ = some (.slice (some ⟨g, 0, none⟩) (row W i).length (row W i).length) ∧ See wx wx.heap.size (some ⟨g, 0, none⟩) (its (row W i))
theorem RowsAt.inn {w wx : World} {W : List Nat} {G most : Nat} (h : RowsAt w W G most most wx) : RowsIn w.heap.size W G most wx := by
  intro i hi
  obtain ⟨_, h2, vs, h3, h4⟩ := h
  obtain ⟨g, e1, e2, e3⟩ := h4 i hi
  exact ⟨g, e1.2, h2, h3.cell e2, e3⟩
theorem RowsIn.far {B : Nat} {w wx : World} {W : List Nat} {G most : Nat} {S : Nat → Prop} (h : RowsIn B W G most w) (ho : Only S w wx) (hS : ∀ j, B ≤ j → ¬ S j) : RowsIn B W G most wx := by
  intro i hi
  obtain ⟨g, e1, e2, e3, e4⟩ := h i hi
  exact ⟨g, e1, e2, (World.cell?_of_block (ho.block _ (cell_lt e3) (hS _ e2))).trans e3, (e4.far ho (hS _ e1)).more ho.size⟩
/-- What is still to be taken, of r rows. -/
def rest (W : List Nat) : Nat → Nat → List Nat
  | 0, _ => []
  | r + 1, t => lv W r t
theorem rest_step (W : List Nat) (r t : Nat) : rest W (r + 1) t = lvs (row W r) t :: rest W r (2 * (t - lvs (row W r) t)) := by
  cases r <;> rfl
def Fits (W : List Nat) : Nat → Nat → Prop
  | 0, _ => True
  | r + 1, t => t ≤ (rs W r).length
theorem fits_step (W : List Nat) (r t : Nat) (h : Fits W (r + 1) t) : Fits W r (2 * (t - lvs (row W r) t)) ∧ lvs (row W r) t ≤ W.length ∧ t ≤ (row W r).length := by
  rw [row_length]
  cases r with
  | zero => exact ⟨trivial, by rw [lvs_bottom W t h]; exact h, h⟩
  | succ r => exact ⟨(next_fits W r t h).1, (next_fits W r t h).2, h⟩
/-- Where the leaves stand: r rows are still to come. -/
def DeepAt (w : World) (B : Nat) (W : List Nat) (most D G n r t : Nat) (all : List Nat) (wx : World) : Prop :=
  Fits W r t ∧ RowsIn B W G most wx ∧ ∃ ls, ls ++ rest W r t = all ∧ Made 3 w (some ⟨D, 0, none⟩) n n (ints (dpt n ls)) wx
def DeepPost (w : World) (l : List Nat) (n : Nat) (e : Ending) (w' : World) : Prop := ∃ g, e = .returned (.slice (some ⟨g, 0, none⟩) n n) ∧ Made 3 w (some ⟨g, 0, none⟩) n n (ints l) w'
set_option maxHeartbeats 4000000 in
theorem deepFew (A : Option Addr) (n k most : Nat) (w : World) (hn2 : n < 2) :
    Calls Try.prog 19 #[.slice A n k, .int .i64 most] w (DeepPost w (List.replicate n 0) n) := by
  have hmk := run_make_row Try.underlying22 info3 (by omega) n (by omega) w
  have HST : Hid (DeepPost w (List.replicate n 0) n (.returned (.slice (some ⟨w.heap.size, 0, none⟩) n n)) (w.alloc (.cells (List.replicate n (.int .i64 0)).toArray 3))) := Lib.hid ⟨w.heap.size, rfl, by
    rw [← ints_zeros]
    exact zeros_made n (by omega)⟩
  go_enter Try.func19, Try.ntmps19
  go_wp2
  go_ret
  exact HST.out

theorem dp_small (W : List Nat) (most : Nat) (ls : List Nat) (r t : Nat) (h : ls ++ rest W r t = lv W (most - 1) (2 * (W.length - 1))) (hm : 1 ≤ most) (j : Nat) : dp ls j ≤ most := by
  have h1 := congrArg List.length h
  rw [List.length_append, lv_length] at h1
  have := dp_le ls j
  omega

set_option maxHeartbeats 8000000 in
theorem limitedDepths (A : Option Addr) (n k most B : Nat) (W : List Nat) (w : World) (h : See w B A (ints W)) (hn : W.length = n) (hn288 : n ≤ 288) (hn2 : 2 ≤ n) (hW : Low W) (hm1 : 1 ≤ most) (hm15 : most ≤ 15) (hpow : n ≤ 2 ^ most) :
    Calls Try.prog 19 #[.slice A n k, .int .i64 most] w (DeepPost w (dpt n (lv W (most - 1) (2 * (n - 1)))) n) := by
  have hmk := run_make_row Try.underlying22 info3 (by omega) n (by omega) w
  have HM0 : Hid (Made 3 w (some ⟨w.heap.size, 0, none⟩) n n (ints (dpt n [])) (w.alloc (.cells (List.replicate n (.int .i64 0)).toArray 3))) := Lib.hid (by
    have e : dpt n [] = List.replicate n 0 := by apply List.ext_getElem <;> simp [dpt, dp]
    rw [e, ← ints_zeros]
    exact zeros_made n (by omega))
  have hz1 : (w.alloc (.cells (List.replicate n (Value.int .i64 0)).toArray 3)).heap.size = w.heap.size + 1 := by simp
  have HC := Lib.hid (rowsOf A n k most B W (w.alloc (.cells (List.replicate n (.int .i64 0)).toArray 3)) (h.new ((Only.refl _ w).alloc _)) hn hn288 hW hm1 hm15)
  have HN := Lib.hid hn
  have HFit : Hid (Fits W most (2 * (n - 1))) := Lib.hid (by
    obtain ⟨q, rfl⟩ : ∃ q, most = q + 1 := ⟨most - 1, by omega⟩
    have := rs_long W q (by rw [hn]; exact hpow)
    rw [hn] at this
    exact this)
  have HRest : Hid (rest W most (2 * (n - 1)) = lv W (most - 1) (2 * (n - 1))) := Lib.hid (by
    obtain ⟨q, rfl⟩ : ∃ q, most = q + 1 := ⟨most - 1, by omega⟩
    rfl)
  obtain ⟨all, hall⟩ : ∃ all, lv W (most - 1) (2 * (n - 1)) = all := ⟨_, rfl⟩
  have HAll : Hid (lv W (most - 1) (2 * (W.length - 1)) = all) := Lib.hid (by rw [hn]; exact hall)
  rw [hall] at HRest ⊢
  clear h hn hW hpow hall
  obtain ⟨D, hD⟩ : ∃ D, w.heap.size = D := ⟨_, rfl⟩
  obtain ⟨n1, hn1⟩ : ∃ n1, n - 1 = n1 := ⟨_, rfl⟩
  obtain ⟨t0, ht0⟩ : ∃ t0, 2 * n1 = t0 := ⟨_, rfl⟩
  have en1 : (n : Int) - 1 = (n1 : Int) := by omega
  have et0 : 2 * (n1 : Int) = (t0 : Int) := by omega
  rw [hn1, ht0] at HFit HRest
  rw [hD] at HM0 hz1
  have HDD := Lib.hid hD
  have dn2 : decide ((n : Int) < 2) = false := by simp; omega
  go_enter Try.func19, Try.ntmps19
  go_wp2_with fail
  obtain ⟨w1, hw1⟩ : ∃ w1, w.alloc (.cells (List.replicate n (Value.int .i64 0)).toArray 3) = w1 := ⟨_, rfl⟩
  have hw2 : w.alloc (.cells (Array.replicate n (Value.int .i64 0)) 3) = w1 := by rw [← hw1]; simp
  rw [hw1] at HM0 hz1 HC
  rw [hw2]
  try rw [hD]
  clear hmk hw1 hD hw2
  refine HC.out.mono ?_
  rintro e w2 ⟨G, rfl, hr2⟩
  have HST : Hid (DeepAt w (D + 1) W most D G n most t0 all w2) := Lib.hid ⟨HFit.out, by rw [← hz1]; exact hr2.inn, [], by rw [← HRest.out]; rfl, HM0.out.1.only hr2.1 (fun _ _ f => f), HM0.out.2.1.trans hr2.1, HM0.out.2.2⟩
  clear HC hr2 HM0 HFit HRest
  have emost : (most : Int) - 1 = ((most : Int) - 1) := rfl
  go_wp2_with fail
  go_loopg [8, 9] most (fun gk vt vi wx => ∃ r t : Nat, vi = .int .i64 ((r : Int) - 1) ∧ vt = .int .i64 t ∧ r ≤ gk ∧ r ≤ most ∧ t ≤ 1000 ∧ Hid (DeepAt w (D + 1) W most D G n r t all wx))
  case atStart => exact ⟨most, t0, by first | rfl | go_num, by first | rfl | go_num, by omega, by omega, by omega, HST⟩
  case round =>
    clear HST
    obtain ⟨r, t, rfl, rfl, hrg, hrm, ht1000, HI⟩ := hrel
    obtain ⟨gO, hgO⟩ : ∃ gO, gk = gO := ⟨_, rfl⟩
    by_cases hr0 : 0 < r
    · obtain ⟨r', hr'⟩ : ∃ r', r' + 1 = r := ⟨r - 1, by omega⟩
      subst hr'
      have er : ((r' + 1 : Nat) : Int) - 1 = (r' : Int) := by omega
      obtain ⟨hfit, hrows, ls, hls, hmd⟩ := HI.out
      obtain ⟨g, _, _, hcell, hsee⟩ := hrows r' (by omega)
      obtain ⟨hf1, hf2, hf3⟩ := fits_step W r' t hfit
      rw [HN.out] at hf2
      have hrest := rest_step W r' t
      have hlen : (row W r').length ≤ 1000 := by rw [row_length]; have := (rs_short W r').1; rw [HN.out] at this; omega
      have HC := Lib.hid (leavesAmong (some ⟨g, 0, none⟩) t (row W r').length _ (row W r') wr hsee hf3 ht1000)
      obtain ⟨a, ha⟩ : ∃ a, lvs (row W r') t = a := ⟨_, rfl⟩
      have hal := lvs_le (row W r') t
      obtain ⟨L, hL⟩ : ∃ L, (row W r').length = L := ⟨_, rfl⟩
      rw [ha] at hf1 hf2 hrest HC hal
      rw [hL] at hcell hf3 hlen HC
      obtain ⟨t', ht'⟩ : ∃ t', 2 * (t - a) = t' := ⟨_, rfl⟩
      obtain ⟨u, hu⟩ : ∃ u, t - a = u := ⟨_, rfl⟩
      rw [ht'] at hf1 hrest
      have HF := Lib.hid hf1
      have HLS : Hid (ls ++ a :: rest W r' t' = all) := Lib.hid (by rw [← hrest]; exact hls)
      have HDP : Hid (∀ j, dp ls j ≤ most) := Lib.hid fun j => dp_small W most ls (r' + 1) t (by rw [hls, HAll.out]) hm1 j
      have HR := Lib.hid hrows
      have HMD := Lib.hid hmd
      have ht'2 : t' ≤ 1000 := by
        cases r' with
        | zero => have := lvs_bottom W t hfit; omega
        | succ q => have := (next_fits W q t hfit).1; rw [ha, ht'] at this; have := (rs_short W q).1; rw [HN.out] at this; omega
      have eu : (t : Int) - (a : Int) = (u : Int) := by omega
      have eu2 : 2 * (u : Int) = (t' : Int) := by omega
      clear hfit hrows hls hmd hf1 hrest ha hL HI hsee
      go_wp2_with fail
      refine HC.out.mono ?_
      rintro e w3 ⟨rfl, ho3⟩
      have HR3 := Lib.hid (HR.out.far ho3 fun _ _ f => f)
      have HMD3 : Hid (Made 3 w (some ⟨D, 0, none⟩) n n (ints (dptTo n ls a 0)) w3) := Lib.hid (by
        rw [dptTo_zero]
        exact ⟨HMD.out.1.only ho3 (fun _ _ f => f), HMD.out.2.1.trans ho3, HMD.out.2.2⟩)
      clear HC HR HMD ho3 hcell
      go_wp2_with fail
      go_loopg [40] a (fun gk i wx => ∃ j : Nat, i = .int .i64 j ∧ j + gk ≤ a ∧ a ≤ j + gk ∧ Hid (RowsIn (D + 1) W G most wx) ∧ Hid (Made 3 w (some ⟨D, 0, none⟩) n n (ints (dptTo n ls a j)) wx))
      case atStart => exact ⟨0, rfl, by omega, by omega, HR3, HMD3⟩
      case round =>
        clear HR3 HMD3
        obtain ⟨j, rfl, hj1, hj2, HR, HMD⟩ := hrel
        by_cases hlt : j < a
        · obtain ⟨c1, c2⟩ := HMD.out.at j (by rw [dptTo_length]; omega)
          rw [dptTo_at n ls a j (by omega)] at c1
          have hy := HDP.out j
          have hput := dptTo_put n ls a j hlt
          obtain ⟨y, hy1⟩ : ∃ y, dp ls j = y := ⟨_, rfl⟩
          rw [hy1] at c1 hy hput
          have HP : Hid (Made 3 w (some ⟨D, 0, none⟩) n n (ints (dptTo n ls a (j + 1))) (wr.setCell ⟨D, j, none⟩ (.int .i64 ((y : Int) + 1)))) := Lib.hid (by
            rw [← hput, ← ints_set]
            exact HMD.out.setAt j _)
          have HR2 : Hid (RowsIn (D + 1) W G most (wr.setCell ⟨D, j, none⟩ (.int .i64 ((y : Int) + 1)))) := Lib.hid (HR.out.far (Only.one wr D j _) fun i hi he => by omega)
          clear hy1 hput HMD HR
          go_wp2_with fail
          go_roundg (gk - 1)
          case measure => omega
          case rel => exact ⟨j + 1, by go_num, by omega, by omega, HR2, HP⟩
        · obtain rfl : j = a := by omega
          have HZ : Hid (DeepAt w (D + 1) W most D G n r' t' all wr) := Lib.hid ⟨HF.out, HR.out, ls ++ [j], by rw [← HLS.out, List.append_assoc]; rfl, by rw [← dptTo_all]; exact HMD.out⟩
          clear HR HMD HLS HF HDP
          go_wp2_with fail
          go_roundg (gO - 1)
          case measure => omega
          case rel => exact ⟨r', t', by first | rfl | go_num, by first | rfl | go_num, by omega, by omega, by omega, HZ⟩
    · obtain rfl : r = 0 := by omega
      obtain ⟨_, _, ls, hls, hmd⟩ := HI.out
      have hls : ls = all := by rw [← hls]; simp [rest]
      rw [hls] at hmd
      have HZ : Hid (DeepPost w (dpt n all) n (.returned (.slice (some ⟨D, 0, none⟩) n n)) wr) := Lib.hid ⟨D, rfl, hmd⟩
      clear hmd hls HI
      go_wp2
      go_ret
      exact HZ.out
end Go.Proofs.Ytjbohidkjlnalaa
