/- Layer 6: the counts of symbols; lengths laid at their symbols. -/
import Derived.Test.YtjbohidkjlnalaaComing
namespace Go.Proofs.Ytjbohidkjlnalaa
open Go.RowKit

/-- The first j of a row that is filled by places. -/
def fillTo (m : Nat) (f : Nat → Nat) (j : Nat) : List Nat := (List.range m).map fun t => if t < j then f t else 0
theorem fillTo_zero (m : Nat) (f : Nat → Nat) : fillTo m f 0 = List.replicate m 0 := by
  apply List.ext_getElem <;> simp [fillTo]
theorem fillTo_put (m : Nat) (f : Nat → Nat) (j : Nat) : (fillTo m f j).set j (f j) = fillTo m f (j + 1) := by
  refine map_set _ _ _ _ _ ?_ fun t _ ht => ?_
  · simp
  · have : (t < j + 1) ↔ (t < j) := by omega
    simp only [this]
theorem fillTo_all (m : Nat) (f : Nat → Nat) : fillTo m f m = (List.range m).map f := map_same _ _ _ fun t ht => by simp [ht]
theorem fillTo_length (m : Nat) (f : Nat → Nat) (j : Nat) : (fillTo m f j).length = m := by simp [fillTo]
theorem map_ln (l : List Nat) (f : Nat → Nat) : (List.range l.length).map (fun t => f (ln l t)) = l.map f := by
  apply List.ext_getElem
  · simp
  · intro i h1 h2
    simp at h1
    simp [ln, h1]

def CountsPost (w : World) (l : List Nat) (e : Ending) (w' : World) : Prop := ∃ g, e = .returned (.slice (some ⟨g, 0, none⟩) l.length l.length) ∧ Made 3 w (some ⟨g, 0, none⟩) l.length l.length (ints l) w'
theorem Made.at {w wx : World} {g n cp : Nat} {l : List Nat} (h : Made 3 w (some ⟨g, 0, none⟩) n cp (ints l) wx) (j : Nat) (hj : j < l.length) : wx.cell? ⟨g, j, none⟩ = some (.int .i64 (ln l j : Nat)) ∧ wx.frozen? ⟨g, j, none⟩ = false := by
  obtain ⟨g', e, h1, h2⟩ := h.1.cell (ints_at l j hj)
  obtain rfl : g = g' := by simpa using e
  exact ⟨h1, h2⟩

set_option maxHeartbeats 2000000 in
theorem countsOf (A As : Option Addr) (n k m ks B Bs : Nat) (c ss : List Nat) (w : World) (h : See w B A (ints c)) (hs : See w Bs As (ints ss)) (hn : c.length = n) (hm : ss.length = m) (hss : ∀ x ∈ ss, x < n) (hm288 : m ≤ 288) :
    Calls Try.prog 20 #[.slice As m ks, .slice A n k] w (CountsPost w (ss.map (ln c))) := by
  have hmk := run_make_row Try.underlying22 info3 (by omega) m (by omega) w
  have HST : Hid (Made 3 w (some ⟨w.heap.size, 0, none⟩) m m (ints (fillTo m (fun t => ln c (ln ss t)) 0)) (w.alloc (.cells (List.replicate m (.int .i64 0)).toArray 3))) := Lib.hid (by
    rw [fillTo_zero, ← ints_zeros]
    exact zeros_made m (by omega))
  have HS := Lib.hid h
  have HSS := Lib.hid hs
  have HN := Lib.hid hn
  have HM := Lib.hid hm
  have HL := Lib.hid hss
  clear h hs hn hm hss
  obtain ⟨g, hg⟩ : ∃ g, w.heap.size = g := ⟨_, rfl⟩
  go_enter Try.func20, Try.ntmps20
  go_wp2_with fail
  rw [hg] at HST
  try rw [hg]
  clear hmk hg
  go_loopg [13] m (fun gk i wx => ∃ j : Nat, i = .int .i64 j ∧ j + gk ≤ m ∧ m ≤ j + gk ∧ Hid (Made 3 w (some ⟨g, 0, none⟩) m m (ints (fillTo m (fun t => ln c (ln ss t)) j)) wx))
  case atStart => exact ⟨0, rfl, by omega, by omega, HST⟩
  case round =>
    clear HST
    obtain ⟨j, rfl, hg1, hg2, HI⟩ := hrel
    by_cases hlt : j < m
    · obtain ⟨bs, os, rfl, _, hcs⟩ := (HSS.out.new HI.out.2.1) j _ (ints_at ss j (by rw [HM.out]; exact hlt))
      have hxn := HL.out _ (ln_mem ss j (by rw [HM.out]; exact hlt))
      obtain ⟨x, hx⟩ : ∃ x, ln ss j = x := ⟨_, rfl⟩
      have hput := fillTo_put m (fun t => ln c (ln ss t)) j
      rw [hx] at hcs hxn
      simp only [hx] at hput
      obtain ⟨b, off, rfl, _, hc⟩ := (HS.out.new HI.out.2.1) x _ (ints_at c x (by rw [HN.out]; exact hxn))
      obtain ⟨y, hy⟩ : ∃ y, ln c x = y := ⟨_, rfl⟩
      rw [hy] at hc hput
      obtain ⟨c1, c2⟩ := HI.out.at j (by rw [fillTo_length]; exact hlt)
      have HP : Hid (Made 3 w (some ⟨g, 0, none⟩) m m (ints (fillTo m (fun t => ln c (ln ss t)) (j + 1))) (wr.setCell ⟨g, j, none⟩ (.int .i64 (y : Int)))) := Lib.hid (by
        rw [← hput, ← ints_set]
        exact HI.out.setAt j _)
      clear hx hy hput HI
      go_wp2_with fail
      go_roundg (gk - 1)
      case measure => omega
      case rel => exact ⟨j + 1, by go_num, by omega, by omega, HP⟩
    · obtain rfl : j = m := by omega
      have h1 := HI.out
      rw [fillTo_all, ← HM.out, map_ln] at h1
      have H1 := Lib.hid h1
      clear h1 HI
      go_wp2
      go_ret
      have hl : (ss.map (ln c)).length = j := by simpa using HM.out
      have h2 := H1.out
      refine ⟨g, by rw [hl]; rfl, ?_⟩
      rw [hl]
      rw [HM.out] at h2
      exact h2

/-- Lengths, laid one by one. -/
def fit (n : Nat) (ss dp : List Nat) : Nat → List Nat
  | 0 => List.replicate n 0
  | j + 1 => (fit n ss dp j).set (ln ss j) (max (ln dp j) 1)
theorem fit_length (n : Nat) (ss dp : List Nat) (j : Nat) : (fit n ss dp j).length = n := by
  induction j with
  | zero => simp [fit]
  | succ j ih => simp [fit, ih]
set_option maxHeartbeats 2000000 in
theorem fitted (As Ad : Option Addr) (n m ks kd Bs Bd : Nat) (ss dp : List Nat) (w : World) (hs : See w Bs As (ints ss)) (hd : See w Bd Ad (ints dp)) (hm : ss.length = m) (hdm : dp.length = m) (hss : ∀ x ∈ ss, x < n) (h288 : n ≤ 288) (hm288 : m ≤ 288) :
    Calls Try.prog 18 #[.int .i64 n, .slice As m ks, .slice Ad m kd] w fun e w' => ∃ g, e = .returned (.slice (some ⟨g, 0, none⟩) n n) ∧ Made 3 w (some ⟨g, 0, none⟩) n n (ints (fit n ss dp m)) w' := by
  have hmk := run_make_row Try.underlying22 info3 (by omega) n (by omega) w
  have HST : Hid (Made 3 w (some ⟨w.heap.size, 0, none⟩) n n (ints (fit n ss dp 0)) (w.alloc (.cells (List.replicate n (.int .i64 0)).toArray 3))) := Lib.hid (by
    rw [fit, ← ints_zeros]
    exact zeros_made n (by omega))
  have HD := Lib.hid hd
  have HSS := Lib.hid hs
  have HM := Lib.hid hm
  have HDM := Lib.hid hdm
  have HL := Lib.hid hss
  clear hd hs hdm hm hss
  obtain ⟨g, hg⟩ : ∃ g, w.heap.size = g := ⟨_, rfl⟩
  go_enter Try.func18, Try.ntmps18
  go_wp2_with fail
  rw [hg] at HST
  try rw [hg]
  clear hmk hg
  go_loopg [14] m (fun gk i wx => ∃ j : Nat, i = .int .i64 j ∧ j + gk ≤ m ∧ m ≤ j + gk ∧ Hid (Made 3 w (some ⟨g, 0, none⟩) n n (ints (fit n ss dp j)) wx))
  case atStart => exact ⟨0, rfl, by omega, by omega, HST⟩
  case round =>
    clear HST
    obtain ⟨j, rfl, hg1, hg2, HI⟩ := hrel
    by_cases hlt : j < m
    · obtain ⟨bs, os, rfl, _, hcs⟩ := (HSS.out.new HI.out.2.1) j _ (ints_at ss j (by rw [HM.out]; exact hlt))
      obtain ⟨bd, od, rfl, _, hcd⟩ := (HD.out.new HI.out.2.1) j _ (ints_at dp j (by rw [HDM.out]; exact hlt))
      have hxn := HL.out _ (ln_mem ss j (by rw [HM.out]; exact hlt))
      have hput : (fit n ss dp j).set (ln ss j) (max (ln dp j) 1) = fit n ss dp (j + 1) := rfl
      obtain ⟨x, hx⟩ : ∃ x, ln ss j = x := ⟨_, rfl⟩
      obtain ⟨y, hy⟩ : ∃ y, ln dp j = y := ⟨_, rfl⟩
      rw [hx] at hcs hxn hput
      rw [hy] at hcd hput
      obtain ⟨c1, c2⟩ := HI.out.at x (by rw [fit_length]; exact hxn)
      obtain ⟨z, hz⟩ : ∃ z, max y 1 = z := ⟨_, rfl⟩
      have hzz : max (y : Int) 1 = (z : Int) := by omega
      rw [hz] at hput
      have HP : Hid (Made 3 w (some ⟨g, 0, none⟩) n n (ints (fit n ss dp (j + 1))) (wr.setCell ⟨g, x, none⟩ (.int .i64 (z : Int)))) := Lib.hid (by
        rw [← hput, ← ints_set]
        exact HI.out.setAt x _)
      clear hx hy hput HI hz
      go_wp2_with fail
      go_roundg (gk - 1)
      case measure => omega
      case rel => exact ⟨j + 1, by go_num, by omega, by omega, HP⟩
    · obtain rfl : j = m := by omega
      go_wp2
      go_ret
      exact ⟨g, rfl, HI.out⟩
end Go.Proofs.Ytjbohidkjlnalaa
