/- Layer 6: what is coming, and what is packed. -/
import Derived.Test.YtjlkjebmilfgoaaQSort
import Derived.Deep.DeepCutAuto
/- Layer 6: the symbols that come, in order; their counts; lengths laid at their symbols. -/
namespace Go.Proofs.Ytjlkjebmilfgoaa
open Go.RowKit

/-- The symbols that come. -/
def syms (c : List Nat) (k : Nat) : List Nat := (List.range k).filter fun s => decide (0 < ln c s)
theorem syms_succ (c : List Nat) (k : Nat) : syms c (k + 1) = if 0 < ln c k then syms c k ++ [k] else syms c k := by
  unfold syms
  rw [List.range_succ, List.filter_append]
  split
  · rename_i h; simp [h]
  · rename_i h; simp [h]
theorem syms_lt (c : List Nat) (k : Nat) : ∀ x ∈ syms c k, x < k := by
  intro x hx
  simp [syms] at hx
  exact hx.1
theorem syms_length (c : List Nat) (k : Nat) : (syms c k).length ≤ k := by
  refine Nat.le_trans (List.length_filter_le _ _) ?_
  simp
/-- make, with nothing in it yet. -/
theorem run_make_room {P : Program} {t e : TypeId} {z : Value} {sz B : Nat} (ht : P.underlying t = some (.slice e)) (hi : (P.info? e).map (fun i => (i.zero, i.size, i.bytes)) = some (some z, sz, B)) (k : Nat) (hk : B * k ≤ 281474976710656) (hk2 : k ≤ 1073741824) (w : World) :
    (Instr.makeSlice t (.int .i64 0) (.int .i64 k)).run P w = .ok (.slice (some ⟨w.heap.size, 0, none⟩) 0 k) (w.alloc (.cells (madeCells z.cells (k * sz)) e)) := by
  obtain ⟨i, hi, hz, hsz, hby⟩ := info_parts hi
  have h := run_make (P := P) w t e i z ht hi hz .i64 .i64 0 k (by omega) (by omega) (by rw [hby]; omega) (by omega)
  rw [Int.toNat_natCast, hsz] at h
  exact h

/-- The symbols that come, in their order. -/
def order6 (c : List Nat) : List Nat := canon c (syms c c.length)
theorem order6_perm (c : List Nat) : (order6 c).Perm (syms c c.length) := List.mergeSort_perm _ _
def ComingPost (w : World) (c : List Nat) (e : Ending) (w' : World) : Prop := ∃ A cap ss, e = .returned (.slice A ss.length cap) ∧ Only (fun _ => False) w w' ∧ ss = order6 c ∧ See w' w'.heap.size A (ints ss) ∧ Rise (ss.map (ln c))
theorem syms_inc (c : List Nat) (k : Nat) : (syms c k).Pairwise (fun a b => a < b) := List.Pairwise.filter _ List.pairwise_lt_range

theorem ints_snoc (l : List Nat) (x : Nat) : ints (l ++ [x]) = ints l ++ [.int .i64 (x : Nat)] := by simp [ints]
/-- A row with room, as make lays it. -/
theorem room_made {e : TypeId} {w : World} {z : Value} (k : Nat) (hk : k ≤ 1073741824) : Made e w (some ⟨w.heap.size, 0, none⟩) 0 k [] (w.alloc (.cells (madeCells #[z] k) e)) := by
  refine ⟨⟨rfl, .inr ⟨w.heap.size, _, (0, 0), rfl, heap_alloc_new w _, Nat.zero_le _, by unfold maxLen; omega, size_madeCells _ _, by simp, fun i _ => by simp⟩⟩, (Only.refl _ w).alloc _, ?_⟩
  rintro j ⟨ad, e1, rfl⟩
  obtain rfl := Option.some.inj e1
  exact Nat.le_refl _
/-- One number more. -/
theorem Made.snoc {w wx wy : World} {g n c c' : Nat} {A' : Option Addr} {l : List Nat} {x : Nat} {o : Obj} (h : Made 3 w (some ⟨g, 0, none⟩) n c (ints l) wx) (hr : Row 3 wy A' (n + 1) c' (ints l ++ [.int .i64 (x : Nat)])) (ho : Only (Lies (some ⟨g, 0, none⟩)) (wx.alloc o) wy)
    (ha : A' = some ⟨g, 0, none⟩ ∨ A' = some ⟨(wx.alloc o).heap.size, 0, none⟩) : ∃ g', A' = some ⟨g', 0, none⟩ ∧ Made 3 w (some ⟨g', 0, none⟩) (n + 1) c' (ints (l ++ [x])) wy := by
  have h1 := h.append hr ho ha
  rw [← ints_snoc] at h1
  rcases ha with e | e
  · exact ⟨_, e, e ▸ h1⟩
  · exact ⟨_, e, e ▸ h1⟩

set_option maxHeartbeats 2000000 in
theorem coming (A : Option Addr) (n k B : Nat) (c : List Nat) (w : World) (h : See w B A (ints c)) (hB : B ≤ w.heap.size) (hn : c.length = n) (h288 : n ≤ 288) :
    Calls Try.prog 67 #[.slice A n k] w (ComingPost w c) := by
  have hmk := run_make_room Try.underlying53 info3 n (by omega) (by omega) (w.alloc (.cells #[.slice A n k] 53))
  have HW1 : Hid (Is (w.alloc (.cells #[.slice A n k] 53)) w.heap.size 53 [.slice A n k]) := Lib.hid (Is.new w 53 _)
  have HO1 : Hid (Only (fun _ => False) w (w.alloc (.cells #[.slice A n k] 53))) := Lib.hid ((Only.refl _ w).alloc _)
  have hz1 : (w.alloc (.cells #[.slice A n k] 53)).heap.size = w.heap.size + 1 := by simp
  obtain ⟨q, hq⟩ : ∃ q, w.heap.size = q := ⟨_, rfl⟩
  go_enter Try.func67, Try.ntmps67
  go_wp2_with fail
  rw [hq] at HW1 hB hz1
  try rw [hq]
  obtain ⟨w1, hw1⟩ : ∃ w1, w.alloc (.cells #[.slice A n k] 53) = w1 := ⟨_, rfl⟩
  rw [hw1] at HW1 HO1 hz1 ⊢
  have HST : Hid (Made 3 w1 (some ⟨q + 1, 0, none⟩) 0 n (ints (syms c 0)) (w1.alloc (.cells (madeCells #[.int .i64 0] n) 3))) := Lib.hid (by
    rw [← hz1]
    exact room_made n (by omega))
  have HS : Hid (∀ wx, Only (fun _ => False) w1 wx → See wx B A (ints c)) := Lib.hid fun wx ho => h.new (HO1.out.trans ho)
  have HN := Lib.hid hn
  have HQ : Hid (∀ wx, Only (fun _ => False) w1 wx → wx.cell? ⟨q, 0, none⟩ = some (.slice A n k)) := Lib.hid fun wx ho => (HW1.out.only ho id).cell 0 rfl
  have HQL : Hid (w1.heap.size = q + 1) := Lib.hid hz1
  clear hmk hw1 h hz1 hn HW1
  go_loopg [3, 11] n (fun gk v3 i wx => ∃ j m cp g : Nat, i = .int .i64 j ∧ v3 = .slice (some ⟨g, 0, none⟩) m cp ∧ j + gk ≤ n ∧ n ≤ j + gk ∧ m ≤ j ∧ Hid (Made 3 w1 (some ⟨g, 0, none⟩) m cp (ints (syms c j)) wx))
  case atStart => exact ⟨0, 0, n, q + 1, rfl, rfl, by omega, by omega, by omega, HST⟩
  case round =>
    clear HST
    obtain ⟨j, m, cp, g, rfl, rfl, hg, hg2, hmj, HI⟩ := hrel
    by_cases hlt : j < n
    · obtain ⟨b, off, rfl, _, hc⟩ := HS.out wr HI.out.2.1 j _ (ints_at c j (by rw [HN.out]; exact hlt))
      have hss := syms_succ c j
      obtain ⟨x, hx⟩ : ∃ x, ln c j = x := ⟨_, rfl⟩
      rw [hx] at hc hss
      clear hx
      by_cases h0 : 0 < x
      · rw [if_pos h0] at hss
        have HSS := Lib.hid hss
        clear hss
        go_wp2_with (at_builtin
                     refine wpList_append_row rfl (.tmp 18) (.tmp 20) 53 53 3 rfl Try.underlying53 info3 (some ⟨g, 0, none⟩) m cp 1 (ints (syms c j)) [.int .i64 (j : Int)] (.slice (some ⟨wr.heap.size, 0, none⟩) 1 1) rfl rfl (HI.out.1.alloc _) rfl (Src.oneInt Try.underlying53 wr .i64 (j : Int) 1 3) (by omega) (by omega) ?_
                     intro A9 c9 w9 hrow9 honly9 hlies9
                     have H9 := Lib.hid (HI.out.snoc hrow9 honly9 hlies9)
                     clear hrow9 honly9 hlies9)
        obtain ⟨g9, h91, h92⟩ := H9.out
        rw [← HSS.out] at h92
        have H92 := Lib.hid h92
        subst h91
        clear H9 h92
        go_roundg (gk - 1)
        case measure => omega
        case rel => exact ⟨j + 1, m + 1, c9, g9, by go_num, rfl, by omega, by omega, by omega, H92⟩
      · obtain rfl : x = 0 := by omega
        rw [if_neg h0] at hss
        rw [← hss] at HI
        clear hss
        go_wp2_with fail
        go_roundg (gk - 1)
        case measure => omega
        case rel => exact ⟨j + 1, m, cp, g, by go_num, rfl, by omega, by omega, by omega, HI⟩
    · obtain rfl : j = n := by omega
      have hlen : (syms c j).length = m := by have := HI.out.1.len; rw [ints_length] at this; exact this
      have HC : Hid (Calls Try.prog 82 #[.slice (some ⟨g, 0, none⟩) m cp, .func (.func 83) #[] #[.pointer (some ⟨q, 0, none⟩)]] wr fun e w' => e = .returned (.tuple #[]) ∧ ComingPost w c (.returned (.slice (some ⟨g, 0, none⟩) m cp)) w') := Lib.hid (by
        have hgq : q + 1 ≤ g := by rw [← HQL.out]; exact HI.out.2.2 g ⟨_, rfl, rfl⟩
        by_cases hj0 : 0 < j
        · refine (sorted c (syms c j) A j k q B g cp m wr (HS.out wr HI.out.2.1) (by omega) HN.out hj0 (HQ.out wr HI.out.2.1) (by omega) HI.out.1 (syms_lt c j) (syms_inc c j) (by omega)).mono ?_
          rintro e w' ⟨rfl, ho, ss, h1, h2, h3, h4⟩
          refine ⟨rfl, _, cp, ss, by rw [h2], (HO1.out.trans HI.out.2.1).andThen ho (fun i hi => .inr ?_), (by unfold order6; rw [HN.out]; exact canon_eq h1 h4), h3, By.rise h4⟩
          rw [hi]
          have := HO1.out.size
          have := HQL.out
          omega
        · obtain rfl : j = 0 := by omega
          obtain rfl : m = 0 := by omega
          refine (sortNone (some ⟨g, 0, none⟩) cp (.func (.func 83) #[] #[.pointer (some ⟨q, 0, none⟩)]) wr).mono ?_
          rintro e w' ⟨rfl, rfl⟩
          refine ⟨rfl, _, cp, [], rfl, HO1.out.trans HI.out.2.1, ?_, fun i v hv => by simp [ints] at hv, List.Pairwise.nil⟩
          unfold order6
          exact (canon_eq (by rw [HN.out]; exact List.Perm.refl _) List.Pairwise.nil))
      clear HI HS HQ HQL
      go_wp2_with fail
      refine HC.out.mono ?_
      rintro e w2 ⟨rfl, h2⟩
      have H2 := Lib.hid h2
      clear h2 HC
      go_wp2
      go_ret
      exact H2.out
end Go.Proofs.Ytjlkjebmilfgoaa

/- Layer 6: the counts of symbols; lengths laid at their symbols. -/
namespace Go.Proofs.Ytjlkjebmilfgoaa
open Go.RowKit

/-- The first j of a row that is filled by places. -/
def fillTo (m : Nat) (f : Nat → Nat) (j : Nat) : List Nat := (List.range m).map fun t => if t < j then f t else 0
theorem fillTo_zero (m : Nat) (f : Nat → Nat) : fillTo m f 0 = List.replicate m 0 := by
  apply List.ext_getElem <;> simp [fillTo]
theorem fillTo_put (m : Nat) (f : Nat → Nat) (j : Nat) : (fillTo m f j).set j (f j) = fillTo m f (j + 1) := by
  refine map_set _ _ _ _ _ ?_ fun t _ ht => ?_
  · simp
  · have : (t < j + 1) ↔ (t < j) := by omega
    simp only [this]
theorem fillTo_all (m : Nat) (f : Nat → Nat) : fillTo m f m = (List.range m).map f := map_same _ _ _ fun t ht => by simp [ht]
theorem fillTo_length (m : Nat) (f : Nat → Nat) (j : Nat) : (fillTo m f j).length = m := by simp [fillTo]
theorem map_ln (l : List Nat) (f : Nat → Nat) : (List.range l.length).map (fun t => f (ln l t)) = l.map f := by
  apply List.ext_getElem
  · simp
  · intro i h1 h2
    simp at h1
    simp [ln, h1]

def CountsPost (w : World) (l : List Nat) (e : Ending) (w' : World) : Prop := ∃ g, e = .returned (.slice (some ⟨g, 0, none⟩) l.length l.length) ∧ Made 3 w (some ⟨g, 0, none⟩) l.length l.length (ints l) w'
theorem Made.at {w wx : World} {g n cp : Nat} {l : List Nat} (h : Made 3 w (some ⟨g, 0, none⟩) n cp (ints l) wx) (j : Nat) (hj : j < l.length) : wx.cell? ⟨g, j, none⟩ = some (.int .i64 (ln l j : Nat)) ∧ wx.frozen? ⟨g, j, none⟩ = false := by
  obtain ⟨g', e, h1, h2⟩ := h.1.cell (ints_at l j hj)
  obtain rfl : g = g' := by simpa using e
  exact ⟨h1, h2⟩

set_option maxHeartbeats 2000000 in
theorem countsOf (A As : Option Addr) (n k m ks B Bs : Nat) (c ss : List Nat) (w : World) (h : See w B A (ints c)) (hs : See w Bs As (ints ss)) (hn : c.length = n) (hm : ss.length = m) (hss : ∀ x ∈ ss, x < n) (hm288 : m ≤ 288) :
    Calls Try.prog 70 #[.slice As m ks, .slice A n k] w (CountsPost w (ss.map (ln c))) := by
  have hmk := run_make_row Try.underlying53 info3 (by omega) m (by omega) w
  have HST : Hid (Made 3 w (some ⟨w.heap.size, 0, none⟩) m m (ints (fillTo m (fun t => ln c (ln ss t)) 0)) (w.alloc (.cells (List.replicate m (.int .i64 0)).toArray 3))) := Lib.hid (by
    rw [fillTo_zero, ← ints_zeros]
    exact zeros_made m (by omega))
  have HS := Lib.hid h
  have HSS := Lib.hid hs
  have HN := Lib.hid hn
  have HM := Lib.hid hm
  have HL := Lib.hid hss
  clear h hs hn hm hss
  obtain ⟨g, hg⟩ : ∃ g, w.heap.size = g := ⟨_, rfl⟩
  go_enter Try.func70, Try.ntmps70
  go_wp2_with fail
  rw [hg] at HST
  try rw [hg]
  clear hmk hg
  go_loopg [13] m (fun gk i wx => ∃ j : Nat, i = .int .i64 j ∧ j + gk ≤ m ∧ m ≤ j + gk ∧ Hid (Made 3 w (some ⟨g, 0, none⟩) m m (ints (fillTo m (fun t => ln c (ln ss t)) j)) wx))
  case atStart => exact ⟨0, rfl, by omega, by omega, HST⟩
  case round =>
    clear HST
    obtain ⟨j, rfl, hg1, hg2, HI⟩ := hrel
    by_cases hlt : j < m
    · obtain ⟨bs, os, rfl, _, hcs⟩ := (HSS.out.new HI.out.2.1) j _ (ints_at ss j (by rw [HM.out]; exact hlt))
      have hxn := HL.out _ (ln_mem ss j (by rw [HM.out]; exact hlt))
      obtain ⟨x, hx⟩ : ∃ x, ln ss j = x := ⟨_, rfl⟩
      have hput := fillTo_put m (fun t => ln c (ln ss t)) j
      rw [hx] at hcs hxn
      simp only [hx] at hput
      obtain ⟨b, off, rfl, _, hc⟩ := (HS.out.new HI.out.2.1) x _ (ints_at c x (by rw [HN.out]; exact hxn))
      obtain ⟨y, hy⟩ : ∃ y, ln c x = y := ⟨_, rfl⟩
      rw [hy] at hc hput
      obtain ⟨c1, c2⟩ := HI.out.at j (by rw [fillTo_length]; exact hlt)
      have HP : Hid (Made 3 w (some ⟨g, 0, none⟩) m m (ints (fillTo m (fun t => ln c (ln ss t)) (j + 1))) (wr.setCell ⟨g, j, none⟩ (.int .i64 (y : Int)))) := Lib.hid (by
        rw [← hput, ← ints_set]
        exact HI.out.setAt j _)
      clear hx hy hput HI
      go_wp2_with fail
      go_roundg (gk - 1)
      case measure => omega
      case rel => exact ⟨j + 1, by go_num, by omega, by omega, HP⟩
    · obtain rfl : j = m := by omega
      have h1 := HI.out
      rw [fillTo_all, ← HM.out, map_ln] at h1
      have H1 := Lib.hid h1
      clear h1 HI
      go_wp2
      go_ret
      have hl : (ss.map (ln c)).length = j := by simpa using HM.out
      have h2 := H1.out
      refine ⟨g, by rw [hl]; rfl, ?_⟩
      rw [hl]
      rw [HM.out] at h2
      exact h2

/-- Lengths, laid one by one. -/
def fit (n : Nat) (ss dp : List Nat) : Nat → List Nat
  | 0 => List.replicate n 0
  | j + 1 => (fit n ss dp j).set (ln ss j) (max (ln dp j) 1)
theorem fit_length (n : Nat) (ss dp : List Nat) (j : Nat) : (fit n ss dp j).length = n := by
  induction j with
  | zero => simp [fit]
  | succ j ih => simp [fit, ih]
set_option maxHeartbeats 2000000 in
theorem fitted (As Ad : Option Addr) (n m ks kd Bs Bd : Nat) (ss dp : List Nat) (w : World) (hs : See w Bs As (ints ss)) (hd : See w Bd Ad (ints dp)) (hm : ss.length = m) (hdm : dp.length = m) (hss : ∀ x ∈ ss, x < n) (h288 : n ≤ 288) (hm288 : m ≤ 288) :
    Calls Try.prog 68 #[.int .i64 n, .slice As m ks, .slice Ad m kd] w fun e w' => ∃ g, e = .returned (.slice (some ⟨g, 0, none⟩) n n) ∧ Made 3 w (some ⟨g, 0, none⟩) n n (ints (fit n ss dp m)) w' := by
  have hmk := run_make_row Try.underlying53 info3 (by omega) n (by omega) w
  have HST : Hid (Made 3 w (some ⟨w.heap.size, 0, none⟩) n n (ints (fit n ss dp 0)) (w.alloc (.cells (List.replicate n (.int .i64 0)).toArray 3))) := Lib.hid (by
    rw [fit, ← ints_zeros]
    exact zeros_made n (by omega))
  have HD := Lib.hid hd
  have HSS := Lib.hid hs
  have HM := Lib.hid hm
  have HDM := Lib.hid hdm
  have HL := Lib.hid hss
  clear hd hs hdm hm hss
  obtain ⟨g, hg⟩ : ∃ g, w.heap.size = g := ⟨_, rfl⟩
  go_enter Try.func68, Try.ntmps68
  go_wp2_with fail
  rw [hg] at HST
  try rw [hg]
  clear hmk hg
  go_loopg [14] m (fun gk i wx => ∃ j : Nat, i = .int .i64 j ∧ j + gk ≤ m ∧ m ≤ j + gk ∧ Hid (Made 3 w (some ⟨g, 0, none⟩) n n (ints (fit n ss dp j)) wx))
  case atStart => exact ⟨0, rfl, by omega, by omega, HST⟩
  case round =>
    clear HST
    obtain ⟨j, rfl, hg1, hg2, HI⟩ := hrel
    by_cases hlt : j < m
    · obtain ⟨bs, os, rfl, _, hcs⟩ := (HSS.out.new HI.out.2.1) j _ (ints_at ss j (by rw [HM.out]; exact hlt))
      obtain ⟨bd, od, rfl, _, hcd⟩ := (HD.out.new HI.out.2.1) j _ (ints_at dp j (by rw [HDM.out]; exact hlt))
      have hxn := HL.out _ (ln_mem ss j (by rw [HM.out]; exact hlt))
      have hput : (fit n ss dp j).set (ln ss j) (max (ln dp j) 1) = fit n ss dp (j + 1) := rfl
      obtain ⟨x, hx⟩ : ∃ x, ln ss j = x := ⟨_, rfl⟩
      obtain ⟨y, hy⟩ : ∃ y, ln dp j = y := ⟨_, rfl⟩
      rw [hx] at hcs hxn hput
      rw [hy] at hcd hput
      obtain ⟨c1, c2⟩ := HI.out.at x (by rw [fit_length]; exact hxn)
      obtain ⟨z, hz⟩ : ∃ z, max y 1 = z := ⟨_, rfl⟩
      have hzz : max (y : Int) 1 = (z : Int) := by omega
      rw [hz] at hput
      have HP : Hid (Made 3 w (some ⟨g, 0, none⟩) n n (ints (fit n ss dp (j + 1))) (wr.setCell ⟨g, x, none⟩ (.int .i64 (z : Int)))) := Lib.hid (by
        rw [← hput, ← ints_set]
        exact HI.out.setAt x _)
      clear hx hy hput HI hz
      go_wp2_with fail
      go_roundg (gk - 1)
      case measure => omega
      case rel => exact ⟨j + 1, by go_num, by omega, by omega, HP⟩
    · obtain rfl : j = m := by omega
      go_wp2
      go_ret
      exact ⟨g, rfl, HI.out⟩
end Go.Proofs.Ytjlkjebmilfgoaa

/- Layer 6: leaves and pairs woven into one row, in the program. -/
namespace Go.Proofs.Ytjlkjebmilfgoaa
open Go.RowKit

/-- A row of the call's own that has room: c places of sz cells, the first n of them vs. -/
def Buf (e : TypeId) (sz : Nat) (w : World) (g n c : Nat) (vs : List Value) : Prop := vs.length = n * sz ∧ n ≤ c ∧ ∃ cur, w.heap[g]? = some (.cells cur e (0, 0)) ∧ cur.size = c * sz ∧ cur.toList.take (n * sz) = vs
section
variable {S : Nat → Prop} {e : TypeId} {sz : Nat} {w w' : World} {g n c : Nat} {vs : List Value}
theorem Buf.lt (h : Buf e sz w g n c vs) : g < w.heap.size := by obtain ⟨_, _, cur, h1, _⟩ := h; exact block_lt h1
theorem Buf.only (h : Buf e sz w g n c vs) (k : Only S w w') (hg : ¬ S g) : Buf e sz w' g n c vs := by
  obtain ⟨h1, h2, cur, h3, h4⟩ := h
  exact ⟨h1, h2, cur, (k.block g (block_lt h3) hg).trans h3, h4⟩
theorem Buf.alloc (h : Buf e sz w g n c vs) (o : Obj) : Buf e sz (w.alloc o) g n c vs := h.only ((Only.refl (fun _ => False) w).alloc o) fun f => f
theorem Buf.cell (h : Buf e sz w g n c vs) {i : Nat} {v : Value} (hi : vs[i]? = some v) : w.cell? ⟨g, i, none⟩ = some v := by
  obtain ⟨h1, h2, cur, h3, h4, h5⟩ := h
  have h8 := congrArg (·[i]?) h5
  simp only [hi] at h8
  have hl : i < n * sz := by
    rw [← h1]
    rcases Nat.lt_or_ge i vs.length with hh | hh
    · exact hh
    · rw [List.getElem?_eq_none hh] at hi; cases hi
  simp only [List.getElem?_take, if_pos hl] at h8
  simpa [World.cell?, h3] using h8
theorem Buf.see (h : Buf e sz w g n c vs) : See w w.heap.size (some ⟨g, 0, none⟩) vs := fun i v hv => ⟨g, 0, rfl, h.lt, by rw [Nat.zero_add]; exact h.cell hv⟩
theorem Buf.made {z : Value} (c : Nat) : Buf e sz (w.alloc (.cells (madeCells z.cells (c * sz)) e)) w.heap.size 0 c [] :=
  ⟨by simp, Nat.zero_le _, _, heap_alloc_new w _, size_madeCells _ _, by simp⟩
end
/-- append where there is room. -/
theorem wpList_append_buf {P : Program} {sz : Nat} {w : World} {ops : Array Oper} {rest : List Oper} {o : Oper} {a : Act} {Q : Exit → Act → World → Prop} (hgd : o.guard = none) (s x : Operand) (t tx e : TypeId)
    (ho : o.op = .call { callee := .builtin .append, args := #[s, x], argTypes := #[t, tx] }) (ht : P.underlying t = some (.slice e))
    (hi : (P.info? e).map (·.size) = some sz) (g n c : Nat) (l r : List Value) (y : Value) (hsv : a.eval s = .slice (some ⟨g, 0, none⟩) n c) (hxv : a.eval x = y)
    (h : Buf e sz w g n c l) (hs : Src P sz tx y 1 r w) (hc : n < c) (hk : ∀ w', Buf e sz w' g (n + 1) c (l ++ r) → Only (fun j => j = g) w w' → wpList P ops Q rest (a.put o.dst (.slice (some ⟨g, 0, none⟩) (n + 1) c)) w') :
    wpList P ops Q (o :: rest) a w := by
  refine wpList_plain hgd fun K hK => ?_
  obtain ⟨i, hi, hsz⟩ : ∃ i, P.info? e = some i ∧ i.size = sz := by
    cases hh : P.info? e with
    | none => rw [hh] at hi; cases hi
    | some i => rw [hh] at hi; exact ⟨i, rfl, by simpa using hi⟩
  obtain ⟨h1, h2, cur, h3, h4, h5⟩ := h
  have hrl : r.length = sz := by have := hs.newsLen; omega
  have e1 : (n + 1) * sz = n * sz + sz := by rw [Nat.add_mul, Nat.one_mul]
  have e2 : (n + 1) * sz ≤ c * sz := Nat.mul_le_mul_right _ hc
  have hrun := run_append_room_src (P := P) w t tx o.type e i ht hi g 0 n c y 1 r (by rw [hsz]; exact hs) hc
    (by intro j hj; simp only [hsz, World.cell?, h3]; simp; omega)
    (by intro j hj; simp [World.frozen?, h3])
  rw [hsz, Nat.zero_add] at hrun
  obtain ⟨cur', k1, k2, k3⟩ := setCells_heap g e (0, 0) r (n * sz) w cur h3 (by omega)
  unfold Oper.wp execOp
  simp only [ho, resolve, invoke, builtin, Sem.run_bind, Sem.run_pure, Result.andThen_ok, List.map_toArray, List.map_cons, List.map_nil, hsv, hxv, hrun]
  refine hK _ _ (hk _ ⟨by rw [List.length_append, h1, hrl, e1], hc, cur', k1, by rw [k2, h4], ?_⟩ (setCells_only g r _ w))
  rw [hrl] at k3
  rw [e1, k3, h5]

/-- Items as cells. -/
def its (R : List (Nat × Bool)) : List Value := R.flatMap fun x => [.int .i64 (x.1 : Nat), .bool x.2]
theorem its_length (R : List (Nat × Bool)) : (its R).length = R.length * 2 := by
  induction R with
  | nil => rfl
  | cons x r ih => simp [its] at ih ⊢; omega
theorem its_snoc (R : List (Nat × Bool)) (x : Nat × Bool) : its (R ++ [x]) = its R ++ [.int .i64 (x.1 : Nat), .bool x.2] := by simp [its]
theorem its_at : ∀ (R : List (Nat × Bool)) (i : Nat) (x : Nat × Bool), R[i]? = some x → (its R)[2 * i]? = some (.int .i64 (x.1 : Nat)) ∧ (its R)[2 * i + 1]? = some (.bool x.2)
  | [], _, _, h => by simp at h
  | y :: r, 0, x, h => by
    obtain rfl : y = x := by simpa using h
    simp [its]
  | y :: r, i + 1, x, h => by
    have := its_at r i x (by simpa using h)
    rw [show 2 * (i + 1) = 2 * i + 2 from by omega]
    simpa [its] using this
theorem Src.oneItem (w : World) (x : Nat) (b : Bool) (c : Nat) (t : TypeId) : Src Try.prog 2 130 (.slice (some ⟨w.heap.size, 0, none⟩) 1 c) 1 [.int .i64 (x : Nat), .bool b] (w.alloc (.cells #[.int .i64 (x : Nat), .bool b] t)) := by
  refine Src.ofSlice _ Try.underlying130 _ 1 c _ rfl (fun j u hu => ?_) (by simp [Value.oneCell'])
  have h := Is.new w t [.int .i64 (x : Nat), .bool b]
  rw [Addr.add_lit, Nat.zero_add]
  exact h.cell j hu
theorem info56 : (Try.prog.info? 137).map (fun i => (i.zero, i.size, i.bytes)) = some (some (.agg #[.int .i64 0, .bool false]), 2, 16) := by kernel_rfl
theorem size56 : (Try.prog.info? 137).map (·.size) = some 2 := by kernel_rfl
theorem size47 : (Try.prog.info? 130).map (·.size) = some 1 := by kernel_rfl

theorem mrgF_left (a b : List Nat) (i p : Nat) (hi : i < a.length) (h : p < b.length → ln a i ≤ ln b p) : mrgF (a.drop i) (b.drop p) = (ln a i, true) :: mrgF (a.drop (i + 1)) (b.drop p) := by
  have e1 : a.drop i = ln a i :: a.drop (i + 1) := by rw [List.drop_eq_getElem_cons hi]; simp [ln, hi]
  rw [e1]
  rcases Nat.lt_or_ge p b.length with hp | hp
  · have e2 : b.drop p = ln b p :: b.drop (p + 1) := by rw [List.drop_eq_getElem_cons hp]; simp [ln, hp]
    rw [e2]
    unfold mrgF
    simp only [List.map_cons]
    rw [List.cons_merge_cons, if_pos (by simpa using h hp)]
  · rw [List.drop_eq_nil_of_le hp, mrgF_nil, mrgF_nil]
    simp
theorem mrgF_right (a b : List Nat) (i p : Nat) (hp : p < b.length) (h : i < a.length → ln b p < ln a i) : mrgF (a.drop i) (b.drop p) = (ln b p, false) :: mrgF (a.drop i) (b.drop (p + 1)) := by
  have e2 : b.drop p = ln b p :: b.drop (p + 1) := by rw [List.drop_eq_getElem_cons hp]; simp [ln, hp]
  rw [e2]
  rcases Nat.lt_or_ge i a.length with hi | hi
  · have e1 : a.drop i = ln a i :: a.drop (i + 1) := by rw [List.drop_eq_getElem_cons hi]; simp [ln, hi]
    rw [e1]
    unfold mrgF
    simp only [List.map_cons]
    rw [List.cons_merge_cons, if_neg (by have := h hi; simp; omega)]
  · rw [List.drop_eq_nil_of_le hi]
    unfold mrgF
    simp

/-- Where weaving stands: i leaves and p pairs are laid. -/
def WeaveAt (w : World) (a b : List Nat) (g i p c : Nat) (wx : World) : Prop := ∃ R, R.length = i + p ∧ R ++ mrgF (a.drop i) (b.drop p) = mrgF a b ∧ Buf 137 2 wx g (i + p) c (its R) ∧ Only (fun _ => False) w wx
theorem WeaveAt.parts {w wx : World} {a b : List Nat} {g i p i' p' c x : Nat} {f : Bool} (hm : mrgF (a.drop i) (b.drop p) = (x, f) :: mrgF (a.drop i') (b.drop p')) (hi : i' + p' = i + p + 1) (hg : w.heap.size ≤ g) (h : WeaveAt w a b g i p c wx) :
    ∃ l, Buf 137 2 (wx.alloc (.cells #[.int .i64 (x : Nat), .bool f] 137)) g (i + p) c l ∧ ∀ wz, Buf 137 2 wz g (i + p + 1) c (l ++ [.int .i64 (x : Nat), .bool f]) → Only (fun j => j = g) (wx.alloc (.cells #[.int .i64 (x : Nat), .bool f] 137)) wz → WeaveAt w a b g i' p' c wz := by
  obtain ⟨R, h1, h2, h3, h4⟩ := h
  refine ⟨its R, h3.alloc _, fun wz hb ho => ⟨R ++ [(x, f)], by rw [List.length_append, h1, hi]; rfl, ?_, ?_, (h4.alloc _).andThen ho fun j hj => .inr (hj ▸ hg)⟩⟩
  · rw [List.append_assoc, ← h2, hm]
    rfl
  · rw [hi, its_snoc]
    exact hb
theorem WeaveAt.new {w wx : World} {a b : List Nat} {g i p c : Nat} (h : WeaveAt w a b g i p c wx) : Only (fun _ => False) w wx := by obtain ⟨_, _, _, _, h4⟩ := h; exact h4

theorem See.tail {w : World} {B b0 off p : Nat} {l : List Nat} (h : See w B (some ⟨b0, off, none⟩) (ints (l.drop p))) (k : Nat) : See w B (some ⟨b0, off + k, none⟩) (ints (l.drop (p + k))) := by
  intro i v hv
  have e : (ints (l.drop p))[i + k]? = some v := by
    rw [← hv]
    simp only [ints, List.getElem?_map, List.getElem?_drop]
    rw [show p + (i + k) = p + k + i from by omega]
  obtain ⟨b1, o1, e1, e2, e3⟩ := h (i + k) v e
  simp only [Option.some.injEq, Addr.mk.injEq, and_true] at e1
  obtain ⟨rfl, rfl⟩ := e1
  exact ⟨_, _, rfl, e2, by rw [show off + k + i = off + (i + k) from by omega]; exact e3⟩
theorem See.empty {w : World} {B p : Nat} {A : Option Addr} {l : List Nat} (h : l.length ≤ p) : See w B A (ints (l.drop p)) := by
  rw [List.drop_eq_nil_of_le h]
  intro i v hv
  simp [ints] at hv
def WovenPost (w : World) (R : List (Nat × Bool)) (n : Nat) (e : Ending) (w' : World) : Prop := ∃ g, w.heap.size ≤ g ∧ e = .returned (.slice (some ⟨g, 0, none⟩) n n) ∧ See w' w'.heap.size (some ⟨g, 0, none⟩) (its R) ∧ Only (fun _ => False) w w'

set_option maxHeartbeats 4000000 in
theorem woven (A Aj : Option Addr) (n k m kj B Bj : Nat) (a b : List Nat) (w : World) (h : See w B A (ints a)) (hj : See w Bj Aj (ints b)) (hn : a.length = n) (hm : b.length = m) (hk : m ≤ kj) (hkj : kj ≤ 1000) (hn288 : n ≤ 288) :
    Calls Try.prog 93 #[.slice A n k, .slice Aj m kj] w (WovenPost w (mrgF a b) (n + m)) := by
  obtain ⟨t, ht⟩ : ∃ t, n + m = t := ⟨_, rfl⟩
  have et : (n : Int) + (m : Int) = (t : Int) := by omega
  have hmk := run_make_room Try.underlying130 info56 t (by omega) (by omega) w
  have HST : Hid (WeaveAt w a b w.heap.size 0 0 t (w.alloc (.cells (madeCells #[.int .i64 0, .bool false] (t * 2)) 137))) := Lib.hid ⟨[], rfl, rfl, Buf.made (z := .agg #[.int .i64 0, .bool false]) t, (Only.refl _ w).alloc _⟩
  have HS := Lib.hid h
  have HJ := Lib.hid hj
  have HN := Lib.hid hn
  have HM := Lib.hid hm
  clear h hj hn hm
  rw [ht]
  obtain ⟨g, hg⟩ : ∃ g, w.heap.size = g := ⟨_, rfl⟩
  go_enter Try.func93, Try.ntmps93
  go_wp2_with fail
  rw [hg] at HST
  try rw [hg]
  have HG : Hid (w.heap.size ≤ g) := Lib.hid (by omega)
  clear hmk hg
  go_loopg [1, 5, 18] n (fun gk v1 v5 i wx => ∃ (j p r s q : Nat) (Ap : Option Addr), i = .int .i64 j ∧ v1 = .slice Ap r s ∧ v5 = .slice (some ⟨g, 0, none⟩) q t ∧ j + gk ≤ n ∧ n ≤ j + gk ∧ p + r = m ∧ p + s = kj ∧ j + p = q ∧ Hid (See w Bj Ap (ints (b.drop p))) ∧ Hid (WeaveAt w a b g j p t wx))
  case atStart => exact ⟨0, 0, m, kj, 0, Aj, rfl, rfl, rfl, by omega, by omega, by omega, by omega, by omega, HJ, HST⟩
  case round =>
    clear HST HJ
    obtain ⟨j, p, r, s, q, Ap, rfl, rfl, rfl, hg1, hg2, hpm, hps, hq, HP, HI⟩ := hrel
    obtain ⟨gO, hgO⟩ : ∃ gO, gk = gO := ⟨_, rfl⟩
    by_cases hlt : j < n
    · obtain ⟨b0, off, rfl, _, hc⟩ := (HS.out.new HI.out.new) j _ (ints_at a j (by rw [HN.out]; exact hlt))
      obtain ⟨x, hx⟩ : ∃ x, ln a j = x := ⟨_, rfl⟩
      rw [hx] at hc
      have HX := Lib.hid hx
      clear hx
      go_wp2_with fail
      go_loopg [1, 5] r (fun gk v1 v5 wx => ∃ (p r s q : Nat) (Ap : Option Addr), v1 = .slice Ap r s ∧ v5 = .slice (some ⟨g, 0, none⟩) q t ∧ r ≤ gk ∧ p + r = m ∧ p + s = kj ∧ j + p = q ∧ Hid (See w Bj Ap (ints (b.drop p))) ∧ Hid (WeaveAt w a b g j p t wx))
      case atStart => exact ⟨p, r, s, q, Ap, rfl, rfl, by omega, by omega, by omega, by omega, HP, HI⟩
      case round =>
        clear HP HI hpm hps hq
        clear p r s q
        obtain ⟨p, r, s, q, Ap, rfl, rfl, hgp, hpm, hps, hq, HP, HI⟩ := hrel
        by_cases hpl : 0 < r
        · have hdl : 0 < (b.drop p).length := by rw [List.length_drop, HM.out]; omega
          obtain ⟨b1, off1, rfl, hb1, hcj⟩ := (HP.out.new HI.out.new) 0 _ (ints_at (b.drop p) 0 hdl)
          have e3 : ln (b.drop p) 0 = ln b p := by simp [ln]
          rw [e3, Nat.add_zero] at hcj
          obtain ⟨y, hy⟩ : ∃ y, ln b p = y := ⟨_, rfl⟩
          rw [hy] at hcj
          have HY := Lib.hid hy
          have h0m : (0 : Int) < (r : Int) := by omega
          obtain ⟨r', hr'⟩ : ∃ r', r' + 1 = r := ⟨r - 1, by omega⟩
          obtain ⟨s', hs'⟩ : ∃ s', s' + 1 = s := ⟨s - 1, by omega⟩
          have er' : (r : Int) - 1 = (r' : Int) := by omega
          have es' : (s : Int) - 1 = (s' : Int) := by omega
          clear e3 hy hdl
          by_cases hyx : y < x
          · have HZ : Hid (∃ l, Buf 137 2 (wr.alloc (.cells #[.int .i64 (y : Nat), .bool false] 137)) g q t l ∧ ∀ wz, Buf 137 2 wz g (q + 1) t (l ++ [.int .i64 (y : Nat), .bool false]) → Only (fun j => j = g) (wr.alloc (.cells #[.int .i64 (y : Nat), .bool false] 137)) wz → WeaveAt w a b g j (p + 1) t wz) := Lib.hid (by
              have hst := mrgF_right a b j p (by rw [HM.out]; omega) (fun _ => by rw [HY.out, HX.out]; exact hyx)
              rw [HY.out] at hst
              have := WeaveAt.parts hst (by omega) HG.out HI.out
              rw [hq] at this
              exact this)
            obtain ⟨l, hl1, hl2⟩ := HZ.out
            have HL1 := Lib.hid hl1
            have HL2 := Lib.hid hl2
            clear hl1 hl2 HZ HI
            go_upto_region 6 with fail
            go_wp2_with (at_builtin
                         refine wpList_append_buf rfl (.tmp 32) (.tmp 37) 130 130 137 rfl Try.underlying130 size56 g q t l [.int .i64 (y : Nat), .bool false] (.slice (some ⟨wr.heap.size, 0, none⟩) 1 1) rfl rfl HL1.out (Src.oneItem wr y false 1 137) (by omega) ?_
                         intro w9 hbuf9 honly9
                         have H9 := Lib.hid (HL2.out _ hbuf9 honly9)
                         clear hbuf9 honly9)
            · obtain rfl : s' = 0 := by omega
              go_roundg r'
              case measure => omega
              case rel => exact ⟨p + 1, r - 1, 0, q + 1, _, rfl, rfl, by omega, by omega, by omega, by omega, Lib.hid (See.empty (by rw [HM.out]; omega)), H9⟩
            · go_roundg r'
              case measure => omega
              case rel => exact ⟨p + 1, r - 1, s - 1, q + 1, _, rfl, rfl, by omega, by omega, by omega, by omega, Lib.hid (HP.out.tail 1), H9⟩
          · have hyx2 : decide ((y : Int) < (x : Int)) = false := by simp; omega
            have HZ : Hid (∃ l, Buf 137 2 (wr.alloc (.cells #[.int .i64 (x : Nat), .bool true] 137)) g q t l ∧ ∀ wz, Buf 137 2 wz g (q + 1) t (l ++ [.int .i64 (x : Nat), .bool true]) → Only (fun j => j = g) (wr.alloc (.cells #[.int .i64 (x : Nat), .bool true] 137)) wz → WeaveAt w a b g (j + 1) p t wz) := Lib.hid (by
              have hst := mrgF_left a b j p (by rw [HN.out]; exact hlt) (fun _ => by rw [HY.out, HX.out]; omega)
              rw [HX.out] at hst
              have := WeaveAt.parts hst (by omega) HG.out HI.out
              rw [hq] at this
              exact this)
            obtain ⟨l, hl1, hl2⟩ := HZ.out
            have HL1 := Lib.hid hl1
            have HL2 := Lib.hid hl2
            clear hl1 hl2 HZ HI
            go_upto_region 8 with fail
            go_wp2_with (at_builtin
                         refine wpList_append_buf rfl (.tmp 41) (.tmp 44) 130 130 137 rfl Try.underlying130 size56 g q t l [.int .i64 (x : Nat), .bool true] (.slice (some ⟨wr.heap.size, 0, none⟩) 1 1) rfl rfl HL1.out (Src.oneItem wr x true 1 137) (by omega) ?_
                         intro w9 hbuf9 honly9
                         have H9 := Lib.hid (HL2.out _ hbuf9 honly9)
                         clear hbuf9 honly9)
            go_roundg (gO - 1)
            case measure => omega
            case rel => exact ⟨j + 1, p, r, s, q + 1, _, by go_num, rfl, rfl, by omega, by omega, by omega, by omega, by omega, HP, H9⟩
        · obtain rfl : r = 0 := by omega
          have HZ : Hid (∃ l, Buf 137 2 (wr.alloc (.cells #[.int .i64 (x : Nat), .bool true] 137)) g q t l ∧ ∀ wz, Buf 137 2 wz g (q + 1) t (l ++ [.int .i64 (x : Nat), .bool true]) → Only (fun j => j = g) (wr.alloc (.cells #[.int .i64 (x : Nat), .bool true] 137)) wz → WeaveAt w a b g (j + 1) p t wz) := Lib.hid (by
            have hst := mrgF_left a b j p (by rw [HN.out]; exact hlt) (fun h => by rw [HM.out] at h; omega)
            rw [HX.out] at hst
            have := WeaveAt.parts hst (by omega) HG.out HI.out
            rw [hq] at this
            exact this)
          obtain ⟨l, hl1, hl2⟩ := HZ.out
          have HL1 := Lib.hid hl1
          have HL2 := Lib.hid hl2
          clear hl1 hl2 HZ HI
          go_upto_region 8 with fail
          go_wp2_with (at_builtin
                       refine wpList_append_buf rfl (.tmp 41) (.tmp 44) 130 130 137 rfl Try.underlying130 size56 g q t l [.int .i64 (x : Nat), .bool true] (.slice (some ⟨wr.heap.size, 0, none⟩) 1 1) rfl rfl HL1.out (Src.oneItem wr x true 1 137) (by omega) ?_
                       intro w9 hbuf9 honly9
                       have H9 := Lib.hid (HL2.out _ hbuf9 honly9)
                       clear hbuf9 honly9)
          go_roundg (gO - 1)
          case measure => omega
          case rel => exact ⟨j + 1, p, 0, s, q + 1, _, by go_num, rfl, rfl, by omega, by omega, by omega, by omega, by omega, HP, H9⟩
    · obtain rfl : j = n := by omega
      go_wp2_with fail
      go_loopg [5, 49] r (fun gk v5 i wx => ∃ (p' i' q' : Nat), i = .int .i64 i' ∧ v5 = .slice (some ⟨g, 0, none⟩) q' t ∧ i' + gk ≤ r ∧ r ≤ i' + gk ∧ p + i' = p' ∧ j + p' = q' ∧ Hid (WeaveAt w a b g j p' t wx))
      case atStart => exact ⟨p, 0, q, rfl, rfl, by omega, by omega, by omega, by omega, HI⟩
      case round =>
        clear HI
        obtain ⟨p', i', q', rfl, rfl, hi1, hi2, hp', hq', HI⟩ := hrel
        by_cases hlt2 : i' < r
        · have hdl : i' < (b.drop p).length := by rw [List.length_drop, HM.out]; omega
          obtain ⟨b1, off1, rfl, hb1, hcj⟩ := (HP.out.new HI.out.new) i' _ (ints_at (b.drop p) i' hdl)
          have e3 : ln (b.drop p) i' = ln b p' := by rw [← hp']; simp [ln]
          rw [e3] at hcj
          obtain ⟨y, hy⟩ : ∃ y, ln b p' = y := ⟨_, rfl⟩
          rw [hy] at hcj
          have HZ : Hid (∃ l, Buf 137 2 (wr.alloc (.cells #[.int .i64 (y : Nat), .bool false] 137)) g q' t l ∧ ∀ wz, Buf 137 2 wz g (q' + 1) t (l ++ [.int .i64 (y : Nat), .bool false]) → Only (fun j => j = g) (wr.alloc (.cells #[.int .i64 (y : Nat), .bool false] 137)) wz → WeaveAt w a b g j (p' + 1) t wz) := Lib.hid (by
            have hst := mrgF_right a b j p' (by rw [HM.out]; omega) (fun h => by rw [HN.out] at h; omega)
            rw [hy] at hst
            have := WeaveAt.parts hst (by omega) HG.out HI.out
            rw [hq'] at this
            exact this)
          obtain ⟨l, hl1, hl2⟩ := HZ.out
          have HL1 := Lib.hid hl1
          have HL2 := Lib.hid hl2
          clear hl1 hl2 HZ HI e3 hy hdl
          go_upto_region 13 with fail
          go_wp2_with (at_builtin
                       refine wpList_append_buf rfl (.tmp 53) (.tmp 56) 130 130 137 rfl Try.underlying130 size56 g q' t l [.int .i64 (y : Nat), .bool false] (.slice (some ⟨wr.heap.size, 0, none⟩) 1 1) rfl rfl HL1.out (Src.oneItem wr y false 1 137) (by omega) ?_
                       intro w9 hbuf9 honly9
                       have H9 := Lib.hid (HL2.out _ hbuf9 honly9)
                       clear hbuf9 honly9)
          go_roundg (gk - 1)
          case measure => omega
          case rel => exact ⟨p' + 1, i' + 1, q' + 1, by go_num, rfl, by omega, by omega, by omega, by omega, H9⟩
        · obtain rfl : i' = r := by omega
          obtain ⟨R, h1, h2, h3, h4⟩ := HI.out
          have hR : R = mrgF a b := by
            rw [← h2, List.drop_eq_nil_of_le (by rw [HN.out]; omega), List.drop_eq_nil_of_le (by rw [HM.out]; omega)]
            simp [mrgF]
          obtain rfl : q' = t := by omega
          have HZ : Hid (WovenPost w (mrgF a b) q' (.returned (.slice (some ⟨g, 0, none⟩) q' q')) wr) := Lib.hid ⟨g, HG.out, rfl, by rw [← hR]; exact h3.see, h4⟩
          clear h1 h2 h3 h4 hR HI
          go_wp2
          go_ret
          exact HZ.out
end Go.Proofs.Ytjlkjebmilfgoaa

/- Layer 6: pairs of a row, the rows of packages, leaves among items, in the program. -/
namespace Go.Proofs.Ytjlkjebmilfgoaa
open Go.RowKit

theorem its_sum (R : List (Nat × Bool)) (i : Nat) (h : i < R.length) : (its R)[2 * i]? = some (.int .i64 (ln (R.map Prod.fst) i : Nat)) := by
  have := (its_at R i R[i] (by simp [h])).1
  rw [this]
  simp [ln, h]
theorem prs_map (l : List Nat) : (List.range (l.length / 2)).map (fun i => ln l (2 * i) + ln l (2 * i + 1)) = prs l := by
  apply List.ext_getElem
  · simp [prs_length]
  · intro i h1 h2
    simp at h1
    have := prs_at l i (by omega)
    rw [List.getElem_map, List.getElem_range, ← this]
    rw [prs_length] at h2
    simp [ln, prs_length, h2]

set_option maxHeartbeats 2000000 in
theorem pairsOf (A : Option Addr) (n k B : Nat) (R : List (Nat × Bool)) (w : World) (h : See w B A (its R)) (hn : R.length = n) (hn2 : n ≤ 1000) (hm : ∀ x ∈ R.map Prod.fst, x ≤ 1099511627776) :
    Calls Try.prog 94 #[.slice A n k] w (CountsPost w (prs (R.map Prod.fst))) := by
  obtain ⟨l, hl⟩ : ∃ l, R.map Prod.fst = l := ⟨_, rfl⟩
  have hln : l.length = n := by rw [← hl]; simpa using hn
  have hat : ∀ i, i < n → ∃ b off, A = some ⟨b, off, none⟩ ∧ b < B ∧ w.cell? ⟨b, off + 2 * i, none⟩ = some (.int .i64 (ln l i : Nat)) := fun i hi => by
    have := h (2 * i) _ (its_sum R i (by omega))
    rw [hl] at this
    exact this
  rw [hl] at hm ⊢
  obtain ⟨m, hm2⟩ : ∃ m, n / 2 = m := ⟨_, rfl⟩
  have em : (n : Int) / 2 = (m : Int) := by omega
  have em2 : Int.tdiv (n : Int) 2 = (m : Int) := by rw [Int.tdiv_eq_ediv_of_nonneg (by omega)]; exact em
  have hmk := run_make_row Try.underlying53 info3 (by omega) m (by omega) w
  have HST : Hid (Made 3 w (some ⟨w.heap.size, 0, none⟩) m m (ints (fillTo m (fun i => ln l (2 * i) + ln l (2 * i + 1)) 0)) (w.alloc (.cells (List.replicate m (.int .i64 0)).toArray 3))) := Lib.hid (by
    rw [fillTo_zero, ← ints_zeros]
    exact zeros_made m (by omega))
  have HA := Lib.hid hat
  have mixed := Try.laysSlF20_f95.mixed
  have HM := Lib.hid hm
  have HLN := Lib.hid hln
  clear h hn hat hm hl hln
  obtain ⟨g, hg⟩ : ∃ g, w.heap.size = g := ⟨_, rfl⟩
  go_enter Try.func94, Try.ntmps94
  go_wp2_with fail
  rw [hg] at HST
  try rw [hg]
  clear hmk hg
  go_loopg [11] m (fun gk i wx => ∃ j : Nat, i = .int .i64 j ∧ j + gk ≤ m ∧ m ≤ j + gk ∧ Hid (Made 3 w (some ⟨g, 0, none⟩) m m (ints (fillTo m (fun i => ln l (2 * i) + ln l (2 * i + 1)) j)) wx))
  case atStart => exact ⟨0, rfl, by omega, by omega, HST⟩
  case round =>
    clear HST
    obtain ⟨j, rfl, hg1, hg2, HI⟩ := hrel
    by_cases hlt : j < m
    · obtain ⟨b, off, rfl, _, hc1⟩ := HA.out (2 * j) (by omega)
      obtain ⟨b2, off2, e2, _, hc2⟩ := HA.out (2 * j + 1) (by omega)
      obtain ⟨rfl, rfl⟩ : b = b2 ∧ off = off2 := by simpa using e2
      have hc1 : wr.cell? ⟨b, off + 2 * (2 * j), none⟩ = _ := (World.cell?_of_block (HI.out.2.1.block b (cell_lt hc1) (fun f => f))).trans hc1
      have hc2 : wr.cell? ⟨b, off + 2 * (2 * j + 1), none⟩ = _ := (World.cell?_of_block (HI.out.2.1.block b (cell_lt hc2) (fun f => f))).trans hc2
      have hx := HM.out _ (ln_mem l (2 * j) (by rw [HLN.out]; omega))
      have hy := HM.out _ (ln_mem l (2 * j + 1) (by rw [HLN.out]; omega))
      have hput := fillTo_put m (fun i => ln l (2 * i) + ln l (2 * i + 1)) j
      obtain ⟨x, hx1⟩ : ∃ x, ln l (2 * j) = x := ⟨_, rfl⟩
      obtain ⟨y, hy1⟩ : ∃ y, ln l (2 * j + 1) = y := ⟨_, rfl⟩
      simp only [hx1, hy1] at hput
      rw [hx1] at hc1 hx
      rw [hy1] at hc2 hy
      obtain ⟨p, hp⟩ : ∃ p, 2 * j = p := ⟨_, rfl⟩
      obtain ⟨q, hq⟩ : ∃ q, p + 1 = q := ⟨_, rfl⟩
      obtain ⟨z, hz⟩ : ∃ z, x + y = z := ⟨_, rfl⟩
      rw [hp] at hc1 hc2
      rw [hq] at hc2
      have ep : 2 * (j : Int) = (p : Int) := by omega
      have eq : (p : Int) + 1 = (q : Int) := by omega
      have ez : (x : Int) + (y : Int) = (z : Int) := by omega
      have bp : (p : Int) < (n : Int) := by omega
      have bq : (q : Int) < (n : Int) := by omega
      have rp : IntKind.i64.wrap (p : Int) = (p : Int) := by rw [IntKind.wrap_i64]; omega
      have rq : IntKind.i64.wrap (q : Int) = (q : Int) := by rw [IntKind.wrap_i64]; omega
      have rz : IntKind.i64.wrap (z : Int) = (z : Int) := by rw [IntKind.wrap_i64]; omega
      have o1 : off + p * 2 = off + 2 * p := by omega
      have o2 : off + q * 2 = off + 2 * q := by omega
      rw [← o1] at hc1
      rw [← o2] at hc2
      obtain ⟨c1, c2⟩ := HI.out.at j (by rw [fillTo_length]; exact hlt)
      rw [hz] at hput
      have HP : Hid (∀ nq, Made 3 w (some ⟨g, 0, none⟩) m m (ints (fillTo m (fun i => ln l (2 * i) + ln l (2 * i + 1)) (j + 1))) ((wr.setCell ⟨g, j, none⟩ (.int .i64 (z : Int))).drewN nq)) := Lib.hid fun nq => by
        rw [← hput, ← ints_set]
        exact (HI.out.setAt j _).drewN nq
      clear hx1 hy1 hput HI hz o1 o2 e2 hp hq
      go_wp2_with fail
      go_big_region_o
      have H1 := Lib.hid (HP.out 1)
      clear HP hc1 hc2 c1 c2
      show Exit.inBlock _ _ _ _ (World.drewN _ 1)
      generalize World.drewN _ 1 = w2 at H1 ⊢
      go_wp2_with fail
      go_roundg (gk - 1)
      case measure => omega
      case rel => exact ⟨j + 1, by go_num, by omega, by omega, H1⟩
    · obtain rfl : j = m := by omega
      have h1 := HI.out
      rw [fillTo_all, ← hm2, ← HLN.out, prs_map] at h1
      have hl : (prs l).length = j := by rw [prs_length, HLN.out, hm2]
      rw [HLN.out, hm2] at h1
      have H1 : Hid (CountsPost w (prs l) (.returned (.slice (some ⟨g, 0, none⟩) j j)) wr) := Lib.hid ⟨g, by rw [hl], by rw [hl]; exact h1⟩
      clear h1 HI hl
      go_wp2
      go_ret
      exact H1.out

theorem lvs_succ (R : List (Nat × Bool)) (j : Nat) (x : Nat × Bool) (h : R[j]? = some x) : lvs R (j + 1) = lvs R j + if x.2 then 1 else 0 := by
  unfold lvs
  rw [List.take_add_one, List.countP_append, h]
  simp [List.countP_cons]

set_option maxHeartbeats 2000000 in
theorem leavesAmong (A : Option Addr) (t k B : Nat) (R : List (Nat × Bool)) (w : World) (h : See w B A (its R)) (ht : t ≤ R.length) (hn2 : t ≤ 1000) :
    Calls Try.prog 86 #[.slice A t k] w fun e w' => e = .returned (.int .i64 (lvs R t : Nat)) ∧ Only (fun _ => False) w w' := by
  have HA : Hid (∀ i, i < t → ∃ x : Nat × Bool, R[i]? = some x ∧ ∃ b off, A = some ⟨b, off, none⟩ ∧ w.cell? ⟨b, off + i * 2, none⟩ = some (.int .i64 (x.1 : Nat)) ∧ w.cell? ⟨b, off + i * 2 + 1, none⟩ = some (.bool x.2)) := Lib.hid fun i hi => by
    have hR : R[i]? = some R[i] := by simp
    obtain ⟨h1, h2⟩ := its_at R i _ hR
    obtain ⟨b, off, e1, _, e2⟩ := h _ _ h1
    obtain ⟨b', off', e3, _, e4⟩ := h _ _ h2
    rw [e1] at e3
    obtain ⟨rfl, rfl⟩ : b = b' ∧ off = off' := by simpa using e3
    exact ⟨_, hR, b, off, e1, by rw [Nat.mul_comm]; exact e2, by rw [Nat.mul_comm, Nat.add_assoc]; exact e4⟩
  clear h
  go_enter Try.func86, Try.ntmps86
  go_wp2_with fail
  go_loopg [3, 8] t (fun gk v3 i wx => ∃ j v : Nat, i = .int .i64 j ∧ v3 = .int .i64 v ∧ j + gk ≤ t ∧ t ≤ j + gk ∧ v ≤ j ∧ Hid (lvs R j = v) ∧ Hid (Only (fun _ => False) w wx))
  case atStart => exact ⟨0, 0, rfl, rfl, by omega, by omega, by omega, Lib.hid rfl, Lib.hid (Only.refl _ w)⟩
  case round =>
    obtain ⟨j, v, rfl, rfl, hg1, hg2, hvj, HV, HO⟩ := hrel
    by_cases hlt : j < t
    · obtain ⟨⟨x, f⟩, hR, b, off, rfl, hc1, hc2⟩ := HA.out j hlt
      have hc1 : wr.cell? ⟨b, off + j * 2, none⟩ = _ := (World.cell?_of_block (HO.out.block b (cell_lt hc1) (fun f => f))).trans hc1
      have hc2 : wr.cell? ⟨b, off + j * 2 + 1, none⟩ = _ := (World.cell?_of_block (HO.out.block b (cell_lt hc2) (fun f => f))).trans hc2
      have hs := lvs_succ R j _ hR
      rw [HV.out] at hs
      have HSS := Lib.hid hs
      clear hR hs
      cases f with
      | true =>
        have HS2 : Hid (lvs R (j + 1) = v + 1) := Lib.hid (by rw [HSS.out]; rfl)
        go_wp2_with fail
        go_roundg (gk - 1)
        case measure => omega
        case rel => exact ⟨j + 1, v + 1, by go_num, by go_num, by omega, by omega, by omega, HS2, Lib.hid (HO.out.alloc _)⟩
      | false =>
        have HS2 : Hid (lvs R (j + 1) = v) := Lib.hid (by rw [HSS.out]; rfl)
        go_wp2_with fail
        go_roundg (gk - 1)
        case measure => omega
        case rel => exact ⟨j + 1, v, by go_num, rfl, by omega, by omega, by omega, HS2, Lib.hid (HO.out.alloc _)⟩
    · obtain rfl : j = t := by omega
      go_wp2
      go_ret
      exact ⟨by rw [HV.out]; rfl, HO.out⟩
end Go.Proofs.Ytjlkjebmilfgoaa

/- Layer 6: the rows of packages, and how deep each leaf comes to stand, in the program. -/
namespace Go.Proofs.Ytjlkjebmilfgoaa
open Go.RowKit

/-- The row below a row. -/
def rowB (W : List Nat) : Nat → List (Nat × Bool)
  | 0 => []
  | k + 1 => row W k
theorem row_of (W : List Nat) (k : Nat) : row W k = mrgF W (prs ((rowB W k).map Prod.fst)) := by
  cases k <;> rfl
theorem rowB_fst (W : List Nat) (k : Nat) : (rowB W (k + 1)).map Prod.fst = rs W k := row_fst W k
theorem rowB_length (W : List Nat) (k : Nat) : (rowB W k).length ≤ 2 * W.length := by
  cases k with
  | zero => simp [rowB]
  | succ k => rw [rowB, row_length]; exact (rs_short W k).1
theorem rowB_max {W : List Nat} (h : Low6 W) (k : Nat) (hk : k ≤ 16) : ∀ x ∈ (rowB W k).map Prod.fst, x ≤ 1099511627776 := by
  intro x hx
  cases k with
  | zero => simp [rowB] at hx
  | succ k =>
    rw [rowB_fst] at hx
    have h1 := rs_max h k x hx
    have h2 : 2 ^ k ≤ 2 ^ 16 := Nat.pow_le_pow_right (by decide) (by omega)
    have h3 : 1048576 * 2 ^ k ≤ 1048576 * 2 ^ 16 := Nat.mul_le_mul_left _ h2
    omega
theorem See.far {w w' : World} {B g o : Nat} {vs : List Value} {S : Nat → Prop} (h : See w B (some ⟨g, o, none⟩) vs) (k : Only S w w') (hg : ¬ S g) : See w' B (some ⟨g, o, none⟩) vs := by
  intro i v hv
  obtain ⟨b, off, e1, e2, e3⟩ := h i v hv
  simp only [Option.some.injEq, Addr.mk.injEq, and_true] at e1
  obtain ⟨rfl, rfl⟩ := e1
  exact ⟨_, _, rfl, e2, (World.cell?_of_block (k.block _ (cell_lt e3) hg)).trans e3⟩

/-- The rows that are laid: k slices in block G, each with its items. -/
def RowsAt (w : World) (W : List Nat) (G k most : Nat) (wx : World) : Prop := Only (fun _ => False) w wx ∧ w.heap.size ≤ G ∧ ∃ vs, Buf 130 1 wx G k most vs ∧ ∀ i, i < k → ∃ g, (g ≠ G ∧ w.heap.size ≤ g) ∧ vs[i]? = some (.slice (some ⟨g, 0, none⟩) (row W i).length (row W i).length) ∧ See wx wx.heap.size (some ⟨g, 0, none⟩) (its (row W i))
theorem RowsAt.new {w wx wy : World} {W : List Nat} {G k most : Nat} (h : RowsAt w W G k most wx) (ho : Only (fun _ => False) wx wy) : RowsAt w W G k most wy := by
  obtain ⟨h1, h2, vs, h3, h4⟩ := h
  refine ⟨h1.trans ho, h2, vs, h3.only ho id, fun i hi => ?_⟩
  obtain ⟨g, e1, e2, e3⟩ := h4 i hi
  exact ⟨g, e1, e2, (e3.far ho id).more ho.size⟩
theorem RowsAt.put {w wx : World} {W : List Nat} {G k most g : Nat} {o : Obj} (h : RowsAt w W G k most wx) (hs : See wx wx.heap.size (some ⟨g, 0, none⟩) (its (row W k))) (hg : g ≠ G ∧ w.heap.size ≤ g) :
    ∃ vs, Buf 130 1 (wx.alloc o) G k most vs ∧ ∀ wy, Buf 130 1 wy G (k + 1) most (vs ++ [.slice (some ⟨g, 0, none⟩) (row W k).length (row W k).length]) → Only (fun j => j = G) (wx.alloc o) wy → RowsAt w W G (k + 1) most wy ∧ See wy wy.heap.size (some ⟨g, 0, none⟩) (its (row W k)) := by
  obtain ⟨h1, h2, vs, h3, h4⟩ := h
  refine ⟨vs, h3.alloc _, fun wy hb ho => ?_⟩
  have hvl : vs.length = k := by have := h3.1; omega
  have hsz : (wx.alloc o).heap.size ≤ wy.heap.size := ho.size
  have hsx : wx.heap.size ≤ (wx.alloc o).heap.size := by simp
  have hsee : ∀ g' vs', g' ≠ G → See wx wx.heap.size (some ⟨g', 0, none⟩) vs' → See wy wy.heap.size (some ⟨g', 0, none⟩) vs' := fun g' vs' hne hh => (((hh.far ((Only.refl (fun _ => False) wx).alloc o) id).far ho hne).more (by omega))
  refine ⟨⟨(h1.alloc o).andThen ho fun j hj => .inr (hj ▸ h2), h2, _, hb, fun i hi => ?_⟩, hsee g _ hg.1 hs⟩
  rcases Nat.lt_or_ge i k with hi2 | hi2
  · obtain ⟨g', e1, e2, e3⟩ := h4 i hi2
    exact ⟨g', e1, by rw [List.getElem?_append_left (by omega)]; exact e2, hsee g' _ e1.1 e3⟩
  · obtain rfl : i = k := by omega
    exact ⟨g, hg, by rw [List.getElem?_append_right (by omega), hvl]; simp, hsee g _ hg.1 hs⟩
theorem Src.oneSlice (w : World) (v : Value) (h1 : v.oneCell' = true) (c : Nat) (t : TypeId) : Src Try.prog 1 127 (.slice (some ⟨w.heap.size, 0, none⟩) 1 c) 1 [v] (w.alloc (.cells #[v] t)) :=
  Src.ofSlice _ Try.underlying127 _ 1 c _ rfl (cell_one_new w _ t) (by simpa using h1)
theorem info47 : (Try.prog.info? 130).map (fun i => (i.zero, i.size, i.bytes)) = some (some (.slice none 0 0), 1, 24) := by kernel_rfl

def RowsPost (w : World) (W : List Nat) (most : Nat) (e : Ending) (w' : World) : Prop := ∃ G, e = .returned (.slice (some ⟨G, 0, none⟩) most most) ∧ RowsAt w W G most most w'

set_option maxHeartbeats 4000000 in
theorem rowsOf (A : Option Addr) (n k most B : Nat) (W : List Nat) (w : World) (h : See w B A (ints W)) (hn : W.length = n) (hn288 : n ≤ 288) (hW : Low6 W) (hm1 : 1 ≤ most) (hm15 : most ≤ 15) :
    Calls Try.prog 85 #[.slice A n k, .int .i64 most] w (RowsPost w W most) := by
  have hmk := run_make_room Try.underlying127 info47 most (by omega) (by omega) w
  have HST : Hid (RowsAt w W w.heap.size 0 most (w.alloc (.cells (madeCells #[.slice none 0 0] (most * 1)) 130))) := Lib.hid ⟨(Only.refl _ w).alloc _, Nat.le_refl _, [], Buf.made (z := .slice none 0 0) most, fun i hi => by omega⟩
  rw [Nat.mul_one] at HST
  have HS := Lib.hid h
  have HN := Lib.hid hn
  have HW := Lib.hid hW
  clear h hn hW
  obtain ⟨G, hG⟩ : ∃ G, w.heap.size = G := ⟨_, rfl⟩
  go_enter Try.func85, Try.ntmps85
  go_wp2_with fail
  rw [hG] at HST
  try rw [hG]
  clear hmk hG
  go_loopg [5, 6, 11] most (fun gk v5 v6 i wx => ∃ (j nb cb : Nat) (Ab : Option Addr), i = .int .i64 j ∧ v5 = .slice (some ⟨G, 0, none⟩) j most ∧ v6 = .slice Ab nb cb ∧ j + gk ≤ most ∧ most ≤ j + gk ∧ Hid ((rowB W j).length = nb) ∧ Hid (See wx wx.heap.size Ab (its (rowB W j))) ∧ Hid (RowsAt w W G j most wx))
  case atStart => exact ⟨0, 0, 0, none, rfl, rfl, rfl, by omega, by omega, Lib.hid rfl, Lib.hid (fun i v hv => by simp [its, rowB] at hv), HST⟩
  case round =>
    clear HST
    obtain ⟨j, nb, cb, Ab, rfl, rfl, rfl, hg1, hg2, HB, HSB, HI⟩ := hrel
    by_cases hlt : j < most
    · have hnb : nb ≤ 2 * n := by have := rowB_length W j; rw [HB.out, HN.out] at this; exact this
      have HC := Lib.hid (pairsOf Ab nb cb _ (rowB W j) wr HSB.out HB.out (by omega) (rowB_max HW.out j (by omega)))
      go_wp2_with fail
      refine HC.out.mono ?_
      rintro e w1 ⟨gp, rfl, hmd⟩
      have hpl := prs_length ((rowB W j).map Prod.fst)
      rw [List.length_map, HB.out] at hpl
      obtain ⟨mp, hmp⟩ : ∃ mp, (prs ((rowB W j).map Prod.fst)).length = mp := ⟨_, rfl⟩
      have hmp2 : mp ≤ n := by omega
      rw [hmp] at hmd ⊢
      have HC2 := Lib.hid (woven A (some ⟨gp, 0, none⟩) n k mp mp B _ W (prs ((rowB W j).map Prod.fst)) w1 (HS.out.new (HI.out.1.trans hmd.2.1)) hmd.see HN.out hmp (Nat.le_refl _) (by omega) hn288)
      rw [← row_of] at HC2
      have HI1 := Lib.hid (HI.out.new hmd.2.1)
      have hrl : (row W j).length = n + mp := by rw [row_of, mrgF_length, HN.out, hmp]
      have HRL := Lib.hid hrl
      clear HC hmd hpl hmp HI HSB hrl
      go_wp2_with fail
      refine HC2.out.mono ?_
      rintro e w2 ⟨g, hgl, rfl, hs2, ho2⟩
      obtain ⟨rl, hrl⟩ : ∃ rl, n + mp = rl := ⟨_, rfl⟩
      rw [hrl] at HRL ⊢
      have hgG : g ≠ G ∧ w.heap.size ≤ g := by
        obtain ⟨ho, _, vs, hb, _⟩ := HI1.out
        have := hb.lt
        have := ho.size
        omega
      obtain ⟨vs, hv1, hv2⟩ := RowsAt.put (o := .cells #[.slice (some ⟨g, 0, none⟩) rl rl] 130) (HI1.out.new ho2) hs2 hgG
      rw [HRL.out] at hv2
      have HV1 := Lib.hid hv1
      have HV2 := Lib.hid hv2
      clear hv1 hv2 hs2 ho2 HI1 HC2 hgG hgl
      go_upto_region 6 with fail
      go_wp2_with (at_builtin
                   refine wpList_append_buf rfl (.tmp 17) (.tmp 19) 127 127 130 rfl Try.underlying127 size47 G j most vs [.slice (some ⟨g, 0, none⟩) rl rl] (.slice (some ⟨w2.heap.size, 0, none⟩) 1 1) rfl rfl HV1.out (Src.oneSlice w2 _ rfl 1 130) (by omega) ?_
                   intro w9 hbuf9 honly9
                   have H9 := Lib.hid (HV2.out _ hbuf9 honly9)
                   clear hbuf9 honly9)
      go_roundg (gk - 1)
      case measure => omega
      case rel => exact ⟨j + 1, rl, rl, _, by go_num, rfl, rfl, by omega, by omega, HRL, Lib.hid H9.out.2, Lib.hid H9.out.1⟩
    · obtain rfl : j = most := by omega
      go_wp2
      go_ret
      exact ⟨G, rfl, HI.out⟩

/-- How deep each leaf stands behind some rows. -/
def dpt (n : Nat) (ls : List Nat) : List Nat := (List.range n).map (dp ls)
theorem dpt_length (n : Nat) (ls : List Nat) : (dpt n ls).length = n := by simp [dpt]
def dptTo (n : Nat) (ls : List Nat) (a j : Nat) : List Nat := (List.range n).map fun t => dp ls t + if t < j ∧ t < a then 1 else 0
theorem dptTo_zero (n : Nat) (ls : List Nat) (a : Nat) : dptTo n ls a 0 = dpt n ls := map_same _ _ _ fun t _ => by simp
theorem dptTo_put (n : Nat) (ls : List Nat) (a j : Nat) (hj : j < a) : (dptTo n ls a j).set j (dp ls j + 1) = dptTo n ls a (j + 1) := by
  refine map_set _ _ _ _ _ ?_ fun t _ ht => ?_
  · simp [hj]
  · have : (t < j + 1 ∧ t < a) ↔ (t < j ∧ t < a) := by omega
    simp only [this]
theorem dptTo_at (n : Nat) (ls : List Nat) (a j : Nat) (hj : j < n) : ln (dptTo n ls a j) j = dp ls j := by
  unfold dptTo
  rw [map_at n _ j hj]
  simp
theorem dptTo_all (n : Nat) (ls : List Nat) (a : Nat) : dptTo n ls a a = dpt n (ls ++ [a]) := map_same _ _ _ fun t _ => by
  unfold dp
  rw [List.countP_append]
  simp [List.countP_cons]
theorem dptTo_length (n : Nat) (ls : List Nat) (a j : Nat) : (dptTo n ls a j).length = n := by simp [dptTo]
/-- The rows that are still to come behind some. -/
theorem lv_step (W : List Nat) (k t : Nat) : lv6 W (k + 1) t = lvs (row W (k + 1)) t :: lv6 W k (2 * (t - lvs (row W (k + 1)) t)) := rfl

/-- The rows, whoever else writes. -/
def RowsIn (B : Nat) (W : List Nat) (G most : Nat) (wx : World) : Prop := ∀ i, i < most → ∃ g, B ≤ g ∧ B ≤ G ∧ wx.cell? ⟨G, i, none⟩ = some (.slice (some ⟨g, 0, none⟩) (row W i).length (row W i).length) ∧ See wx wx.heap.size (some ⟨g, 0, none⟩) (its (row W i))
theorem RowsAt.inn {w wx : World} {W : List Nat} {G most : Nat} (h : RowsAt w W G most most wx) : RowsIn w.heap.size W G most wx := by
  intro i hi
  obtain ⟨_, h2, vs, h3, h4⟩ := h
  obtain ⟨g, e1, e2, e3⟩ := h4 i hi
  exact ⟨g, e1.2, h2, h3.cell e2, e3⟩
theorem RowsIn.far {B : Nat} {w wx : World} {W : List Nat} {G most : Nat} {S : Nat → Prop} (h : RowsIn B W G most w) (ho : Only S w wx) (hS : ∀ j, B ≤ j → ¬ S j) : RowsIn B W G most wx := by
  intro i hi
  obtain ⟨g, e1, e2, e3, e4⟩ := h i hi
  exact ⟨g, e1, e2, (World.cell?_of_block (ho.block _ (cell_lt e3) (hS _ e2))).trans e3, (e4.far ho (hS _ e1)).more ho.size⟩
/-- What is still to be taken, of r rows. -/
def rest (W : List Nat) : Nat → Nat → List Nat
  | 0, _ => []
  | r + 1, t => lv6 W r t
theorem rest_step (W : List Nat) (r t : Nat) : rest W (r + 1) t = lvs (row W r) t :: rest W r (2 * (t - lvs (row W r) t)) := by
  cases r <;> rfl
def Fits (W : List Nat) : Nat → Nat → Prop
  | 0, _ => True
  | r + 1, t => t ≤ (rs W r).length
theorem fits_step (W : List Nat) (r t : Nat) (h : Fits W (r + 1) t) : Fits W r (2 * (t - lvs (row W r) t)) ∧ lvs (row W r) t ≤ W.length ∧ t ≤ (row W r).length := by
  rw [row_length]
  cases r with
  | zero => exact ⟨trivial, by rw [lvs_bottom W t h]; exact h, h⟩
  | succ r => exact ⟨(next_fits W r t h).1, (next_fits W r t h).2, h⟩
/-- Where the leaves stand: r rows are still to come. -/
def DeepAt (w : World) (B : Nat) (W : List Nat) (most D G n r t : Nat) (all : List Nat) (wx : World) : Prop :=
  Fits W r t ∧ RowsIn B W G most wx ∧ ∃ ls, ls ++ rest W r t = all ∧ Made 3 w (some ⟨D, 0, none⟩) n n (ints (dpt n ls)) wx
def DeepPost (w : World) (l : List Nat) (n : Nat) (e : Ending) (w' : World) : Prop := ∃ g, e = .returned (.slice (some ⟨g, 0, none⟩) n n) ∧ Made 3 w (some ⟨g, 0, none⟩) n n (ints l) w'
set_option maxHeartbeats 4000000 in
set_option maxRecDepth 20000 in
theorem deepFew (A : Option Addr) (n k most : Nat) (w : World) (hn2 : n < 2) :
    Calls Try.prog 69 #[.slice A n k, .int .i64 most] w (DeepPost w (List.replicate n 0) n) := by
  have hmk := run_make_row Try.underlying53 info3 (by omega) n (by omega) w
  have HST : Hid (DeepPost w (List.replicate n 0) n (.returned (.slice (some ⟨w.heap.size, 0, none⟩) n n)) (w.alloc (.cells (List.replicate n (.int .i64 0)).toArray 3))) := Lib.hid ⟨w.heap.size, rfl, by
    rw [← ints_zeros]
    exact zeros_made n (by omega)⟩
  go_enter Try.func69, Try.ntmps69
  go_wp2
  go_ret
  exact HST.out

theorem dp_small (W : List Nat) (most : Nat) (ls : List Nat) (r t : Nat) (h : ls ++ rest W r t = lv6 W (most - 1) (2 * (W.length - 1))) (hm : 1 ≤ most) (j : Nat) : dp ls j ≤ most := by
  have h1 := congrArg List.length h
  rw [List.length_append, lv_length] at h1
  have := dp_le ls j
  omega

set_option maxRecDepth 20000 in
set_option maxHeartbeats 8000000 in
theorem limitedDepths (A : Option Addr) (n k most B : Nat) (W : List Nat) (w : World) (h : See w B A (ints W)) (hn : W.length = n) (hn288 : n ≤ 288) (hn2 : 2 ≤ n) (hW : Low6 W) (hm1 : 1 ≤ most) (hm15 : most ≤ 15) (hpow : n ≤ 2 ^ most) :
    Calls Try.prog 69 #[.slice A n k, .int .i64 most] w (DeepPost w (dpt n (lv6 W (most - 1) (2 * (n - 1)))) n) := by
  have hmk := run_make_row Try.underlying53 info3 (by omega) n (by omega) w
  have HM0 : Hid (Made 3 w (some ⟨w.heap.size, 0, none⟩) n n (ints (dpt n [])) (w.alloc (.cells (List.replicate n (.int .i64 0)).toArray 3))) := Lib.hid (by
    have e : dpt n [] = List.replicate n 0 := by apply List.ext_getElem <;> simp [dpt, dp]
    rw [e, ← ints_zeros]
    exact zeros_made n (by omega))
  have hz1 : (w.alloc (.cells (List.replicate n (Value.int .i64 0)).toArray 3)).heap.size = w.heap.size + 1 := by simp
  have HC := Lib.hid (rowsOf A n k most B W (w.alloc (.cells (List.replicate n (.int .i64 0)).toArray 3)) (h.new ((Only.refl _ w).alloc _)) hn hn288 hW hm1 hm15)
  have HN := Lib.hid hn
  have HFit : Hid (Fits W most (2 * (n - 1))) := Lib.hid (by
    obtain ⟨q, rfl⟩ : ∃ q, most = q + 1 := ⟨most - 1, by omega⟩
    have := rs_long W q (by rw [hn]; exact hpow)
    rw [hn] at this
    exact this)
  have HRest : Hid (rest W most (2 * (n - 1)) = lv6 W (most - 1) (2 * (n - 1))) := Lib.hid (by
    obtain ⟨q, rfl⟩ : ∃ q, most = q + 1 := ⟨most - 1, by omega⟩
    rfl)
  obtain ⟨all, hall⟩ : ∃ all, lv6 W (most - 1) (2 * (n - 1)) = all := ⟨_, rfl⟩
  have HAll : Hid (lv6 W (most - 1) (2 * (W.length - 1)) = all) := Lib.hid (by rw [hn]; exact hall)
  rw [hall] at HRest ⊢
  clear h hn hW hpow hall
  obtain ⟨D, hD⟩ : ∃ D, w.heap.size = D := ⟨_, rfl⟩
  obtain ⟨n1, hn1⟩ : ∃ n1, n - 1 = n1 := ⟨_, rfl⟩
  obtain ⟨t0, ht0⟩ : ∃ t0, 2 * n1 = t0 := ⟨_, rfl⟩
  have en1 : (n : Int) - 1 = (n1 : Int) := by omega
  have et0 : 2 * (n1 : Int) = (t0 : Int) := by omega
  rw [hn1, ht0] at HFit HRest
  rw [hD] at HM0 hz1
  have HDD := Lib.hid hD
  have dn2 : decide ((n : Int) < 2) = false := by simp; omega
  go_enter Try.func69, Try.ntmps69
  go_wp2_with fail
  obtain ⟨w1, hw1⟩ : ∃ w1, w.alloc (.cells (List.replicate n (Value.int .i64 0)).toArray 3) = w1 := ⟨_, rfl⟩
  have hw2 : w.alloc (.cells (Array.replicate n (Value.int .i64 0)) 3) = w1 := by rw [← hw1]; simp
  rw [hw1] at HM0 hz1 HC
  rw [hw2]
  try rw [hD]
  clear hmk hw1 hD hw2
  refine HC.out.mono ?_
  rintro e w2 ⟨G, rfl, hr2⟩
  have HST : Hid (DeepAt w (D + 1) W most D G n most t0 all w2) := Lib.hid ⟨HFit.out, by rw [← hz1]; exact hr2.inn, [], by rw [← HRest.out]; rfl, HM0.out.1.only hr2.1 (fun _ _ f => f), HM0.out.2.1.trans hr2.1, HM0.out.2.2⟩
  clear HC hr2 HM0 HFit HRest
  have emost : (most : Int) - 1 = ((most : Int) - 1) := rfl
  go_wp2_with fail
  go_loopg [8, 9] most (fun gk vt vi wx => ∃ r t : Nat, vi = .int .i64 ((r : Int) - 1) ∧ vt = .int .i64 t ∧ r ≤ gk ∧ r ≤ most ∧ t ≤ 1000 ∧ Hid (DeepAt w (D + 1) W most D G n r t all wx))
  case atStart => exact ⟨most, t0, by first | rfl | go_num, by first | rfl | go_num, by omega, by omega, by omega, HST⟩
  case round =>
    clear HST
    obtain ⟨r, t, rfl, rfl, hrg, hrm, ht1000, HI⟩ := hrel
    obtain ⟨gO, hgO⟩ : ∃ gO, gk = gO := ⟨_, rfl⟩
    by_cases hr0 : 0 < r
    · obtain ⟨r', hr'⟩ : ∃ r', r' + 1 = r := ⟨r - 1, by omega⟩
      subst hr'
      have er : ((r' + 1 : Nat) : Int) - 1 = (r' : Int) := by omega
      obtain ⟨hfit, hrows, ls, hls, hmd⟩ := HI.out
      obtain ⟨g, _, _, hcell, hsee⟩ := hrows r' (by omega)
      obtain ⟨hf1, hf2, hf3⟩ := fits_step W r' t hfit
      rw [HN.out] at hf2
      have hrest := rest_step W r' t
      have hlen : (row W r').length ≤ 1000 := by rw [row_length]; have := (rs_short W r').1; rw [HN.out] at this; omega
      have HC := Lib.hid (leavesAmong (some ⟨g, 0, none⟩) t (row W r').length _ (row W r') wr hsee hf3 ht1000)
      obtain ⟨a, ha⟩ : ∃ a, lvs (row W r') t = a := ⟨_, rfl⟩
      have hal := lvs_le (row W r') t
      obtain ⟨L, hL⟩ : ∃ L, (row W r').length = L := ⟨_, rfl⟩
      rw [ha] at hf1 hf2 hrest HC hal
      rw [hL] at hcell hf3 hlen HC
      obtain ⟨t', ht'⟩ : ∃ t', 2 * (t - a) = t' := ⟨_, rfl⟩
      obtain ⟨u, hu⟩ : ∃ u, t - a = u := ⟨_, rfl⟩
      rw [ht'] at hf1 hrest
      have HF := Lib.hid hf1
      have HLS : Hid (ls ++ a :: rest W r' t' = all) := Lib.hid (by rw [← hrest]; exact hls)
      have HDP : Hid (∀ j, dp ls j ≤ most) := Lib.hid fun j => dp_small W most ls (r' + 1) t (by rw [hls, HAll.out]) hm1 j
      have HR := Lib.hid hrows
      have HMD := Lib.hid hmd
      have ht'2 : t' ≤ 1000 := by
        cases r' with
        | zero => have := lvs_bottom W t hfit; omega
        | succ q => have := (next_fits W q t hfit).1; rw [ha, ht'] at this; have := (rs_short W q).1; rw [HN.out] at this; omega
      have eu : (t : Int) - (a : Int) = (u : Int) := by omega
      have eu2 : 2 * (u : Int) = (t' : Int) := by omega
      clear hfit hrows hls hmd hf1 hrest ha hL HI hsee
      go_wp2_with fail
      refine HC.out.mono ?_
      rintro e w3 ⟨rfl, ho3⟩
      have HR3 := Lib.hid (HR.out.far ho3 fun _ _ f => f)
      have HMD3 : Hid (Made 3 w (some ⟨D, 0, none⟩) n n (ints (dptTo n ls a 0)) w3) := Lib.hid (by
        rw [dptTo_zero]
        exact ⟨HMD.out.1.only ho3 (fun _ _ f => f), HMD.out.2.1.trans ho3, HMD.out.2.2⟩)
      clear HC HR HMD ho3 hcell
      go_wp2_with fail
      go_loopg [40] a (fun gk i wx => ∃ j : Nat, i = .int .i64 j ∧ j + gk ≤ a ∧ a ≤ j + gk ∧ Hid (RowsIn (D + 1) W G most wx) ∧ Hid (Made 3 w (some ⟨D, 0, none⟩) n n (ints (dptTo n ls a j)) wx))
      case atStart => exact ⟨0, rfl, by omega, by omega, HR3, HMD3⟩
      case round =>
        clear HR3 HMD3
        obtain ⟨j, rfl, hj1, hj2, HR, HMD⟩ := hrel
        by_cases hlt : j < a
        · obtain ⟨c1, c2⟩ := HMD.out.at j (by rw [dptTo_length]; omega)
          rw [dptTo_at n ls a j (by omega)] at c1
          have hy := HDP.out j
          have hput := dptTo_put n ls a j hlt
          obtain ⟨y, hy1⟩ : ∃ y, dp ls j = y := ⟨_, rfl⟩
          rw [hy1] at c1 hy hput
          have HP : Hid (Made 3 w (some ⟨D, 0, none⟩) n n (ints (dptTo n ls a (j + 1))) (wr.setCell ⟨D, j, none⟩ (.int .i64 ((y : Int) + 1)))) := Lib.hid (by
            rw [← hput, ← ints_set]
            exact HMD.out.setAt j _)
          have HR2 : Hid (RowsIn (D + 1) W G most (wr.setCell ⟨D, j, none⟩ (.int .i64 ((y : Int) + 1)))) := Lib.hid (HR.out.far (Only.one wr D j _) fun i hi he => by omega)
          clear hy1 hput HMD HR
          go_wp2_with fail
          go_roundg (gk - 1)
          case measure => omega
          case rel => exact ⟨j + 1, by go_num, by omega, by omega, HR2, HP⟩
        · obtain rfl : j = a := by omega
          have HZ : Hid (DeepAt w (D + 1) W most D G n r' t' all wr) := Lib.hid ⟨HF.out, HR.out, ls ++ [j], by rw [← HLS.out, List.append_assoc]; rfl, by rw [← dptTo_all]; exact HMD.out⟩
          clear HR HMD HLS HF HDP
          go_wp2_with fail
          go_roundg (gO - 1)
          case measure => omega
          case rel => exact ⟨r', t', by first | rfl | go_num, by first | rfl | go_num, by omega, by omega, by omega, HZ⟩
    · obtain rfl : r = 0 := by omega
      obtain ⟨_, _, ls, hls, hmd⟩ := HI.out
      have hls : ls = all := by rw [← hls]; simp [rest]
      rw [hls] at hmd
      have HZ : Hid (DeepPost w (dpt n all) n (.returned (.slice (some ⟨D, 0, none⟩) n n)) wr) := Lib.hid ⟨D, rfl, hmd⟩
      clear hmd hls HI
      go_wp2
      go_ret
      exact HZ.out
end Go.Proofs.Ytjlkjebmilfgoaa

/- Plain words on lengths that fit counts: laid at their symbols, what they cost, how full the code is. -/
namespace Go.Proofs.Ytjlkjebmilfgoaa

theorem ln_set (l : List Nat) (x y s : Nat) (hx : x < l.length) : ln (l.set x y) s = if s = x then y else ln l s := by
  unfold ln
  rw [List.getD_eq_getElem?_getD, List.getElem?_set]
  by_cases h : s = x
  · subst h; simp [hx]
  · simp [h, show ¬ x = s from fun e => h e.symm]
theorem sumTo_set (l : List Nat) (x y : Nat) (f : Nat → Nat → Nat) (hx : x < l.length) (h0 : ln l x = 0) (hf : f x 0 = 0) : ∀ n, n ≤ l.length → sumTo n (fun s => f s (ln (l.set x y) s)) = sumTo n (fun s => f s (ln l s)) + if x < n then f x y else 0
  | 0, _ => by simp [sumTo]
  | n + 1, hn => by
    rw [sumTo, sumTo, sumTo_set l x y f hx h0 hf n (by omega), ln_set l x y n hx]
    by_cases h : n = x
    · subst h
      rw [if_pos rfl, if_neg (by omega), if_pos (by omega), h0, hf]
    · rw [if_neg h]
      by_cases h2 : x < n
      · rw [if_pos h2, if_pos (by omega)]; omega
      · rw [if_neg h2, if_neg (by omega)]; omega
section
variable {n : Nat} {ss d : List Nat}
theorem fit_out (j s : Nat) (hlt : ∀ x ∈ ss, x < n) (hj : j ≤ ss.length) (hs : s ∉ ss.take j) : ln (fit n ss d j) s = 0 := by
  induction j with
  | zero => simp [fit, ln, List.getElem?_replicate]; split <;> rfl
  | succ j ih =>
    have hm := ln_mem ss j (by omega)
    rw [fit, ln_set _ _ _ _ (by rw [fit_length]; exact hlt _ hm), if_neg, ih (by omega)]
    · intro h; exact hs (List.mem_of_mem_take (l := ss.take (j + 1)) (i := j) (by rw [List.take_take, Nat.min_eq_left (by omega)]; exact h))
    · intro h
      subst h
      apply hs
      rw [List.mem_take_iff_getElem]
      exact ⟨j, by omega, by simp [ln, show j < ss.length by omega]⟩
theorem not_before (hnd : ss.Nodup) (j : Nat) (hj : j < ss.length) : ln ss j ∉ ss.take j := by
  intro h
  rw [List.mem_take_iff_getElem] at h
  obtain ⟨i, hi, he⟩ := h
  have h2 : ss[i] = ss[j] := by simpa [ln, hj] using he
  exact (List.pairwise_iff_getElem.1 hnd i j (by omega) hj (by omega)) h2
theorem fit_sum (hnd : ss.Nodup) (hlt : ∀ x ∈ ss, x < n) (f : Nat → Nat → Nat) (hf : ∀ s, f s 0 = 0) (j : Nat) (hj : j ≤ ss.length) : sumTo n (fun s => f s (ln (fit n ss d j) s)) = sumTo j (fun i => f (ln ss i) (max (ln d i) 1)) := by
  induction j with
  | zero =>
    rw [sumTo_congr (g := fun _ => 0) fun i _ => by rw [fit_out 0 i hlt (by omega) (by simp), hf], sumTo_const]
    rfl
  | succ j ih =>
    have hm := hlt _ (ln_mem ss j (by omega))
    rw [fit, sumTo_set _ _ _ f (by rw [fit_length]; exact hm) (fit_out j _ hlt (by omega) (not_before hnd j (by omega))) (hf _) n (by rw [fit_length]; exact Nat.le_refl _), ih (by omega), if_pos hm, sumTo]
theorem fit_pos (hlt : ∀ x ∈ ss, x < n) (j s : Nat) (hj : j ≤ ss.length) : 0 < ln (fit n ss d j) s ↔ s ∈ ss.take j := by
  constructor
  · intro h
    rcases Classical.em (s ∈ ss.take j) with h1 | h1
    · exact h1
    · rw [fit_out j s hlt hj h1] at h; omega
  · induction j with
    | zero => intro h; simp at h
    | succ j ih =>
      intro h
      rw [fit, ln_set _ _ _ _ (by rw [fit_length]; exact hlt _ (ln_mem ss j (by omega)))]
      split
      · omega
      · rename_i hne
        refine ih (by omega) ?_
        rw [List.take_add_one, List.mem_append] at h
        rcases h with h | h
        · exact h
        · exfalso
          rw [List.getElem?_eq_getElem (by omega)] at h
          simp at h
          exact hne (by rw [h]; simp [ln, show j < ss.length by omega])
theorem fit_max (hlt : ∀ x ∈ ss, x < n) (m : Nat) (hm : 1 ≤ m) (hd : ∀ i, ln d i ≤ m) (j s : Nat) (hj : j ≤ ss.length) : ln (fit n ss d j) s ≤ m := by
  induction j with
  | zero => rw [fit_out 0 s hlt (by omega) (by simp)]; omega
  | succ j ih =>
    rw [fit, ln_set _ _ _ _ (by rw [fit_length]; exact hlt _ (ln_mem ss j (by omega)))]
    have := hd j
    split
    · omega
    · exact ih (by omega)
end
/-- The counts that come, the rarest first. -/
def Wt6 (c W : List Nat) : Prop := Rise W ∧ W.Perm (c.filter fun x => decide (0 < x))
theorem Wt6.eq {c W V : List Nat} (h : Wt6 c W) (k : Wt6 c V) : W = V := rise_eq h.1 k.1 (h.2.trans k.2.symm)
theorem Wt6.pos {c W : List Nat} (h : Wt6 c W) : ∀ x ∈ W, 0 < x := fun x hx => by
  have := h.2.mem_iff.1 hx
  simp at this
  exact this.2
theorem Wt6.low {c W : List Nat} (h : Wt6 c W) (hl : Low6 c) : Low6 W := fun x hx => by
  have := h.2.mem_iff.1 hx
  simp at this
  exact hl x this.1
theorem syms_map (c : List Nat) : (syms c c.length).map (ln c) = c.filter fun x => decide (0 < x) := by
  unfold syms
  have h : c = (List.range c.length).map (ln c) := by
    apply List.ext_getElem
    · simp
    · intro i h1 h2; simp [ln, h1]
  conv => rhs; rw [h]
  rw [List.filter_map]
  rfl
theorem syms_nodup (c : List Nat) (k : Nat) : (syms c k).Nodup := List.Pairwise.filter _ List.nodup_range
theorem Wt6.of {c ss : List Nat} (hp : ss.Perm (syms c c.length)) (hr : Rise (ss.map (ln c))) : Wt6 c (ss.map (ln c)) := ⟨hr, by rw [← syms_map]; exact hp.map _⟩
theorem mem_syms (c : List Nat) (s : Nat) : s ∈ syms c c.length ↔ 0 < ln c s := by
  simp [syms]
  intro h
  rcases Nat.lt_or_ge s c.length with h1 | h1
  · exact h1
  · simp [ln, h1] at h

/-- What lengths cost. -/
def costOf (c L : List Nat) : Nat := sumTo c.length (fun s => ln c s * ln L s)
/-- The power that a length takes of 2^K. -/
def pw (K l : Nat) : Nat := if l = 0 then 0 else 2 ^ (K - l)
def nz (l : Nat) : Nat := if l = 0 then 0 else 1
/-- Lengths that fit: up to most, full, of one symbol a lone one. -/
structure Good (c L : List Nat) (K most cost : Nat) : Prop where
  len : L.length = c.length
  pos : ∀ s, 0 < ln L s ↔ 0 < ln c s
  top : ∀ s, ln L s ≤ most
  num : sumTo c.length (fun s => nz (ln L s)) = (c.filter fun x => decide (0 < x)).length
  full : 2 ≤ (c.filter fun x => decide (0 < x)).length → sumTo c.length (fun s => pw K (ln L s)) = 2 ^ K
  lone : (c.filter fun x => decide (0 < x)).length = 1 → ∀ s, ln L s ≤ 1
  cost : costOf c L = cost
theorem good_of {c ss d : List Nat} {K most cost : Nat} (hp : ss.Perm (syms c c.length)) (hm : 1 ≤ most) (hdl : d.length = ss.length) (hd : ∀ i, ln d i ≤ most)
    (hfull : 2 ≤ ss.length → (∀ i, i < ss.length → 0 < ln d i) ∧ sumTo ss.length (fun i => 2 ^ (K - ln d i)) = 2 ^ K) (hlone : ss.length = 1 → ln d 0 ≤ 1)
    (hcost : sumTo ss.length (fun i => ln (ss.map (ln c)) i * max (ln d i) 1) = cost) : Good c (fit c.length ss d ss.length) K most cost := by
  have hlt : ∀ x ∈ ss, x < c.length := fun x hx => syms_lt c _ x (hp.mem_iff.1 hx)
  have hnd : ss.Nodup := hp.nodup_iff.2 (syms_nodup c _)
  have hlen : (c.filter fun x => decide (0 < x)).length = ss.length := by rw [← syms_map, List.length_map, hp.length_eq]
  have hat : ∀ i, i < ss.length → ln (ss.map (ln c)) i = ln c (ln ss i) := fun i hi => by simp [ln, hi]
  refine ⟨fit_length _ _ _ _, fun s => ?_, fun s => fit_max hlt most hm hd _ s (Nat.le_refl _), ?_, fun h2 => ?_, fun h1 s => ?_, ?_⟩
  · rw [fit_pos hlt _ s (Nat.le_refl _), List.take_length, hp.mem_iff, mem_syms]
  · rw [hlen, fit_sum hnd hlt (fun _ l => nz l) (fun _ => rfl) _ (Nat.le_refl _), sumTo_congr (g := fun _ => 1) (fun i _ => by unfold nz; rw [if_neg (by omega)]), sumTo_const, Nat.mul_one]
  · rw [hlen] at h2
    obtain ⟨h3, h4⟩ := hfull h2
    rw [fit_sum hnd hlt (fun _ l => pw K l) (fun _ => rfl) _ (Nat.le_refl _), ← h4]
    refine sumTo_congr fun i hi => ?_
    have := h3 i hi
    unfold pw
    rw [if_neg (by omega), Nat.max_eq_left (by omega)]
  · rw [hlen] at h1
    refine fit_max hlt 1 (Nat.le_refl _) (fun i => ?_) _ s (Nat.le_refl _)
    rcases Nat.eq_zero_or_pos i with h | h
    · subst h; exact hlone h1
    · simp [ln, show d.length ≤ i by omega]
  · unfold costOf
    rw [fit_sum hnd hlt (fun s l => ln c s * l) (fun _ => Nat.mul_zero _) _ (Nat.le_refl _), ← hcost]
    exact sumTo_congr fun i hi => by rw [hat i hi]

/-- What the packages of a limit cost. -/
def leastOf (W : List Nat) (most : Nat) : Nat := if W.length < 2 then W.sum else ((rs W (most - 1)).take (2 * (W.length - 1))).sum
theorem sumTo_ge {n : Nat} {f : Nat → Nat} (h1 : ∀ i, i < n → 1 ≤ f i) (j : Nat) (hj : j < n) : f j + (n - 1) ≤ sumTo n f := by
  induction n with
  | zero => omega
  | succ n ih =>
    rw [sumTo]
    rcases Nat.lt_or_ge j n with h | h
    · have := ih (fun i hi => h1 i (by omega)) h
      have := h1 n (by omega)
      omega
    · obtain rfl : j = n := by omega
      have : j * 1 ≤ sumTo j f := by
        rw [← sumTo_const]
        exact sumTo_mono fun i hi => h1 i (by omega)
      omega
theorem pack_full {W : List Nat} (hr : Rise W) (hp : ∀ x ∈ W, 0 < x) (most : Nat) (hm : 1 ≤ most) (h2 : 2 ≤ W.length) (hpow : W.length ≤ 2 ^ most) :
    (∀ j, dp (lv6 W (most - 1) (2 * (W.length - 1))) j ≤ most) ∧ (∀ j, j < W.length → 0 < dp (lv6 W (most - 1) (2 * (W.length - 1))) j) ∧ sumTo W.length (fun j => 2 ^ (most - dp (lv6 W (most - 1) (2 * (W.length - 1))) j)) = 2 ^ most ∧
    sumTo W.length (fun j => ln W j * dp (lv6 W (most - 1) (2 * (W.length - 1))) j) = leastOf W most := by
  obtain ⟨q, rfl⟩ : ∃ q, most = q + 1 := ⟨most - 1, by omega⟩
  rw [Nat.add_sub_cancel]
  have hlong := rs_long W q hpow
  have hmax := lv_max W q _ hlong
  have hlen := lv_length W q (2 * (W.length - 1))
  have h3 := dp_full W.length (lv6 W q (2 * (W.length - 1))) (lv_falls hr hp q _ hlong) hmax
  have h4 := lv_kraft W q _ hlong
  have h5 := dp_cost W (lv6 W q (2 * (W.length - 1))) hmax
  rw [lv_cost W q _ hlong] at h5
  generalize lv6 W q (2 * (W.length - 1)) = ls at *
  rw [hlen, h4] at h3
  have e1 : 2 * (W.length - 1) * 2 ^ q = (W.length - 1) * 2 ^ (q + 1) := by rw [Nat.pow_succ, Nat.mul_comm 2 (W.length - 1), Nat.mul_assoc, Nat.mul_comm 2 (2 ^ q)]
  have e2 : W.length * 2 ^ (q + 1) = (W.length - 1) * 2 ^ (q + 1) + 2 ^ (q + 1) := by
    obtain ⟨m, hm⟩ : ∃ m, W.length = m + 1 := ⟨W.length - 1, by omega⟩
    rw [hm, Nat.add_mul, Nat.one_mul, Nat.add_sub_cancel]
  have h6 : sumTo W.length (fun j => 2 ^ (q + 1 - dp ls j)) = 2 ^ (q + 1) := by rw [e1] at h3; omega
  refine ⟨fun j => by have := dp_le ls j; omega, fun j hj => ?_, h6, ?_⟩
  · rcases Nat.eq_zero_or_pos (dp ls j) with h | h
    · exfalso
      have := sumTo_ge (f := fun j => 2 ^ (q + 1 - dp ls j)) (fun i _ => Nat.pow_pos (by decide)) j hj
      rw [h6] at this
      simp only [h, Nat.sub_zero] at this
      omega
    · exact h
  · unfold leastOf
    rw [if_neg (by omega), Nat.add_sub_cancel, h5]
theorem dpt_at (n : Nat) (ls : List Nat) (i : Nat) (hi : i < n) : ln (dpt n ls) i = dp ls i := map_at n _ i hi

/-- The program's lengths, by packages, fit. -/
theorem pack_good {c ss : List Nat} {most : Nat} (hp : ss.Perm (syms c c.length)) (hr : Rise (ss.map (ln c))) (hm : 1 ≤ most) (hm15 : most ≤ 15) (hpow : ss.length ≤ 2 ^ most) :
    Good c (fit c.length ss (if ss.length < 2 then List.replicate ss.length 0 else dpt ss.length (lv6 (ss.map (ln c)) (most - 1) (2 * (ss.length - 1)))) ss.length) 15 most (leastOf (ss.map (ln c)) most) := by
  have hw := Wt6.of hp hr
  have hl : (ss.map (ln c)).length = ss.length := List.length_map ..
  by_cases h2 : ss.length < 2
  · rw [if_pos h2]
    refine good_of hp hm (by simp) (fun i => ?_) (fun h => by omega) (fun _ => ?_) ?_
    · simp [ln, List.getElem?_replicate]; split <;> simp
    · simp [ln, List.getElem?_replicate]; split <;> simp
    · unfold leastOf
      rw [if_pos (by rw [hl]; exact h2), ← List.take_length (l := ss.map (ln c)), take_sum _ _ (Nat.le_refl _), hl]
      refine sumTo_congr fun i _ => ?_
      have : ln (List.replicate ss.length 0) i = 0 := by simp [ln, List.getElem?_replicate]; split <;> rfl
      rw [this, List.take_of_length_le (by rw [hl]; exact Nat.le_refl _)]
      simp
  · rw [if_neg h2]
    obtain ⟨f1, f2, f3, f4⟩ := pack_full hr hw.pos most hm (by omega) (by rw [hl]; exact hpow)
    rw [hl] at f1 f2 f3 f4
    refine good_of hp hm (dpt_length _ _) (fun i => ?_) (fun _ => ⟨fun i hi => by rw [dpt_at _ _ i hi]; exact f2 i hi, ?_⟩) (fun h => by omega) ?_
    · rcases Nat.lt_or_ge i ss.length with h | h
      · rw [dpt_at _ _ i h]; exact f1 i
      · simp [ln, dpt, h]
    · have e : ∀ i, i < ss.length → 2 ^ (15 - ln (dpt ss.length (lv6 (ss.map (ln c)) (most - 1) (2 * (ss.length - 1)))) i) = 2 ^ (most - dp (lv6 (ss.map (ln c)) (most - 1) (2 * (ss.length - 1))) i) * 2 ^ (15 - most) := fun i hi => by
        rw [dpt_at _ _ i hi, ← Nat.pow_add]
        congr 1
        have := f1 i
        omega
      rw [sumTo_congr e]
      have hmul : ∀ (n : Nat) (f : Nat → Nat) (k : Nat), sumTo n (fun i => f i * k) = sumTo n f * k := fun n f k => by
        induction n with
        | zero => simp [sumTo]
        | succ n ih => rw [sumTo, sumTo, ih, Nat.add_mul]
      rw [hmul, f3, ← Nat.pow_add]
      congr 1
      omega
    · rw [← f4]
      refine sumTo_congr fun i hi => ?_
      rw [dpt_at _ _ i hi, Nat.max_eq_left (f2 i hi)]
end Go.Proofs.Ytjlkjebmilfgoaa
