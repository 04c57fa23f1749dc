/- Layer 6: the symbols that come, in order; their counts; lengths laid at their symbols. -/
import Derived.Test.YtjbohidkjlnalaaSort
namespace Go.Proofs.Ytjbohidkjlnalaa
open Go.RowKit

/-- The symbols that come. -/
def syms (c : List Nat) (k : Nat) : List Nat := (List.range k).filter fun s => decide (0 < ln c s)
theorem syms_succ (c : List Nat) (k : Nat) : syms c (k + 1) = if 0 < ln c k then syms c k ++ [k] else syms c k := by
  unfold syms
  rw [List.range_succ, List.filter_append]
  split
  · rename_i h; simp [h]
  · rename_i h; simp [h]
theorem syms_lt (c : List Nat) (k : Nat) : ∀ x ∈ syms c k, x < k := by
  intro x hx
  simp [syms] at hx
  exact hx.1
theorem syms_length (c : List Nat) (k : Nat) : (syms c k).length ≤ k := by
  refine Nat.le_trans (List.length_filter_le _ _) ?_
  simp
/-- make, with nothing in it yet. -/
theorem run_make_room {P : Program} {t e : TypeId} {z : Value} {sz B : Nat} (ht : P.underlying t = some (.slice e)) (hi : (P.info? e).map (fun i => (i.zero, i.size, i.bytes)) = some (some z, sz, B)) (k : Nat) (hk : B * k ≤ 281474976710656) (hk2 : k ≤ 1073741824) (w : World) :
    (Instr.makeSlice t (.int .i64 0) (.int .i64 k)).run P w = .ok (.slice (some ⟨w.heap.size, 0, none⟩) 0 k) (w.alloc (.cells (madeCells z.cells (k * sz)) e)) := by
  obtain ⟨i, hi, hz, hsz, hby⟩ := info_parts hi
  have h := run_make (P := P) w t e i z ht hi hz .i64 .i64 0 k (by omega) (by omega) (by rw [hby]; omega) (by omega)
  rw [Int.toNat_natCast, hsz] at h
  exact h

def ComingPost (w : World) (c : List Nat) (e : Ending) (w' : World) : Prop := ∃ A cap ss, e = .returned (.slice A ss.length cap) ∧ Only (fun _ => False) w w' ∧ ss.Perm (syms c c.length) ∧ See w' w'.heap.size A (ints ss) ∧ Rise (ss.map (ln c))

theorem ints_snoc (l : List Nat) (x : Nat) : ints (l ++ [x]) = ints l ++ [.int .i64 (x : Nat)] := by simp [ints]
/-- A row with room, as make lays it. -/
theorem room_made {e : TypeId} {w : World} {z : Value} (k : Nat) (hk : k ≤ 1073741824) : Made e w (some ⟨w.heap.size, 0, none⟩) 0 k [] (w.alloc (.cells (madeCells #[z] k) e)) := by
  refine ⟨⟨rfl, .inr ⟨w.heap.size, _, (0, 0), rfl, heap_alloc_new w _, Nat.zero_le _, by unfold maxLen; omega, size_madeCells _ _, by simp, fun i _ => by simp⟩⟩, (Only.refl _ w).alloc _, ?_⟩
  rintro j ⟨ad, e1, rfl⟩
  obtain rfl := Option.some.inj e1
  exact Nat.le_refl _
/-- One number more. -/
theorem Made.snoc {w wx wy : World} {g n c c' : Nat} {A' : Option Addr} {l : List Nat} {x : Nat} {o : Obj} (h : Made 3 w (some ⟨g, 0, none⟩) n c (ints l) wx) (hr : Row 3 wy A' (n + 1) c' (ints l ++ [.int .i64 (x : Nat)])) (ho : Only (Lies (some ⟨g, 0, none⟩)) (wx.alloc o) wy)
    (ha : A' = some ⟨g, 0, none⟩ ∨ A' = some ⟨(wx.alloc o).heap.size, 0, none⟩) : ∃ g', A' = some ⟨g', 0, none⟩ ∧ Made 3 w (some ⟨g', 0, none⟩) (n + 1) c' (ints (l ++ [x])) wy := by
  have h1 := h.append hr ho ha
  rw [← ints_snoc] at h1
  rcases ha with e | e
  · exact ⟨_, e, e ▸ h1⟩
  · exact ⟨_, e, e ▸ h1⟩

set_option maxHeartbeats 2000000 in
theorem coming (A : Option Addr) (n k B : Nat) (c : List Nat) (w : World) (h : See w B A (ints c)) (hB : B ≤ w.heap.size) (hn : c.length = n) (h288 : n ≤ 288) :
    Calls Try.prog 17 #[.slice A n k] w (ComingPost w c) := by
  have hmk := run_make_room Try.underlying22 info3 n (by omega) (by omega) (w.alloc (.cells #[.slice A n k] 22))
  have HW1 : Hid (Is (w.alloc (.cells #[.slice A n k] 22)) w.heap.size 22 [.slice A n k]) := Lib.hid (Is.new w 22 _)
  have HO1 : Hid (Only (fun _ => False) w (w.alloc (.cells #[.slice A n k] 22))) := Lib.hid ((Only.refl _ w).alloc _)
  have hz1 : (w.alloc (.cells #[.slice A n k] 22)).heap.size = w.heap.size + 1 := by simp
  obtain ⟨q, hq⟩ : ∃ q, w.heap.size = q := ⟨_, rfl⟩
  go_enter Try.func17, Try.ntmps17
  go_wp2_with fail
  rw [hq] at HW1 hB hz1
  try rw [hq]
  obtain ⟨w1, hw1⟩ : ∃ w1, w.alloc (.cells #[.slice A n k] 22) = w1 := ⟨_, rfl⟩
  rw [hw1] at HW1 HO1 hz1 ⊢
  have HST : Hid (Made 3 w1 (some ⟨q + 1, 0, none⟩) 0 n (ints (syms c 0)) (w1.alloc (.cells (madeCells #[.int .i64 0] n) 3))) := Lib.hid (by
    rw [← hz1]
    exact room_made n (by omega))
  have HS : Hid (∀ wx, Only (fun _ => False) w1 wx → See wx B A (ints c)) := Lib.hid fun wx ho => h.new (HO1.out.trans ho)
  have HN := Lib.hid hn
  have HQ : Hid (∀ wx, Only (fun _ => False) w1 wx → wx.cell? ⟨q, 0, none⟩ = some (.slice A n k)) := Lib.hid fun wx ho => (HW1.out.only ho id).cell 0 rfl
  have HQL : Hid (w1.heap.size = q + 1) := Lib.hid hz1
  clear hmk hw1 h hz1 hn HW1
  go_loopg [3, 11] n (fun gk v3 i wx => ∃ j m cp g : Nat, i = .int .i64 j ∧ v3 = .slice (some ⟨g, 0, none⟩) m cp ∧ j + gk ≤ n ∧ n ≤ j + gk ∧ m ≤ j ∧ Hid (Made 3 w1 (some ⟨g, 0, none⟩) m cp (ints (syms c j)) wx))
  case atStart => exact ⟨0, 0, n, q + 1, rfl, rfl, by omega, by omega, by omega, HST⟩
  case round =>
    clear HST
    obtain ⟨j, m, cp, g, rfl, rfl, hg, hg2, hmj, HI⟩ := hrel
    by_cases hlt : j < n
    · obtain ⟨b, off, rfl, _, hc⟩ := HS.out wr HI.out.2.1 j _ (ints_at c j (by rw [HN.out]; exact hlt))
      have hss := syms_succ c j
      obtain ⟨x, hx⟩ : ∃ x, ln c j = x := ⟨_, rfl⟩
      rw [hx] at hc hss
      clear hx
      by_cases h0 : 0 < x
      · rw [if_pos h0] at hss
        have HSS := Lib.hid hss
        clear hss
        go_wp2_with (at_builtin
                     refine wpList_append_row rfl (.tmp 18) (.tmp 20) 22 22 3 rfl Try.underlying22 info3 (some ⟨g, 0, none⟩) m cp 1 (ints (syms c j)) [.int .i64 (j : Int)] (.slice (some ⟨wr.heap.size, 0, none⟩) 1 1) rfl rfl (HI.out.1.alloc _) rfl (Src.oneInt Try.underlying22 wr .i64 (j : Int) 1 3) (by omega) (by omega) ?_
                     intro A9 c9 w9 hrow9 honly9 hlies9
                     have H9 := Lib.hid (HI.out.snoc hrow9 honly9 hlies9)
                     clear hrow9 honly9 hlies9)
        obtain ⟨g9, h91, h92⟩ := H9.out
        rw [← HSS.out] at h92
        have H92 := Lib.hid h92
        subst h91
        clear H9 h92
        go_roundg (gk - 1)
        case measure => omega
        case rel => exact ⟨j + 1, m + 1, c9, g9, by go_num, rfl, by omega, by omega, by omega, H92⟩
      · obtain rfl : x = 0 := by omega
        rw [if_neg h0] at hss
        rw [← hss] at HI
        clear hss
        go_wp2_with fail
        go_roundg (gk - 1)
        case measure => omega
        case rel => exact ⟨j + 1, m, cp, g, by go_num, rfl, by omega, by omega, by omega, HI⟩
    · obtain rfl : j = n := by omega
      have hlen : (syms c j).length = m := by have := HI.out.1.len; rw [ints_length] at this; exact this
      have HC : Hid (Calls Try.prog 26 #[.slice (some ⟨g, 0, none⟩) m cp, .func (.func 27) #[] #[.pointer (some ⟨q, 0, none⟩)]] wr fun e w' => e = .returned (.tuple #[]) ∧ ComingPost w c (.returned (.slice (some ⟨g, 0, none⟩) m cp)) w') := Lib.hid (by
        have hgq : q + 1 ≤ g := by rw [← HQL.out]; exact HI.out.2.2 g ⟨_, rfl, rfl⟩
        by_cases hj0 : 0 < j
        · refine (sorted c (syms c j) A j k q B g cp m wr (HS.out wr HI.out.2.1) (by omega) HN.out hj0 (HQ.out wr HI.out.2.1) (by omega) HI.out.1 (syms_lt c j) (by omega)).mono ?_
          rintro e w' ⟨rfl, ho, ss, h1, h2, h3, h4⟩
          refine ⟨rfl, _, cp, ss, by rw [h2], (HO1.out.trans HI.out.2.1).andThen ho (fun i hi => .inr ?_), by rw [HN.out]; exact h1, h3, h4⟩
          rw [hi]
          have := HO1.out.size
          have := HQL.out
          omega
        · obtain rfl : j = 0 := by omega
          obtain rfl : m = 0 := by omega
          refine (sortNone (some ⟨g, 0, none⟩) cp (.func (.func 27) #[] #[.pointer (some ⟨q, 0, none⟩)]) wr).mono ?_
          rintro e w' ⟨rfl, rfl⟩
          refine ⟨rfl, _, cp, [], rfl, HO1.out.trans HI.out.2.1, ?_, fun i v hv => by simp [ints] at hv, List.Pairwise.nil⟩
          rw [HN.out]
          exact List.Perm.refl _)
      clear HI HS HQ HQL
      go_wp2_with fail
      refine HC.out.mono ?_
      rintro e w2 ⟨rfl, h2⟩
      have H2 := Lib.hid h2
      clear h2 HC
      go_wp2
      go_ret
      exact H2.out
end Go.Proofs.Ytjbohidkjlnalaa
