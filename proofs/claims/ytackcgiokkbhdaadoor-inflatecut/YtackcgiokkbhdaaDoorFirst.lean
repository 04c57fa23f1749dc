/- Layer 8, the program: the code by which the lengths of the two others are told. -/
import Derived.Test.YtackcgiokkbhdaaDoorCodes2
import Derived.Test.YtackcgiokkbhdaaDoorStored
namespace Go.Proofs.YtackcgiokkbhdaaDoor
open Go.RowKit

/-- The table at package level. -/
def GTab (w : World) : Prop := ∀ i, i < 19 → w.cell? ⟨0, i, none⟩ = some (.int .i64 (order.getD i 0 : Nat))
theorem GTab.keep {w w' : World} {S : Nat → Prop} (h : GTab w) (k : Only S w w') (h0 : ¬ S 0) : GTab w' := fun i hi => k.cell (h i hi) h0
theorem order_lt : ∀ i, order.getD i 0 < 19 := by
  intro i
  rcases Nat.lt_or_ge i 19 with h | h
  · have : ∀ j : Fin 19, order.getD j.val 0 < 19 := by decide +kernel
    exact this ⟨i, h⟩
  · rw [List.getD_eq_getElem?_getD, List.getElem?_eq_none (by simpa [order] using h)]
    decide
theorem firsts_length (B : List UInt8) (a : Nat) : ∀ i, (firsts B a i).length = 19
  | 0 => by simp [firsts]
  | i + 1 => by rw [firsts, List.length_set]; exact firsts_length B a i
theorem firsts_low (B : List UInt8) (a : Nat) : ∀ i, Low (firsts B a i)
  | 0 => by intro x hx; simp [firsts] at hx; omega
  | i + 1 => by
    intro x hx
    rw [firsts] at hx
    rcases List.mem_or_eq_of_mem_set hx with h | h
    · exact firsts_low B a i x h
    · have := nm_lt B (a + 3 * i) 3
      omega
theorem firsts_lens (B : List UInt8) (a i : Nat) : Lens (firsts B a i) := ⟨firsts_low B a i, by rw [firsts_length]; decide⟩

def FirstPost (w : World) (b : Nat) (s : ByteArray) (a n : Nat) (e : Ending) (w' : World) : Prop := Only (· = b) w w' ∧
  if 8 * s.size < a + 3 * n then e = .returned (.tuple #[.pointer none, .int .i64 3]) else Rd w' b s (a + 3 * n) false ∧
    if (kd (firsts (bitsOf s.data.toList) a n)).2 ≠ 0 then e = .returned (.tuple #[.pointer none, .int .i64 10]) else ∃ T, e = .returned (.tuple #[.pointer (some ⟨T, 0, none⟩), .int .i64 0]) ∧ Tab w' w.heap.size T (firsts (bitsOf s.data.toList) a n)

/-- Where reading the first code's lengths stands. -/
structure FAt (w : World) (b : Nat) (s : ByteArray) (a G k : Nat) (l : List Nat) (a' : Nat) (f : Bool) (wx : World) : Prop where
  len : l.length = 19
  rd : Rd wx b s a' f
  le : a' ≤ 8 * s.size
  row : Row 3 wx (some ⟨G, 0, none⟩) 19 19 (ints l)
  bad : f = true → 8 * s.size < a + 3 * k
  good : f = false → a' = a + 3 * k ∧ l = firsts (bitsOf s.data.toList) a k
  only : Only (· = b) w wx

theorem one_bits (s : ByteArray) (a' : Nat) (f : Bool) (ha : a' ≤ 8 * s.size) : ∃ v b2 f2, rBits s a' f 3 = (v, b2, f2) ∧ v < 8 ∧ b2 ≤ 8 * s.size ∧ (f = true → f2 = true) ∧ (f = false → (f2 = true → 8 * s.size < a' + 3) ∧ (f2 = false → v = nm (bitsOf s.data.toList) a' 3 ∧ b2 = a' + 3)) := by
  unfold rBits
  by_cases h : short s.size a' f 3 = true
  · rw [if_pos h]
    refine ⟨0, a', true, rfl, by decide, ha, fun _ => rfl, fun hf => ⟨fun _ => ?_, fun h => by cases h⟩⟩
    subst hf
    simp [short] at h
    omega
  · rw [if_neg h]
    have hh := h
    simp [short] at hh
    refine ⟨_, _, _, rfl, ?_, ?_, fun hf => ?_, fun hf => ⟨fun h => (by cases h), fun _ => ⟨nm_of s a' 3, rfl⟩⟩⟩
    · exact Nat.mod_lt _ (by decide)
    · show a' + 3 ≤ _
      omega
    · subst hf
      simp [short] at h

set_option maxRecDepth 100000 in
set_option maxHeartbeats 4000000 in
theorem firstCode (b d : Nat) (s : ByteArray) (a n : Nat) (w : World) (hg : GTab w) (hc : w.cell? ⟨d, 0, none⟩ = some (.pointer (some ⟨b, 0, none⟩))) (hbd : d ≠ b) (hb0 : b ≠ 0) (hr : Rd w b s a false) (hs : s.size ≤ 1073741824) (ha : a ≤ 8 * s.size) (hn : n ≤ 19) :
    Calls Tryd.prog 61 #[.pointer (some ⟨d, 0, none⟩), .int .i64 n] w (FirstPost w b s a n) := by
  have hmk := run_make_row (P := Tryd.prog) Tryd.underlying26 info3 (by decide) 19 (by decide) w
  have hz := zeros_made (e := 3) (w := w) (kd := .i64) 19 (by decide)
  have h0 : FAt w b s a w.heap.size 0 (List.replicate 19 0) a false (w.alloc (.cells (List.replicate 19 (Value.int .i64 0)).toArray 3)) :=
    ⟨rfl, hr.only ((Only.refl (fun _ => False) w).alloc _) (fun f => f), ha, hz.1, fun h => (by cases h), fun _ => ⟨rfl, rfl⟩, (Only.refl _ w).alloc _⟩
  obtain ⟨wa, hwa⟩ : ∃ wa, w.alloc (.cells (List.replicate 19 (Value.int .i64 0)).toArray 3) = wa := ⟨_, rfl⟩
  rw [hwa] at hmk h0
  obtain ⟨G, hG⟩ : ∃ G, w.heap.size = G := ⟨_, rfl⟩
  rw [hG] at hmk h0
  have hmk : (Instr.makeSlice 26 (.int .i64 19) (.int .i64 19)).run Tryd.prog w = .ok (.slice (some ⟨G, 0, none⟩) 19 19) wa := hmk
  have H0 := Lib.hid h0
  have hlb := hr.lt
  have hld := cell_lt hc
  have hGb : G ≠ b := by omega
  have hGd : G ≠ d := by
    have : d < w.heap.size := hld
    omega
  have hG0 : G ≠ 0 := by omega
  have HS : Hid (∀ wx i, Only (· = b) w wx → i < 19 → wx.cell? ⟨0, i, none⟩ = some (.int .i64 (order.getD i 0 : Nat)) ∧ wx.cell? ⟨d, 0, none⟩ = some (.pointer (some ⟨b, 0, none⟩))) := Lib.hid fun wx i ho hi => ⟨(hg.keep ho fun e => hb0 e.symm) i hi, ho.cell hc hbd⟩
  have HG := Lib.hid hG
  clear h0 hz hwa hr hg hc hG hlb hld ha
  go_enter Tryd.func61, Tryd.ntmps61
  go_wp2_with fail
  go_loopg [7, 11] n (fun gk u i wx => ∃ (k : Nat) (l : List Nat) (a' : Nat) (f : Bool), i = .int .i64 k ∧ k + gk ≤ n ∧ n ≤ k + gk ∧ Hid (FAt w b s a G k l a' f wx))
  case atStart => exact ⟨0, _, _, _, rfl, by omega, by omega, H0⟩
  case round =>
    clear H0 hmk
    obtain ⟨k, l, a', f, rfl, hk, hk2, HF⟩ := hrel
    by_cases hlt : k < n
    · have hk19 : k < 19 := by omega
      obtain ⟨v, b2, f2, e1, v8, b8, q1, q2⟩ := one_bits s a' f HF.out.le
      have HB := Lib.hid (rdBits b s a' f 3 wr.drew HF.out.rd.drew hs HF.out.le)
      rw [e1] at HB
      have hol := order_lt k
      obtain ⟨o, ho⟩ : ∃ o, order.getD k 0 = o := ⟨_, rfl⟩
      have hSx : ∀ wx, Only (· = b) wr.drew wx → wx.cell? ⟨0, k, none⟩ = some (.int .i64 (o : Nat)) ∧ wx.cell? ⟨d, 0, none⟩ = some (.pointer (some ⟨b, 0, none⟩)) := fun wx hox => by rw [← ho]; exact HS.out wx k ((HF.out.only.drew).trans hox) hk19
      have S1 := Lib.hid (hSx wr.drew (Only.refl _ _))
      have SX := Lib.hid hSx
      rw [ho] at hol
      have HN : Hid (∀ w2, Rd w2 b s b2 f2 → Only (· = b) wr.drew w2 → w2.cell? ⟨G, o, none⟩ ≠ none ∧ (∃ u, w2.cell? ⟨G, o, none⟩ = some u) ∧ w2.frozen? ⟨G, o, none⟩ = false ∧ FAt w b s a G (k + 1) (l.set o v) b2 f2 (w2.setCell ⟨G, o, none⟩ (.int .i64 v))) := Lib.hid fun w2 r2 o2 => by
        have hrow : Row 3 w2 (some ⟨G, 0, none⟩) 19 19 (ints l) := HF.out.row.drew.only o2 (by rintro j ⟨ad, e, rfl⟩ e2; obtain rfl := Option.some.inj e; exact hGb e2)
        obtain ⟨g', e3, e4, e5⟩ := hrow.cell (ints_at l o (by rw [HF.out.len]; exact hol))
        simp only [Option.some.injEq, Addr.mk.injEq, and_true] at e3
        subst e3
        refine ⟨by rw [e4]; simp, ⟨_, e4⟩, e5, by rw [List.length_set]; exact HF.out.len, r2.only (Only.one w2 G o _) (fun e => hGb e.symm), b8, ?_, ?_, ?_, ?_⟩
        · rw [← ints_set]
          exact hrow.set o _
        · intro hf
          cases f with
          | true => have := HF.out.bad rfl; omega
          | false =>
            have h1 := (q2 rfl).1 hf
            have h2 := (HF.out.good rfl).1
            omega
        · intro hf
          cases f with
          | true => have := q1 rfl; rw [hf] at this; cases this
          | false =>
            obtain ⟨h1, h2⟩ := (q2 rfl).2 hf
            obtain ⟨h3, h4⟩ := HF.out.good rfl
            refine ⟨by omega, ?_⟩
            rw [firsts, ho, ← h4, h1, h3]
        · exact ((HF.out.only.drew).trans o2).andThen (Only.one w2 G o _) fun j e => .inr (by rw [HG.out]; omega)
      clear e1 q1 q2 b8 ho hSx HF
      go_wp2_with fail
      refine Steps.region (fun W => W.cell? ⟨0, k, none⟩ = some (.int .i64 (o : Nat)) ∧ W.cell? ⟨d, 0, none⟩ = some (.pointer (some ⟨b, 0, none⟩))) [(true, 0), (true, 1), (true, 2), (true, 3), (true, 4), (true, 5), (true, 6), (true, 7), (false, 8), (true, 9), (true, 10), (false, 11)] (by kernel_rfl) (by kernel_rfl) rfl (by kernel_rfl) (fun _ _ d _ _ h => by cases d <;> exact h) ?_
      refine Steps.take (.slice (some ⟨G, 0, none⟩) 19 19) rfl S1.out (fun _ _ => by kernel_rfl) ?_
      simp only [Act.put, List.setIfInBounds_toArray, List.set_cons_succ, List.set_cons_zero]
      refine Steps.take (.int .i64 k) rfl S1.out (fun _ _ => by kernel_rfl) ?_
      simp only [Act.put, List.setIfInBounds_toArray, List.set_cons_succ, List.set_cons_zero]
      refine Steps.take (.pointer (some ⟨0, k, none⟩)) rfl S1.out (fun _ _ => by go_simp; intro hh; omega) ?_
      simp only [Act.put, List.setIfInBounds_toArray, List.set_cons_succ, List.set_cons_zero]
      refine Steps.take (.int .i64 o) rfl S1.out (fun _ hW => by obtain ⟨hw1, hw2⟩ := hW; go_simp) ?_
      simp only [Act.put, List.setIfInBounds_toArray, List.set_cons_succ, List.set_cons_zero]
      refine Steps.take (.pointer (some ⟨d, 0, none⟩)) rfl S1.out (fun _ _ => by kernel_rfl) ?_
      simp only [Act.put, List.setIfInBounds_toArray, List.set_cons_succ, List.set_cons_zero]
      refine Steps.take (.pointer (some ⟨d, 0, none⟩)) rfl S1.out (fun _ _ => by kernel_rfl) ?_
      simp only [Act.put, List.setIfInBounds_toArray, List.set_cons_succ, List.set_cons_zero]
      refine Steps.take (.pointer (some ⟨d, 0, none⟩)) rfl S1.out (fun _ _ => by kernel_rfl) ?_
      simp only [Act.put, List.setIfInBounds_toArray, List.set_cons_succ, List.set_cons_zero]
      refine Steps.take (.pointer (some ⟨b, 0, none⟩)) rfl S1.out (fun _ hW => by obtain ⟨hw1, hw2⟩ := hW; go_simp) ?_
      simp only [Act.put, List.setIfInBounds_toArray, List.set_cons_succ, List.set_cons_zero]
      refine Steps.call 38 #[.pointer (some ⟨b, 0, none⟩), .int .i64 3] rfl (by kernel_rfl) (HB.out.mono ?_)
      rintro e w2 ⟨rfl, hr2, ho2⟩
      refine ⟨_, rfl, SX.out w2 ho2, ?_⟩
      obtain ⟨_, ⟨u, hu⟩, hfz, hfa⟩ := HN.out w2 hr2 ho2
      have HFA := Lib.hid hfa
      have HSW := Lib.hid (SX.out w2 ho2)
      clear hr2 ho2 hfa HB SX S1 HN
      simp only [Act.put, List.setIfInBounds_toArray, List.set_cons_succ, List.set_cons_zero]
      refine Steps.take (.int .i64 v) rfl HSW.out (fun _ _ => by go_simp; exact IntWalk.i64_in _ (by omega)) ?_
      simp only [Act.put, List.setIfInBounds_toArray, List.set_cons_succ, List.set_cons_zero]
      refine Steps.take (.pointer (some ⟨G, o, none⟩)) rfl HSW.out (fun _ _ => by go_simp; intro hh; omega) ?_
      simp only [Act.put, List.setIfInBounds_toArray, List.set_cons_succ, List.set_cons_zero]
      refine Steps.skip (w' := w2.setCell ⟨G, o, none⟩ (.int .i64 v)) rfl (by go_simp) ⟨(World.cell?_of_block (Below.heap_setCell _ ⟨G, o, none⟩ _ 0 (Ne.symm hG0))).trans HSW.out.1, (World.cell?_of_block (Below.heap_setCell _ ⟨G, o, none⟩ _ d (Ne.symm hGd))).trans HSW.out.2⟩ ?_
      simp only [Act.put]
      show wpList _ _ _ _ _ _
      go_wp2_with fail
      go_roundg (gk - 1)
      case measure => omega
      case rel => exact ⟨k + 1, _, _, _, by go_num, by omega, by omega, HFA⟩
    · obtain rfl : k = n := by omega
      have hsd := (HS.out wr 0 HF.out.only (by decide)).2
      cases f with
      | true =>
        have HP : Hid (FirstPost w b s a k (.returned (.tuple #[.pointer none, .int .i64 3])) wr) := Lib.hid ⟨HF.out.only, by rw [if_pos (HF.out.bad rfl)]⟩
        have HRD := Lib.hid HF.out.rd
        clear HF HS
        go_wp2_with fail
        refine (err b s a' true wr HRD.out).mono ?_
        rintro e w3 ⟨rfl, rfl⟩
        go_wp2
        go_ret2
        exact HP.out
      | false =>
        obtain ⟨g1, g2⟩ := HF.out.good rfl
        have hle := HF.out.le
        have hin : ¬ 8 * s.size < a + 3 * k := by omega
        have HRD := Lib.hid HF.out.rd
        have HFO := Lib.hid HF.out.only
        have hlen := firsts_lens (bitsOf s.data.toList) a k
        rw [← g2] at hlen
        have hsee := HF.out.row.see
        have hl19 := HF.out.len
        rcases kd_two l with kk | kk
        · have HN := Lib.hid (new_yes (some ⟨G, 0, none⟩) 19 19 _ l wr hsee (Nat.le_refl _) hl19 (by decide) hlen.low kk)
          have HP : Hid (∀ T w2, Tab w2 wr.heap.size T l → Only (fun _ => False) wr w2 → FirstPost w b s a k (.returned (.tuple #[.pointer (some ⟨T, 0, none⟩), .int .i64 0])) w2) := Lib.hid fun T w2 t o => by
            refine ⟨HFO.out.trans (o.mono fun _ f => f.elim), ?_⟩
            rw [if_neg hin]
            refine ⟨by rw [← g1]; exact HRD.out.only o fun f => f, ?_⟩
            rw [← g2, if_neg (by rw [kk]; simp)]
            exact ⟨T, rfl, t.less HFO.out.size⟩
          clear HF HS hsee hlen
          go_wp2_with fail
          refine (err b s a' false wr HRD.out).mono ?_
          rintro e w3 ⟨rfl, rfl⟩
          go_wp2_with fail
          refine HN.out.mono ?_
          rintro e w4 ⟨T, rfl, t4, o4, _⟩
          have HPP := Lib.hid (HP.out T w4 t4 o4)
          clear t4 o4 HN HP
          go_wp2
          go_ret2
          exact HPP.out
        · have HN := Lib.hid (new_bad (some ⟨G, 0, none⟩) 19 19 _ 10 wr (by have := check_yes (some ⟨G, 0, none⟩) 19 19 _ l wr hsee hl19 (by decide) hlen.low; rw [kk] at this; exact this) (by decide))
          have HP : Hid (∀ w2, Only (fun _ => False) wr w2 → FirstPost w b s a k (.returned (.tuple #[.pointer none, .int .i64 10])) w2) := Lib.hid fun w2 o => by
            refine ⟨HFO.out.trans (o.mono fun _ f => f.elim), ?_⟩
            rw [if_neg hin]
            refine ⟨by rw [← g1]; exact HRD.out.only o fun f => f, ?_⟩
            rw [← g2, if_pos (by rw [kk]; decide)]
          clear HF HS hsee hlen
          go_wp2_with fail
          refine (err b s a' false wr HRD.out).mono ?_
          rintro e w3 ⟨rfl, rfl⟩
          go_wp2_with fail
          refine HN.out.mono ?_
          rintro e w4 ⟨rfl, o4⟩
          have HPP := Lib.hid (HP.out w4 o4)
          clear o4 HN HP
          go_wp2
          go_ret2
          exact HPP.out
end Go.Proofs.YtackcgiokkbhdaaDoor
