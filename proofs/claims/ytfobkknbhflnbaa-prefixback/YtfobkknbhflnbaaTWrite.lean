/- Layer 5: a symbol written by a table: the program's Bits and Write. -/
import Derived.Test.YtfobkknbhflnbaaTRead
namespace Go.Proofs.Ytfobkknbhflnbaa
open Go.RowKit

theorem tbits_nil (z : Int) (w : World) : Calls Try.prog 20 #[.pointer none, .int .i64 z] w fun e w' => e = .returned (.int .i64 0) ∧ w = w' := by
  go_enter Try.func20, Try.ntmps20
  go_wp2
  go_ret
  exact ⟨rfl, rfl⟩
theorem tbits_in (T s : Nat) (l : List Nat) (w : World) (h : Tab w T l) (hs : s < l.length) : Calls Try.prog 20 #[.pointer (some ⟨T, 0, none⟩), .int .i64 s] w fun e w' => e = .returned (.int .i64 (ln l s : Nat)) ∧ w = w' := by
  obtain ⟨A1, A2, A3, A4, c1, c2, c3, c4, h0, h1, h2, h3, h4⟩ := h
  have t0 := h0.cell 0 rfl
  obtain ⟨b, off, rfl, _, q⟩ := h1 s _ (ints_at l s hs)
  obtain ⟨x, hx⟩ : ∃ x, ln l s = x := ⟨_, rfl⟩
  obtain ⟨n, hn⟩ : ∃ n, l.length = n := ⟨_, rfl⟩
  rw [hx] at q ⊢
  rw [hn] at hs t0
  clear h0 h1 h2 h3 h4 hx hn
  go_enter Try.func20, Try.ntmps20
  go_wp2
  go_ret
  exact ⟨rfl, rfl⟩
theorem tbits_out (T : Nat) (z : Int) (l : List Nat) (w : World) (h : Tab w T l) (hz : z < 0 ∨ (l.length : Int) ≤ z) : Calls Try.prog 20 #[.pointer (some ⟨T, 0, none⟩), .int .i64 z] w fun e w' => e = .returned (.int .i64 0) ∧ w = w' := by
  obtain ⟨A1, A2, A3, A4, c1, c2, c3, c4, h0, h1, h2, h3, h4⟩ := h
  have t0 := h0.cell 0 rfl
  obtain ⟨n, hn⟩ : ∃ n, l.length = n := ⟨_, rfl⟩
  rw [hn] at hz t0
  clear h0 h1 h2 h3 h4 hn
  by_cases h0 : z < 0
  · have d0 : decide (z < 0) = true := by simpa using h0
    clear hz
    go_enter Try.func20, Try.ntmps20
    go_wp2
    go_ret
    exact ⟨rfl, rfl⟩
  · have d0 : decide (z < 0) = false := by simpa using h0
    have h1 : (n : Int) ≤ z := by omega
    clear hz
    go_enter Try.func20, Try.ntmps20
    go_wp2
    go_ret
    exact ⟨rfl, rfl⟩

/-- A writer that holds the bits bl; it, and its bytes, lie from block D on. -/
def Wo (w : World) (D b : Nat) (bl : List UInt8) : Prop := ∃ A n c l, Wrt w b A n c bl.length l ∧ le l = le2 bl ∧ D ≤ b ∧ ∀ j, Lies A j → D ≤ j
theorem Wo.start (w : World) (D : Nat) (hD : D ≤ w.heap.size) : Wo (w.alloc (.cells #[.slice none 0 0, .int .i64 0] 70)) D w.heap.size [] :=
  ⟨none, 0, 0, [], ⟨⟨Is.new w 70 _, BRow.nil 5 _⟩, rfl, by decide⟩, rfl, hD, by rintro j ⟨ad, e, _⟩; cases e⟩
theorem Wo.keep {w w' : World} {D b : Nat} {bl : List UInt8} (h : Wo w D b bl) (S : Nat → Prop) (k : Only S w w') (hS : ∀ j, S j → j < D ∨ w.heap.size ≤ j) : Wo w' D b bl := by
  obtain ⟨A, n, c, l, hw, he, hb, hA⟩ := h
  have h1 : ¬ S b := fun hs => by
    have := hS b hs
    have := hw.wr.1.lt
    omega
  refine ⟨A, n, c, l, ⟨⟨hw.wr.1.only k h1, hw.wr.2.only k fun j hj hs => ?_⟩, hw.len, hw.lt⟩, he, hb, hA⟩
  have := hS j hs
  have := hw.wr.2.lt j hj
  have := hA j hj
  omega
theorem wtext (D b : Nat) (bl : List UInt8) (w : World) (h : Wo w D b bl) :
    Calls Try.prog 22 #[.pointer (some ⟨b, 0, none⟩)] w fun e w' => (∃ t : List UInt8, e = .returned (.string ⟨t.toArray⟩) ∧ t.length = (bl.length + 7) / 8 ∧ le t = le2 bl) ∧ w = w' := by
  obtain ⟨A, n, c, l, hw, he, hb, hA⟩ := h
  refine (text b A n c bl.length l w hw.wr).mono ?_
  rintro e w' ⟨rfl, rfl⟩
  exact ⟨⟨l, rfl, by rw [hw.wr.2.len]; exact hw.len, he⟩, rfl⟩

theorem twrite_none (T : Option Addr) (v : Value) (z : Int) (w : World) (h : Calls Try.prog 20 #[.pointer T, .int .i64 z] w fun e w' => e = .returned (.int .i64 0) ∧ w = w') :
    Calls Try.prog 19 #[.pointer T, v, .int .i64 z] w fun e w' => e = .returned (.int .i64 1) ∧ w = w' := by
  go_enter Try.func19, Try.ntmps19
  go_wp2_with fail
  refine h.mono ?_
  rintro e w' ⟨rfl, rfl⟩
  go_wp2
  go_ret
  exact ⟨rfl, rfl⟩

def WritePost (w : World) (D b : Nat) (bl : List UInt8) (e : Ending) (w' : World) : Prop := e = .returned (.int .i64 0) ∧ Wo w' D b bl ∧ Keep D w w'
set_option maxHeartbeats 1000000 in
theorem twrite (T D b s : Nat) (l : List Nat) (bl : List UInt8) (w : World) (h : Tab w T l) (hw : Wo w D b bl) (hD : D ≤ w.heap.size) (hs : Has l s) (hl : Low l) (hbl : bl.length ≤ 1073741824) :
    Calls Try.prog 19 #[.pointer (some ⟨T, 0, none⟩), .pointer (some ⟨b, 0, none⟩), .int .i64 s] w (WritePost w D b (bl ++ hb (ln l s) (cd l s))) := by
  have HB := Lib.hid (tbits_in T s l w h hs.1)
  have hx := ln_le l s hl
  have hx0 := hs.2
  have htl := td_lt l s hl
  have htd : td l s < 2 ^ ln l s := rv_lt _ _
  have hsl := hs.1
  obtain ⟨A1, A2, A3, A4, c1, c2, c3, c4, h0, h1, h2, h3, h4⟩ := h
  have t1 := h0.cell 1 rfl
  obtain ⟨b2, off2, rfl, _, q⟩ := h2 s _ (hints_at (tds l) s (by rw [tds_length]; exact hsl))
  rw [show ln (tds l) s = td l s from map_at _ _ s hsl] at q
  obtain ⟨A, n, c, ll, hw, he, hb, hA⟩ := hw
  have HP := Lib.hid (put b A n c bl.length (td l s) (ln l s : Nat) ll w hw hbl (by omega))
  have hcl : clamp ((ln l s : Nat) : Int) = ln l s := by unfold clamp; omega
  rw [hcl, Nat.mod_eq_of_lt htd] at HP
  have hfin : le ll + td l s * 2 ^ bl.length = le2 (bl ++ Go.Proofs.Ytfobkknbhflnbaa.hb (ln l s) (cd l s)) := by
    rw [le2_append, le2_hb, he, Nat.mul_comm]
    rfl
  have hlt : le ll + td l s * 2 ^ bl.length < 2 ^ (bl.length + ln l s) := put_lt _ _ _ _ hw.lt htd
  have hlow : ∀ j, (j = b ∨ Lies A j) → D ≤ j := fun j hj => hj.elim (fun e => e ▸ hb) (hA j)
  obtain ⟨x, hx1⟩ : ∃ x, ln l s = x := ⟨_, rfl⟩
  obtain ⟨t, ht1⟩ : ∃ t, td l s = t := ⟨_, rfl⟩
  obtain ⟨N, hN⟩ : ∃ N, l.length = N := ⟨_, rfl⟩
  rw [hx1] at HB hx hx0 HP hfin hlt ⊢
  rw [ht1] at q htl HP hfin hlt
  rw [hN] at t1 hsl
  have HFin := Lib.hid hfin
  have HLt := Lib.hid hlt
  have HLow := Lib.hid hlow
  have HA := Lib.hid hA
  have hx2 : ¬ (x : Int) = 0 := by omega
  clear h0 h1 h2 h3 h4 hx1 ht1 hN hfin hlt hlow hA hw he hs hl htd hcl
  go_enter Try.func19, Try.ntmps19
  go_wp2_with fail
  refine HB.out.mono ?_
  rintro e w' ⟨rfl, rfl⟩
  go_wp2_with fail
  refine HP.out.mono ?_
  rintro e w2 ⟨rfl, A', n', c', l', hw2, hn2, he2, ho2, ha2⟩
  have HW := Lib.hid hw2
  have HN2 := Lib.hid hn2
  have HE := Lib.hid he2
  have HO := Lib.hid ho2
  have HA2 := Lib.hid ha2
  clear hw2 hn2 he2 ho2 ha2 HP HB
  go_wp2
  go_ret
  have hlen : (bl ++ Go.Proofs.Ytfobkknbhflnbaa.hb x (cd l s)).length = bl.length + x := by rw [List.length_append, hb_length]
  refine ⟨rfl, ⟨A', n', c', l', ⟨by rw [hlen]; exact HW.out, by rw [hlen]; exact HN2.out, by rw [hlen, HE.out]; exact HLt.out⟩, by rw [HE.out]; exact HFin.out, hb, ?_⟩, HO.out.mono HLow.out⟩
  intro j hj
  rcases HA2.out with e | ⟨g, e, hg⟩
  · exact HA.out j (e ▸ hj)
  · obtain ⟨ad, e1, rfl⟩ := hj
    rw [e] at e1
    obtain rfl := Option.some.inj e1
    exact Nat.le_trans hD hg
end Go.Proofs.Ytfobkknbhflnbaa
