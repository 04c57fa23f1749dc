/- Layer 5: what PrefixBack keeps: a writer, a row of bits and a row of symbols, each apart from the others. -/
import Derived.Test.YtfobkknbhflnbaaRefBits
import Derived.Test.YtfobkknbhflnbaaChecks
namespace Go.Proofs.Ytfobkknbhflnbaa
open Go.RowKit

/-- The bits of symbols, one behind the other. -/
def enc (l th : List Nat) : List UInt8 := th.flatMap fun s => hb (ln l s) (cd l s)
theorem enc_snoc (l th : List Nat) (s : Nat) : enc l (th ++ [s]) = enc l th ++ hb (ln l s) (cd l s) := by simp [enc]
theorem enc_bits (l : List Nat) : ∀ th : List Nat, Bits (enc l th)
  | [] => by intro y hy; simp [enc] at hy
  | s :: th => bits_append (hb_bits _ _) (enc_bits l th)
theorem enc_at (l th : List Nat) (k : Nat) (h : k < th.length) : enc l th = enc l (th.take k) ++ (hb (ln l (ln th k)) (cd l (ln th k)) ++ enc l (th.drop (k + 1))) := by
  have h1 := split_at th k h
  conv => lhs; rw [h1]
  simp [enc]
theorem enc_take (l th : List Nat) (k : Nat) (h : k < th.length) : enc l (th.take (k + 1)) = enc l (th.take k) ++ hb (ln l (ln th k)) (cd l (ln th k)) := by
  have h3 : th.take (k + 1) = th.take k ++ [ln th k] := by rw [List.take_add_one]; simp [ln, h]
  rw [h3, enc_snoc]
theorem bt_mid (X Y Z : List UInt8) (i : Nat) (h : i < Y.length) : bt (X ++ (Y ++ Z)) (X.length + i) = bt Y i := by
  unfold bt
  rw [List.getD_eq_getElem?_getD, List.getElem?_append_right (by omega), Nat.add_sub_cancel_left, List.getElem?_append_left h, ← List.getD_eq_getElem?_getD]
/-- What was written is read again. -/
theorem read_back (l th : List Nat) (t : List UInt8) (k : Nat) (hl : Low l) (hf : fu l 16 ≤ 32768) (hth : ∀ s ∈ th, Has l s) (hk : k < th.length) (ht : le t = le2 (enc l th)) (htl : t.length = ((enc l th).length + 7) / 8) :
    rdp l (bitsOf t) (enc l (th.take k)).length = (ln th k, (enc l (th.take (k + 1))).length, 0) := by
  have hs : Has l (ln th k) := hth _ (by simp [ln, hk])
  have h1 := enc_at l th k hk
  have h2 : (enc l (th.take (k + 1))).length = (enc l (th.take k)).length + ln l (ln th k) := by rw [enc_take l th k hk, List.length_append, hb_length]
  have h3 : (enc l th).length = (enc l (th.take k)).length + (ln l (ln th k) + (enc l (th.drop (k + 1))).length) := by
    conv => lhs; rw [h1]
    rw [List.length_append, List.length_append, hb_length]
  rw [h2]
  refine rdp_code l (bitsOf t) (ln th k) _ hs hl hf (fun i hi => ?_) (by rw [bitsOf_length, htl]; omega)
  rw [bt_le2 _ (bitsOf_bits t), le2_bitsOf, ht, ← bt_le2 _ (enc_bits l th), h1, bt_mid _ _ _ _ (by rw [hb_length]; exact hi), hb_at _ _ _ hi]

theorem Wrt.only {S : Nat → Prop} {w w' : World} {b : Nat} {A : Option Addr} {n c k : Nat} {l : List UInt8} (h : Wrt w b A n c k l) (o : Only S w w') (hb : ¬ S b) (hA : ∀ j, Lies A j → ¬ S j) : Wrt w' b A n c k l :=
  ⟨⟨h.wr.1.only o hb, h.wr.2.only o hA⟩, h.len, h.lt⟩

/-- A writer of the bits bw, a row of the bits bl, a row of the symbols th: from block D on, each apart from the others. -/
structure Own (w : World) (D b : Nat) (A : Option Addr) (n c : Nat) (lw bw : List UInt8) (Aw : Option Addr) (nw cw : Nat) (bl : List UInt8) (At : Option Addr) (nt ct : Nat) (th : List Nat) : Prop where
  wrt : Wrt w b A n c bw.length lw
  num : le lw = le2 bw
  want : BRow 5 w Aw nw cw bl
  there : Row 3 w At nt ct (ints th)
  low : D ≤ b
  apart : ∀ j, Lies A j → D ≤ j ∧ j ≠ b
  apartw : ∀ j, Lies Aw j → D ≤ j ∧ j ≠ b ∧ ¬ Lies A j
  apartt : ∀ j, Lies At j → D ≤ j ∧ j ≠ b ∧ ¬ Lies A j ∧ ¬ Lies Aw j
  size : D ≤ w.heap.size

section
variable {w w' : World} {D b : Nat} {A A' : Option Addr} {n c n' c' : Nat} {lw bw lw' bw' : List UInt8} {Aw Aw' : Option Addr} {nw cw nw' cw' : Nat} {bl bl' : List UInt8} {At At' : Option Addr} {nt ct nt' ct' : Nat} {th th' : List Nat}
theorem Own.quiet (h : Own w D b A n c lw bw Aw nw cw bl At nt ct th) (o : Only (fun _ => False) w w') : Own w' D b A n c lw bw Aw nw cw bl At nt ct th :=
  ⟨h.wrt.only o id fun _ _ f => f, h.num, h.want.only o fun _ _ f => f, h.there.only o fun _ _ f => f, h.low, h.apart, h.apartw, h.apartt, Nat.le_trans h.size o.size⟩
theorem Own.write (h : Own w D b A n c lw bw Aw nw cw bl At nt ct th) (hw : Wrt w' b A' n' c' bw'.length lw') (he : le lw' = le2 bw') (o : Only (fun j => j = b ∨ Lies A j) w w') (ha : A' = A ∨ ∃ g, A' = some ⟨g, 0, none⟩ ∧ w.heap.size ≤ g) :
    Own w' D b A' n' c' lw' bw' Aw nw cw bl At nt ct th := by
  have hb := h.wrt.wr.1.lt
  have hD := h.size
  have hnew : ∀ j, Lies A' j → Lies A j ∨ w.heap.size ≤ j := by
    rintro j ⟨ad, e1, e2⟩
    rcases ha with e | ⟨g, e, hg⟩
    · exact .inl ⟨ad, e ▸ e1, e2⟩
    · rw [e] at e1
      obtain rfl := Option.some.inj e1
      exact .inr (by rw [← e2]; exact hg)
  refine ⟨hw, he, h.want.only o fun j hj => ?_, h.there.only o fun j hj => ?_, h.low, fun j hj => ?_, fun j hj => ?_, fun j hj => ?_, Nat.le_trans h.size o.size⟩
  · have := h.apartw j hj
    exact fun e => e.elim this.2.1 this.2.2
  · have := h.apartt j hj
    exact fun e => e.elim this.2.1 this.2.2.1
  · rcases hnew j hj with e | e
    · exact h.apart j e
    · exact ⟨by omega, by omega⟩
  · have h1 := h.apartw j hj
    have h2 := h.want.lt j hj
    refine ⟨h1.1, h1.2.1, fun e => ?_⟩
    rcases hnew j e with e | e
    · exact h1.2.2 e
    · omega
  · have h1 := h.apartt j hj
    have h2 := h.there.lies j hj
    refine ⟨h1.1, h1.2.1, fun e => ?_, h1.2.2.2⟩
    rcases hnew j e with e | e
    · exact h1.2.2.1 e
    · omega
theorem Own.wants (h : Own w D b A n c lw bw Aw nw cw bl At nt ct th) (hr : BRow 5 w' Aw' nw' cw' bl') (o : Only (Lies Aw) w w') (ha : Aw' = Aw ∨ Aw' = some ⟨w.heap.size, 0, none⟩) :
    Own w' D b A n c lw bw Aw' nw' cw' bl' At nt ct th := by
  have hb := h.wrt.wr.1.lt
  have hD := h.size
  have hnew : ∀ j, Lies Aw' j → Lies Aw j ∨ j = w.heap.size := by
    rintro j ⟨ad, e1, e2⟩
    rcases ha with e | e
    · exact .inl ⟨ad, e ▸ e1, e2⟩
    · rw [e] at e1
      obtain rfl := Option.some.inj e1
      exact .inr e2.symm
  refine ⟨h.wrt.only o (fun e => (h.apartw b e).2.1 rfl) (fun j hj e => (h.apartw j e).2.2 hj), h.num, hr, h.there.only o fun j hj e => (h.apartt j hj).2.2.2 e, h.low, h.apart, fun j hj => ?_, fun j hj => ?_, Nat.le_trans h.size o.size⟩
  · rcases hnew j hj with e | e
    · exact h.apartw j e
    · refine ⟨by omega, by omega, fun e2 => ?_⟩
      have := h.wrt.wr.2.lt j e2
      omega
  · have h1 := h.apartt j hj
    have h2 := h.there.lies j hj
    refine ⟨h1.1, h1.2.1, h1.2.2.1, fun e => ?_⟩
    rcases hnew j e with e | e
    · exact h1.2.2.2 e
    · omega
theorem Own.theres (h : Own w D b A n c lw bw Aw nw cw bl At nt ct th) (hr : Row 3 w' At' nt' ct' (ints th')) (o : Only (Lies At) w w') (ha : At' = At ∨ At' = some ⟨w.heap.size, 0, none⟩) :
    Own w' D b A n c lw bw Aw nw cw bl At' nt' ct' th' := by
  have hb := h.wrt.wr.1.lt
  have hD := h.size
  refine ⟨h.wrt.only o (fun e => (h.apartt b e).2.1 rfl) (fun j hj e => (h.apartt j e).2.2.1 hj), h.num, h.want.only o fun j hj e => (h.apartt j e).2.2.2 hj, hr, h.low, h.apart, h.apartw, fun j hj => ?_, Nat.le_trans h.size o.size⟩
  have hnew : Lies At j ∨ j = w.heap.size := by
    obtain ⟨ad, e1, e2⟩ := hj
    rcases ha with e | e
    · exact .inl ⟨ad, e ▸ e1, e2⟩
    · rw [e] at e1
      obtain rfl := Option.some.inj e1
      exact .inr e2.symm
  rcases hnew with e | e
  · exact h.apartt j e
  · refine ⟨by omega, by omega, fun e2 => ?_, fun e2 => ?_⟩
    · have := h.wrt.wr.2.lt j e2
      omega
    · have := h.want.lt j e2
      omega
end

def WriteMore (w : World) (b : Nat) (A : Option Addr) (bl : List UInt8) (e : Ending) (w' : World) : Prop :=
  e = .returned (.int .i64 0) ∧ ∃ A' n' c' l', Wrt w' b A' n' c' bl.length l' ∧ le l' = le2 bl ∧ Only (fun j => j = b ∨ Lies A j) w w' ∧ (A' = A ∨ ∃ g, A' = some ⟨g, 0, none⟩ ∧ w.heap.size ≤ g)
set_option maxHeartbeats 1000000 in
/-- A symbol written, with where the writer's bytes lie behind it. -/
theorem twrite_more (T b s n c : Nat) (A : Option Addr) (l : List Nat) (ll bl : List UInt8) (w : World) (h : Tab w T l) (hw : Wrt w b A n c bl.length ll) (he : le ll = le2 bl) (hs : Has l s) (hl : Low l) (hbl : bl.length ≤ 1073741824) :
    Calls Try.prog 19 #[.pointer (some ⟨T, 0, none⟩), .pointer (some ⟨b, 0, none⟩), .int .i64 s] w (WriteMore w b A (bl ++ hb (ln l s) (cd l s))) := by
  have HB := Lib.hid (tbits_in T s l w h hs.1)
  have hx := ln_le l s hl
  have hx0 := hs.2
  have htl := td_lt l s hl
  have htd : td l s < 2 ^ ln l s := rv_lt _ _
  have hsl := hs.1
  obtain ⟨A1, A2, A3, A4, c1, c2, c3, c4, h0, h1, h2, h3, h4⟩ := h
  have t1 := h0.cell 1 rfl
  obtain ⟨b2, off2, rfl, _, q⟩ := h2 s _ (hints_at (tds l) s (by rw [tds_length]; exact hsl))
  rw [show ln (tds l) s = td l s from map_at _ _ s hsl] at q
  have HP := Lib.hid (put b A n c bl.length (td l s) (ln l s : Nat) ll w hw hbl (by omega))
  have hcl : clamp ((ln l s : Nat) : Int) = ln l s := by unfold clamp; omega
  rw [hcl, Nat.mod_eq_of_lt htd] at HP
  have hfin : le ll + td l s * 2 ^ bl.length = le2 (bl ++ hb (ln l s) (cd l s)) := by
    rw [le2_append, le2_hb, he, Nat.mul_comm]
    rfl
  have hlt : le ll + td l s * 2 ^ bl.length < 2 ^ (bl.length + ln l s) := put_lt _ _ _ _ hw.lt htd
  obtain ⟨x, hx1⟩ : ∃ x, ln l s = x := ⟨_, rfl⟩
  obtain ⟨t, ht1⟩ : ∃ t, td l s = t := ⟨_, rfl⟩
  obtain ⟨N, hN⟩ : ∃ N, l.length = N := ⟨_, rfl⟩
  rw [hx1] at HB hx hx0 HP hfin hlt ⊢
  rw [ht1] at q htl HP hfin hlt
  rw [hN] at t1 hsl
  have HFin := Lib.hid hfin
  have HLt := Lib.hid hlt
  have hx2 : ¬ (x : Int) = 0 := by omega
  clear h0 h1 h2 h3 h4 hx1 ht1 hN hfin hlt hw he hs hl htd hcl
  go_enter Try.func19, Try.ntmps19
  go_wp2_with fail
  refine HB.out.mono ?_
  rintro e w' ⟨rfl, rfl⟩
  go_wp2_with fail
  refine HP.out.mono ?_
  rintro e w2 ⟨rfl, A', n', c', l', hw2, hn2, he2, ho2, ha2⟩
  have HW := Lib.hid hw2
  have HN2 := Lib.hid hn2
  have HE := Lib.hid he2
  have HO := Lib.hid ho2
  have HA2 := Lib.hid ha2
  clear hw2 hn2 he2 ho2 ha2 HP HB
  go_wp2
  go_ret
  have hlen : (bl ++ hb x (cd l s)).length = bl.length + x := by rw [List.length_append, hb_length]
  exact ⟨rfl, A', n', c', l', ⟨by rw [hlen]; exact HW.out, by rw [hlen]; exact HN2.out, by rw [hlen, HE.out]; exact HLt.out⟩, by rw [HE.out]; exact HFin.out, HO.out, HA2.out⟩
end Go.Proofs.Ytfobkknbhflnbaa
