/- Layer 8, the program: what stands behind a block's kind. -/
import Derived.Test.YtackcgiokkbhdaaDoorBound
import Derived.Test.YtackcgiokkbhdaaDoorFixC
namespace Go.Proofs.YtackcgiokkbhdaaDoor
open Go.RowKit

/-- The codes of kind 1 are not made yet, or stand apart from what the stream turns, and from Z. -/
def Fx (w : World) (b d : Nat) (A : Option Addr) (Z : Nat → Prop) (p1 p2 : Value) : Prop := (p1 = .pointer none ∧ p2 = .pointer none) ∨
  ∃ T1 T2 lo hi, p1 = .pointer (some ⟨T1, 0, none⟩) ∧ p2 = .pointer (some ⟨T2, 0, none⟩) ∧ Cods w lo hi T1 T2 fixA fixB ∧ b < lo ∧ ∀ j, lo ≤ j → j ≤ hi → ¬ Mine b d A j ∧ ¬ Z j
theorem Fx.keep {w w' : World} {b d : Nat} {A A' : Option Addr} {Z : Nat → Prop} {p1 p2 : Value} (h : Fx w b d A Z p1 p2) (k : Only (Mine b d A) w w') (hl : ∀ j, Lies A' j → Lies A j ∨ w.heap.size ≤ j) : Fx w' b d A' Z p1 p2 := by
  rcases h with h | ⟨T1, T2, lo, hi, e1, e2, hc, hb, hf⟩
  · exact .inl h
  · refine .inr ⟨T1, T2, lo, hi, e1, e2, hc.keep k (fun j a b => (hf j a b).1), hb, fun j h1 h2 => ⟨?_, (hf j h1 h2).2⟩⟩
    have := hc.hh
    rintro (e | e | e)
    · exact (hf j h1 h2).1 (.inl e)
    · exact (hf j h1 h2).1 (.inr (.inl e))
    · exact (hl j e).elim (fun x => (hf j h1 h2).1 (.inr (.inr x))) (fun x => by omega)

def BlkPost (w : World) (b d : Nat) (s : ByteArray) (most : Int) (A : Option Addr) (kv : Value) (Z : Nat → Prop) (r : Ans) (e : Ending) (w' : World) : Prop :=
  e = .returned (.int .i64 r.1) ∧ Only (Mine b d A) w w' ∧ (r.1 = 0 → ∃ A' c' p1 p2, Str w' b d most A' r.2.2.length c' kv p1 p2 r.2.2 ∧ Rd w' b s r.2.1 false ∧ (∀ j, Lies A' j → Lies A j ∨ w.heap.size ≤ j) ∧ Fx w' b d A' Z p1 p2)
theorem Done.blk {w w1 w' : World} {b d : Nat} {s : ByteArray} {most : Int} {A : Option Addr} {kv p1 p2 : Value} {Z : Nat → Prop} {r : Ans} {e : Ending} (hd : Done w1 b d s most A kv p1 p2 r e w') (ho : Only (Mine b d A) w w1) (hf : Fx w1 b d A Z p1 p2) : BlkPost w b d s most A kv Z r e w' := by
  obtain ⟨h1, h2, h3⟩ := hd
  refine ⟨h1, ho.trans h2, fun h0 => ?_⟩
  obtain ⟨A', c', g1, g2, g3⟩ := h3 h0
  exact ⟨A', c', p1, p2, g1, g2, fun j hj => (g3 j hj).imp id fun x => Nat.le_trans ho.size x, hf.keep h2 g3⟩

set_option maxRecDepth 100000 in
set_option maxHeartbeats 4000000 in
theorem block (b d kind : Nat) (s : ByteArray) (a : Nat) (most : Int) (A : Option Addr) (n c : Nat) (kv p1 p2 : Value) (out : List UInt8) (Z : Nat → Prop) (w : World) (h : Str w b d most A n c kv p1 p2 out) (hr : Rd w b s a false) (hg : GTab w) (hf : Fx w b d A Z p1 p2) (hZ : ∀ j, Z j → j < w.heap.size) (hb0 : b ≠ 0)
    (hs : s.size ≤ 1073741824) (ha : a ≤ 8 * s.size) (hn : n ≤ 100000) (hmost : most ≤ 100000) (hk : kind < 4) :
    Calls Tryd.prog 29 #[.pointer (some ⟨d, 0, none⟩), .int .i64 kind] w (BlkPost w b d s most A kv Z (mBlock (bitsOf s.data.toList) most kind a out)) := by
  have hbl := hr.lt
  have hdl := h.is.lt
  have hAl := h.row.lies
  have hapart : ∀ j, w.heap.size ≤ j → ¬ Mine b d A j := by
    rintro j hj (e | e | e)
    · omega
    · omega
    · have := hAl j e; omega
  unfold mBlock
  rw [bits_len]
  obtain rfl | rfl | rfl | rfl : kind = 0 ∨ kind = 1 ∨ kind = 2 ∨ kind = 3 := by omega
  · rw [if_pos rfl]
    have HS : Hid (Calls Tryd.prog 40 #[.pointer (some ⟨d, 0, none⟩)] w (BlkPost w b d s most A kv Z (mStored (bitsOf s.data.toList) most a out))) := Lib.hid ((stored b d s a most A n c kv p1 p2 out w h hr hs ha hn).mono fun e w' hd => hd.blk (Only.refl _ _) hf)
    obtain ⟨r, hr0⟩ : ∃ r, mStored (bitsOf s.data.toList) most a out = r := ⟨_, rfl⟩
    rw [hr0] at HS ⊢
    clear h hr hg hf hZ hapart hAl hr0
    go_enter Tryd.func29, Tryd.ntmps29
    go_wp2_with fail
    refine HS.out.mono ?_
    rintro e w2 ⟨rfl, h2⟩
    have H2 := Lib.hid h2
    clear h2 HS
    go_wp2
    go_ret
    exact ⟨rfl, H2.out⟩
  · rw [if_neg (by decide), if_pos rfl]
    rcases hf with ⟨rfl, rfl⟩ | ⟨T1, T2, lo, hi, rfl, rfl, hc, hlo, hfar⟩
    · have HF := Lib.hid (fixed_new b d most A n c kv out w h)
      have HC : Hid (∀ T1 T2 hi w2, Cods w2 w.heap.size hi T1 T2 fixA fixB → Str w2 b d most A n c kv (.pointer (some ⟨T1, 0, none⟩)) (.pointer (some ⟨T2, 0, none⟩)) out → Only (· = d) w w2 → Calls Tryd.prog 41 #[.pointer (some ⟨d, 0, none⟩), .agg #[.pointer (some ⟨T1, 0, none⟩), .pointer (some ⟨T2, 0, none⟩)]] w2 (BlkPost w b d s most A kv Z (mCoded (bitsOf s.data.toList) fixA fixB most (8 * s.size + 1) a out))) := Lib.hid fun T1 T2 hi w2 hc2 hs2 ho2 => by
        refine (coded b d w.heap.size hi T1 T2 s a most A n c kv _ _ out fixA fixB w2 hs2 (hr.only ho2 fun e => h.ne e.symm) hc2 hbl (fun j h1 _ => hapart j h1) lens_fixA lens_fixB hs ha hn hmost).mono fun e w' hd => ?_
        exact hd.blk (ho2.mono fun _ e => .inr (.inl e)) (.inr ⟨T1, T2, w.heap.size, hi, rfl, rfl, hc2, hbl, fun j h1 _ => ⟨hapart j h1, fun hz => by have := hZ j hz; omega⟩⟩)
      obtain ⟨r, hr0⟩ : ∃ r, mCoded (bitsOf s.data.toList) fixA fixB most (8 * s.size + 1) a out = r := ⟨_, rfl⟩
      rw [hr0] at HC ⊢
      clear h hr hg hZ hapart hAl hr0
      go_enter Tryd.func29, Tryd.ntmps29
      go_wp2_with fail
      refine HF.out.mono ?_
      rintro e w2 ⟨T1, T2, hi, rfl, hc2, hs2, ho2⟩
      have HCC := Lib.hid (HC.out T1 T2 hi w2 hc2 hs2 ho2)
      clear hc2 hs2 ho2 HC HF
      go_wp2_with fail
      refine HCC.out.mono ?_
      rintro e w3 ⟨rfl, h3⟩
      have H3 := Lib.hid h3
      clear h3 HCC
      go_wp2
      go_ret
      exact ⟨rfl, H3.out⟩
    · have HF := Lib.hid (fixed_again b d most A n c T1 T2 kv out w h)
      have HC : Hid (∀ w2, Only (fun _ => False) w w2 → Calls Tryd.prog 41 #[.pointer (some ⟨d, 0, none⟩), .agg #[.pointer (some ⟨T1, 0, none⟩), .pointer (some ⟨T2, 0, none⟩)]] w2 (BlkPost w b d s most A kv Z (mCoded (bitsOf s.data.toList) fixA fixB most (8 * s.size + 1) a out))) := Lib.hid fun w2 ho2 => by
        have hc2 := hc.keep ho2 fun _ _ _ f => f
        refine (coded b d lo hi T1 T2 s a most A n c kv _ _ out fixA fixB w2 (h.new ho2) (hr.only ho2 fun f => f) hc2 hlo (fun j h1 h2 => (hfar j h1 h2).1) lens_fixA lens_fixB hs ha hn hmost).mono fun e w' hd => ?_
        exact hd.blk (ho2.mono fun _ f => f.elim) (.inr ⟨T1, T2, lo, hi, rfl, rfl, hc2, hlo, hfar⟩)
      obtain ⟨r, hr0⟩ : ∃ r, mCoded (bitsOf s.data.toList) fixA fixB most (8 * s.size + 1) a out = r := ⟨_, rfl⟩
      rw [hr0] at HC ⊢
      clear h hr hg hZ hapart hAl hr0 hc hfar
      go_enter Tryd.func29, Tryd.ntmps29
      go_wp2_with fail
      refine HF.out.mono ?_
      rintro e w2 ⟨rfl, ho2⟩
      have HCC := Lib.hid (HC.out w2 ho2)
      clear ho2 HC HF
      go_wp2_with fail
      refine HCC.out.mono ?_
      rintro e w3 ⟨rfl, h3⟩
      have H3 := Lib.hid h3
      clear h3 HCC
      go_wp2
      go_ret
      exact ⟨rfl, H3.out⟩
  · rw [if_neg (by decide), if_neg (by decide), if_pos rfl]
    have HO := Lib.hid (ownCodes b d s a w hg h.c0 h.ne hb0 hr hs ha)
    unfold OwnPost at HO
    have hok := mOwn_ok (bitsOf s.data.toList) a
    rw [bits_len] at hok
    obtain ⟨⟨x, a2, la, lb⟩, hq⟩ : ∃ q, mOwn (bitsOf s.data.toList) a = q := ⟨_, rfl⟩
    rw [hq] at HO hok ⊢
    simp only at HO hok ⊢
    by_cases hx : x = 0
    · subst hx
      rw [if_neg (by simp)]
      obtain ⟨n1, n2⟩ := hok rfl
      have HC : Hid (∀ T1 T2 hi w2 w4, Only (· = b) w w2 → Cods w2 w.heap.size hi T1 T2 la lb → Rd w2 b s a2 false → Lens la → Lens lb → Only (fun _ => False) w2 w4 → Calls Tryd.prog 41 #[.pointer (some ⟨d, 0, none⟩), .agg #[.pointer (some ⟨T1, 0, none⟩), .pointer (some ⟨T2, 0, none⟩)]] w4 (BlkPost w b d s most A kv Z (mCoded (bitsOf s.data.toList) la lb most (8 * s.size + 1) a2 out))) := Lib.hid fun T1 T2 hi w2 w4 ho2 hc2 hr2 hL1 hL2 ho4 => by
        have o24 : Only (· = b) w w4 := ho2.trans (ho4.mono fun _ f => f.elim)
        have hc4 := hc2.keep ho4 fun _ _ _ f => f
        refine (coded b d w.heap.size hi T1 T2 s a2 most A n c kv p1 p2 out la lb w4 (h.read o24) (hr2.only ho4 fun f => f) hc4 hbl (fun j h1 _ => hapart j h1) hL1 hL2 hs n2 hn hmost).mono fun e w' hd => ?_
        have o24' : Only (Mine b d A) w w4 := o24.mono fun _ e => .inl e
        exact hd.blk o24' (hf.keep o24' fun j hj => .inl hj)
      obtain ⟨r, hr0⟩ : ∃ r, mCoded (bitsOf s.data.toList) la lb most (8 * s.size + 1) a2 out = r := ⟨_, rfl⟩
      rw [hr0] at HC ⊢
      clear h hr hg hZ hapart hAl hr0 hf hq hok
      go_enter Tryd.func29, Tryd.ntmps29
      go_wp2_with fail
      refine HO.out.mono ?_
      rintro e w2 ⟨ho2, hif⟩
      rw [if_neg (by simp)] at hif
      obtain ⟨T1, T2, hi, rfl, hc2, hr2, hL1, hL2⟩ := hif
      have HCC : Hid (∀ w4, Only (fun _ => False) w2 w4 → Calls Tryd.prog 41 #[.pointer (some ⟨d, 0, none⟩), .agg #[.pointer (some ⟨T1, 0, none⟩), .pointer (some ⟨T2, 0, none⟩)]] w4 (BlkPost w b d s most A kv Z r)) := Lib.hid fun w4 ho4 => HC.out T1 T2 hi w2 w4 ho2 hc2 hr2 hL1 hL2 ho4
      obtain ⟨wa, hwa⟩ : ∃ wa, w2.alloc (.cells #[.pointer none, .pointer none] 51) = wa := ⟨_, rfl⟩
      have hia : Is wa w2.heap.size 51 [.pointer none, .pointer none] := by rw [← hwa]; exact Is.new w2 51 _
      obtain ⟨K, hK⟩ : ∃ K, w2.heap.size = K := ⟨_, rfl⟩
      rw [hK] at hia
      have g0 := hia.cell 0 rfl
      have g1 := hia.cell 1 rfl
      have z0 := hia.frozen 0
      have z1 := hia.frozen 1
      have HOA : Hid (Only (fun _ => False) w2 ((wa.setCell ⟨K, 0, none⟩ (.pointer (some ⟨T1, 0, none⟩))).setCell ⟨K, 1, none⟩ (.pointer (some ⟨T2, 0, none⟩)))) := Lib.hid (by
        have : Only (fun _ => False) w2 wa := by rw [← hwa]; exact (Only.refl _ w2).alloc _
        exact this.andThen ((Only.one wa K 0 _).trans (Only.one _ K 1 _)) fun j e => .inr (by omega))
      have hiz := (hia.set 0 (.pointer (some ⟨T1, 0, none⟩))).set 1 (.pointer (some ⟨T2, 0, none⟩))
      have y0 := hiz.cell 0 rfl
      have y1 := hiz.cell 1 rfl
      clear ho2 hc2 hr2 hL1 hL2 hia hiz HC HO
      go_wp2_with fail
      refine (HCC.out _ HOA.out).mono ?_
      rintro e w5 ⟨rfl, h5⟩
      have H5 := Lib.hid h5
      clear h5 HCC HOA
      go_wp2
      go_ret
      exact ⟨rfl, H5.out⟩
    · rw [if_pos hx]
      have hx2 : ¬ (x : Int) = 0 := by omega
      clear h hr hg hZ hapart hAl hf hq hok
      go_enter Tryd.func29, Tryd.ntmps29
      go_wp2_with fail
      refine HO.out.mono ?_
      rintro e w2 ⟨ho2, hif⟩
      rw [if_pos hx] at hif
      obtain ⟨p, q, rfl⟩ := hif
      obtain ⟨wa, hwa⟩ : ∃ wa, w2.alloc (.cells #[.pointer none, .pointer none] 51) = wa := ⟨_, rfl⟩
      have hia : Is wa w2.heap.size 51 [.pointer none, .pointer none] := by rw [← hwa]; exact Is.new w2 51 _
      obtain ⟨K, hK⟩ : ∃ K, w2.heap.size = K := ⟨_, rfl⟩
      rw [hK] at hia
      have g0 := hia.cell 0 rfl
      have g1 := hia.cell 1 rfl
      have z0 := hia.frozen 0
      have z1 := hia.frozen 1
      have HOA : Hid (Only (Mine b d A) w ((wa.setCell ⟨K, 0, none⟩ (.pointer p)).setCell ⟨K, 1, none⟩ (.pointer q))) := Lib.hid (by
        have h1 : Only (fun _ => False) w2 wa := by rw [← hwa]; exact (Only.refl _ w2).alloc _
        have h2 : Only (fun _ => False) w2 ((wa.setCell ⟨K, 0, none⟩ (.pointer p)).setCell ⟨K, 1, none⟩ (.pointer q)) := h1.andThen ((Only.one wa K 0 _).trans (Only.one _ K 1 _)) fun j e => .inr (by omega)
        exact (ho2.mono fun _ e => .inl e).trans (h2.mono fun _ f => f.elim))
      clear ho2 hia HO
      go_wp2
      go_ret
      exact ⟨rfl, HOA.out, fun h => absurd h hx⟩
  · rw [if_neg (by decide), if_neg (by decide), if_neg (by decide)]
    clear h hr hg hZ hapart hAl hf
    go_enter Tryd.func29, Tryd.ntmps29
    go_wp2
    go_ret
    exact ⟨rfl, Only.refl _ _, fun h => by cases h⟩
end Go.Proofs.YtackcgiokkbhdaaDoor
