/- Layer 8, the program: a block, and a stream of blocks. -/
import Derived.Test.YtoclbodmibagpaaBound
import Derived.Test.YtoclbodmibagpaaFixC
/- Layer 8, the program: what stands behind a block's kind. -/
namespace Go.Proofs.Ytoclbodmibagpaa
open Go.RowKit

/-- The codes of kind 1 are not made yet, or stand apart from what the stream turns, and from Z. -/
def Fx (w : World) (b d : Nat) (A : Option Addr) (Z : Nat → Prop) (p1 p2 : Value) : Prop := (p1 = .pointer none ∧ p2 = .pointer none) ∨
  ∃ T1 T2 lo hi, p1 = .pointer (some ⟨T1, 0, none⟩) ∧ p2 = .pointer (some ⟨T2, 0, none⟩) ∧ Cods w lo hi T1 T2 fixA fixB ∧ b < lo ∧ ∀ j, lo ≤ j → j ≤ hi → ¬ Mine b d A j ∧ ¬ Z j
theorem Fx.keep {w w' : World} {b d : Nat} {A A' : Option Addr} {Z : Nat → Prop} {p1 p2 : Value} (h : Fx w b d A Z p1 p2) (k : Only (Mine b d A) w w') (hl : ∀ j, Lies A' j → Lies A j ∨ w.heap.size ≤ j) : Fx w' b d A' Z p1 p2 := by
  rcases h with h | ⟨T1, T2, lo, hi, e1, e2, hc, hb, hf⟩
  · exact .inl h
  · refine .inr ⟨T1, T2, lo, hi, e1, e2, hc.keep k (fun j a b => (hf j a b).1), hb, fun j h1 h2 => ⟨?_, (hf j h1 h2).2⟩⟩
    have := hc.hh
    rintro (e | e | e)
    · exact (hf j h1 h2).1 (.inl e)
    · exact (hf j h1 h2).1 (.inr (.inl e))
    · exact (hl j e).elim (fun x => (hf j h1 h2).1 (.inr (.inr x))) (fun x => by omega)

def BlkPost (w : World) (b d : Nat) (s : ByteArray) (most : Int) (A : Option Addr) (kv : Value) (Z : Nat → Prop) (r : Ans) (e : Ending) (w' : World) : Prop :=
  e = .returned (.int .i64 r.1) ∧ Only (Mine b d A) w w' ∧ (r.1 = 0 → ∃ A' c' p1 p2, Str w' b d most A' r.2.2.length c' kv p1 p2 r.2.2 ∧ Rd w' b s r.2.1 false ∧ (∀ j, Lies A' j → Lies A j ∨ w.heap.size ≤ j) ∧ Fx w' b d A' Z p1 p2)
theorem Done.blk {w w1 w' : World} {b d : Nat} {s : ByteArray} {most : Int} {A : Option Addr} {kv p1 p2 : Value} {Z : Nat → Prop} {r : Ans} {e : Ending} (hd : Done w1 b d s most A kv p1 p2 r e w') (ho : Only (Mine b d A) w w1) (hf : Fx w1 b d A Z p1 p2) : BlkPost w b d s most A kv Z r e w' := by
  obtain ⟨h1, h2, h3⟩ := hd
  refine ⟨h1, ho.trans h2, fun h0 => ?_⟩
  obtain ⟨A', c', g1, g2, g3⟩ := h3 h0
  exact ⟨A', c', p1, p2, g1, g2, fun j hj => (g3 j hj).imp id fun x => Nat.le_trans ho.size x, hf.keep h2 g3⟩

set_option maxRecDepth 100000 in
set_option maxHeartbeats 4000000 in
theorem block (b d kind : Nat) (s : ByteArray) (a : Nat) (most : Int) (A : Option Addr) (n c : Nat) (kv p1 p2 : Value) (out : List UInt8) (Z : Nat → Prop) (w : World) (h : Str w b d most A n c kv p1 p2 out) (hr : Rd w b s a false) (hf : Fx w b d A Z p1 p2) (hZ : ∀ j, Z j → j < w.heap.size)
    (hs : s.size ≤ 1073741824) (ha : a ≤ 8 * s.size) (hn : n ≤ 100000) (hmost : most ≤ 100000) (hk : kind < 4) :
    Calls Try.prog 40 #[.pointer (some ⟨d, 0, none⟩), .int .i64 kind] w (BlkPost w b d s most A kv Z (mBlock (bitsOf s.data.toList) most kind a out)) := by
  have hbl := hr.lt
  have hdl := h.is.lt
  have hAl := h.row.lies
  have hapart : ∀ j, w.heap.size ≤ j → ¬ Mine b d A j := by
    rintro j hj (e | e | e)
    · omega
    · omega
    · have := hAl j e; omega
  unfold mBlock
  rw [bits_len]
  obtain rfl | rfl | rfl | rfl : kind = 0 ∨ kind = 1 ∨ kind = 2 ∨ kind = 3 := by omega
  · rw [if_pos rfl]
    have HS : Hid (Calls Try.prog 62 #[.pointer (some ⟨d, 0, none⟩)] w (BlkPost w b d s most A kv Z (mStored (bitsOf s.data.toList) most a out))) := Lib.hid ((istored b d s a most A n c kv p1 p2 out w h hr hs ha hn).mono fun e w' hd => hd.blk (Only.refl _ _) hf)
    obtain ⟨r, hr0⟩ : ∃ r, mStored (bitsOf s.data.toList) most a out = r := ⟨_, rfl⟩
    rw [hr0] at HS ⊢
    clear h hr hf hZ hapart hAl hr0
    go_enter Try.func40, Try.ntmps40
    go_wp2_with fail
    refine HS.out.mono ?_
    rintro e w2 ⟨rfl, h2⟩
    have H2 := Lib.hid h2
    clear h2 HS
    go_wp2
    go_ret
    exact ⟨rfl, H2.out⟩
  · rw [if_neg (by decide), if_pos rfl]
    rcases hf with ⟨rfl, rfl⟩ | ⟨T1, T2, lo, hi, rfl, rfl, hc, hlo, hfar⟩
    · have HF := Lib.hid (fixed_new b d most A n c kv out w h)
      have HC : Hid (∀ T1 T2 hi w2, Cods w2 w.heap.size hi T1 T2 fixA fixB → Str w2 b d most A n c kv (.pointer (some ⟨T1, 0, none⟩)) (.pointer (some ⟨T2, 0, none⟩)) out → Only (· = d) w w2 → Calls Try.prog 63 #[.pointer (some ⟨d, 0, none⟩), .agg #[.pointer (some ⟨T1, 0, none⟩), .pointer (some ⟨T2, 0, none⟩)]] w2 (BlkPost w b d s most A kv Z (mCoded (bitsOf s.data.toList) fixA fixB most (8 * s.size + 1) a out))) := Lib.hid fun T1 T2 hi w2 hc2 hs2 ho2 => by
        refine (coded b d w.heap.size hi T1 T2 s a most A n c kv _ _ out fixA fixB w2 hs2 (hr.only ho2 fun e => h.ne e.symm) hc2 hbl (fun j h1 _ => hapart j h1) lens_fixA lens_fixB hs ha hn hmost).mono fun e w' hd => ?_
        exact hd.blk (ho2.mono fun _ e => .inr (.inl e)) (.inr ⟨T1, T2, w.heap.size, hi, rfl, rfl, hc2, hbl, fun j h1 _ => ⟨hapart j h1, fun hz => by have := hZ j hz; omega⟩⟩)
      obtain ⟨r, hr0⟩ : ∃ r, mCoded (bitsOf s.data.toList) fixA fixB most (8 * s.size + 1) a out = r := ⟨_, rfl⟩
      rw [hr0] at HC ⊢
      clear h hr hZ hapart hAl hr0
      go_enter Try.func40, Try.ntmps40
      go_wp2_with fail
      refine HF.out.mono ?_
      rintro e w2 ⟨T1, T2, hi, rfl, hc2, hs2, ho2⟩
      have HCC := Lib.hid (HC.out T1 T2 hi w2 hc2 hs2 ho2)
      clear hc2 hs2 ho2 HC HF
      go_wp2_with fail
      refine HCC.out.mono ?_
      rintro e w3 ⟨rfl, h3⟩
      have H3 := Lib.hid h3
      clear h3 HCC
      go_wp2
      go_ret
      exact ⟨rfl, H3.out⟩
    · have HF := Lib.hid (fixed_again b d most A n c T1 T2 kv out w h)
      have HC : Hid (∀ w2, Only (fun _ => False) w w2 → Calls Try.prog 63 #[.pointer (some ⟨d, 0, none⟩), .agg #[.pointer (some ⟨T1, 0, none⟩), .pointer (some ⟨T2, 0, none⟩)]] w2 (BlkPost w b d s most A kv Z (mCoded (bitsOf s.data.toList) fixA fixB most (8 * s.size + 1) a out))) := Lib.hid fun w2 ho2 => by
        have hc2 := hc.keep ho2 fun _ _ _ f => f
        refine (coded b d lo hi T1 T2 s a most A n c kv _ _ out fixA fixB w2 (h.new ho2) (hr.only ho2 fun f => f) hc2 hlo (fun j h1 h2 => (hfar j h1 h2).1) lens_fixA lens_fixB hs ha hn hmost).mono fun e w' hd => ?_
        exact hd.blk (ho2.mono fun _ f => f.elim) (.inr ⟨T1, T2, lo, hi, rfl, rfl, hc2, hlo, hfar⟩)
      obtain ⟨r, hr0⟩ : ∃ r, mCoded (bitsOf s.data.toList) fixA fixB most (8 * s.size + 1) a out = r := ⟨_, rfl⟩
      rw [hr0] at HC ⊢
      clear h hr hZ hapart hAl hr0 hc hfar
      go_enter Try.func40, Try.ntmps40
      go_wp2_with fail
      refine HF.out.mono ?_
      rintro e w2 ⟨rfl, ho2⟩
      have HCC := Lib.hid (HC.out w2 ho2)
      clear ho2 HC HF
      go_wp2_with fail
      refine HCC.out.mono ?_
      rintro e w3 ⟨rfl, h3⟩
      have H3 := Lib.hid h3
      clear h3 HCC
      go_wp2
      go_ret
      exact ⟨rfl, H3.out⟩
  · rw [if_neg (by decide), if_neg (by decide), if_pos rfl]
    have HO := Lib.hid (ownCodes b d s a w h.c0 h.ne hr hs ha)
    unfold OwnPost at HO
    have hok := mOwn_ok (bitsOf s.data.toList) a
    rw [bits_len] at hok
    obtain ⟨⟨x, a2, la, lb⟩, hq⟩ : ∃ q, mOwn (bitsOf s.data.toList) a = q := ⟨_, rfl⟩
    rw [hq] at HO hok ⊢
    simp only at HO hok ⊢
    by_cases hx : x = 0
    · subst hx
      rw [if_neg (by simp)]
      obtain ⟨n1, n2⟩ := hok rfl
      have HC : Hid (∀ T1 T2 hi w2 w4, Only (· = b) w w2 → Cods w2 w.heap.size hi T1 T2 la lb → Rd w2 b s a2 false → Lens la → Lens lb → Only (fun _ => False) w2 w4 → Calls Try.prog 63 #[.pointer (some ⟨d, 0, none⟩), .agg #[.pointer (some ⟨T1, 0, none⟩), .pointer (some ⟨T2, 0, none⟩)]] w4 (BlkPost w b d s most A kv Z (mCoded (bitsOf s.data.toList) la lb most (8 * s.size + 1) a2 out))) := Lib.hid fun T1 T2 hi w2 w4 ho2 hc2 hr2 hL1 hL2 ho4 => by
        have o24 : Only (· = b) w w4 := ho2.trans (ho4.mono fun _ f => f.elim)
        have hc4 := hc2.keep ho4 fun _ _ _ f => f
        refine (coded b d w.heap.size hi T1 T2 s a2 most A n c kv p1 p2 out la lb w4 (h.read o24) (hr2.only ho4 fun f => f) hc4 hbl (fun j h1 _ => hapart j h1) hL1 hL2 hs n2 hn hmost).mono fun e w' hd => ?_
        have o24' : Only (Mine b d A) w w4 := o24.mono fun _ e => .inl e
        exact hd.blk o24' (hf.keep o24' fun j hj => .inl hj)
      obtain ⟨r, hr0⟩ : ∃ r, mCoded (bitsOf s.data.toList) la lb most (8 * s.size + 1) a2 out = r := ⟨_, rfl⟩
      rw [hr0] at HC ⊢
      clear h hr hZ hapart hAl hr0 hf hq hok
      go_enter Try.func40, Try.ntmps40
      go_wp2_with fail
      refine HO.out.mono ?_
      rintro e w2 ⟨ho2, hif⟩
      rw [if_neg (by simp)] at hif
      obtain ⟨T1, T2, hi, rfl, hc2, hr2, hL1, hL2⟩ := hif
      have HCC : Hid (∀ w4, Only (fun _ => False) w2 w4 → Calls Try.prog 63 #[.pointer (some ⟨d, 0, none⟩), .agg #[.pointer (some ⟨T1, 0, none⟩), .pointer (some ⟨T2, 0, none⟩)]] w4 (BlkPost w b d s most A kv Z r)) := Lib.hid fun w4 ho4 => HC.out T1 T2 hi w2 w4 ho2 hc2 hr2 hL1 hL2 ho4
      obtain ⟨wa, hwa⟩ : ∃ wa, w2.alloc (.cells #[.pointer none, .pointer none] 57) = wa := ⟨_, rfl⟩
      have hia : Is wa w2.heap.size 57 [.pointer none, .pointer none] := by rw [← hwa]; exact Is.new w2 57 _
      obtain ⟨K, hK⟩ : ∃ K, w2.heap.size = K := ⟨_, rfl⟩
      rw [hK] at hia
      have g0 := hia.cell 0 rfl
      have g1 := hia.cell 1 rfl
      have z0 := hia.frozen 0
      have z1 := hia.frozen 1
      have HOA : Hid (Only (fun _ => False) w2 ((wa.setCell ⟨K, 0, none⟩ (.pointer (some ⟨T1, 0, none⟩))).setCell ⟨K, 1, none⟩ (.pointer (some ⟨T2, 0, none⟩)))) := Lib.hid (by
        have : Only (fun _ => False) w2 wa := by rw [← hwa]; exact (Only.refl _ w2).alloc _
        exact this.andThen ((Only.one wa K 0 _).trans (Only.one _ K 1 _)) fun j e => .inr (by omega))
      have hiz := (hia.set 0 (.pointer (some ⟨T1, 0, none⟩))).set 1 (.pointer (some ⟨T2, 0, none⟩))
      have y0 := hiz.cell 0 rfl
      have y1 := hiz.cell 1 rfl
      clear ho2 hc2 hr2 hL1 hL2 hia hiz HC HO
      go_wp2_with fail
      refine (HCC.out _ HOA.out).mono ?_
      rintro e w5 ⟨rfl, h5⟩
      have H5 := Lib.hid h5
      clear h5 HCC HOA
      go_wp2
      go_ret
      exact ⟨rfl, H5.out⟩
    · rw [if_pos hx]
      have hx2 : ¬ (x : Int) = 0 := by omega
      clear h hr hZ hapart hAl hf hq hok
      go_enter Try.func40, Try.ntmps40
      go_wp2_with fail
      refine HO.out.mono ?_
      rintro e w2 ⟨ho2, hif⟩
      rw [if_pos hx] at hif
      obtain ⟨p, q, rfl⟩ := hif
      obtain ⟨wa, hwa⟩ : ∃ wa, w2.alloc (.cells #[.pointer none, .pointer none] 57) = wa := ⟨_, rfl⟩
      have hia : Is wa w2.heap.size 57 [.pointer none, .pointer none] := by rw [← hwa]; exact Is.new w2 57 _
      obtain ⟨K, hK⟩ : ∃ K, w2.heap.size = K := ⟨_, rfl⟩
      rw [hK] at hia
      have g0 := hia.cell 0 rfl
      have g1 := hia.cell 1 rfl
      have z0 := hia.frozen 0
      have z1 := hia.frozen 1
      have HOA : Hid (Only (Mine b d A) w ((wa.setCell ⟨K, 0, none⟩ (.pointer p)).setCell ⟨K, 1, none⟩ (.pointer q))) := Lib.hid (by
        have h1 : Only (fun _ => False) w2 wa := by rw [← hwa]; exact (Only.refl _ w2).alloc _
        have h2 : Only (fun _ => False) w2 ((wa.setCell ⟨K, 0, none⟩ (.pointer p)).setCell ⟨K, 1, none⟩ (.pointer q)) := h1.andThen ((Only.one wa K 0 _).trans (Only.one _ K 1 _)) fun j e => .inr (by omega)
        exact (ho2.mono fun _ e => .inl e).trans (h2.mono fun _ f => f.elim))
      clear ho2 hia HO
      go_wp2
      go_ret
      exact ⟨rfl, HOA.out, fun h => absurd h hx⟩
  · rw [if_neg (by decide), if_neg (by decide), if_neg (by decide)]
    clear h hr hZ hapart hAl hf
    go_enter Try.func40, Try.ntmps40
    go_wp2
    go_ret
    exact ⟨rfl, Only.refl _ _, fun h => by cases h⟩
end Go.Proofs.Ytoclbodmibagpaa

/- Layer 8, the program: a stream, read up to its end. -/
namespace Go.Proofs.Ytoclbodmibagpaa
open Go.RowKit

/-- Where reading blocks stands. -/
structure SAt (w : World) (b d : Nat) (s : ByteArray) (most : Int) (a : Nat) (A : Option Addr) (n c : Nat) (Ak : Option Addr) (nk ck : Nat) (p1 p2 : Value) (out : List UInt8) (ks : List Nat) (wx : World) : Prop where
  str : Str wx b d most A n c (.slice Ak nk ck) p1 p2 out
  rd : Rd wx b s a false
  krow : Row 3 wx Ak nk ck (ints ks)
  klen : ks.length = nk
  only : Only (fun _ => False) w wx
  bn : w.heap.size ≤ b
  dn : w.heap.size ≤ d
  an : ∀ j, Lies A j → w.heap.size ≤ j
  kn : ∀ j, Lies Ak j → w.heap.size ≤ j
  kfar : ∀ j, Lies Ak j → ¬ Mine b d A j
  fx : Fx wx b d A (Lies Ak) p1 p2

section
variable {w wx wy : World} {b d : Nat} {s : ByteArray} {most : Int} {a n c nk ck : Nat} {A Ak : Option Addr} {p1 p2 : Value} {out : List UInt8} {ks : List Nat}
theorem SAt.read (h : SAt w b d s most a A n c Ak nk ck p1 p2 out ks wx) (k : Only (· = b) wx wy) {a2 : Nat} (hr : Rd wy b s a2 false) : SAt w b d s most a2 A n c Ak nk ck p1 p2 out ks wy :=
  ⟨h.str.read k, hr, h.krow.only k (fun j hj e => h.kfar j hj (.inl e)), h.klen, h.only.andThen k (fun j e => .inr (by have := h.bn; omega)), h.bn, h.dn, h.an, h.kn, h.kfar, h.fx.keep (k.mono fun _ e => .inl e) fun j hj => .inl hj⟩
theorem SAt.next (h : SAt w b d s most a A n c Ak nk ck p1 p2 out ks wx) {r : Ans} {e : Ending} (hd : BlkPost wx b d s most A (.slice Ak nk ck) (Lies Ak) r e wy) (h0 : r.1 = 0) : ∃ A2 c2 q1 q2, SAt w b d s most r.2.1 A2 r.2.2.length c2 Ak nk ck q1 q2 r.2.2 ks wy := by
  obtain ⟨_, ho, hk⟩ := hd
  obtain ⟨A2, c2, q1, q2, g1, g2, g3, g4⟩ := hk h0
  have hkl := h.krow.lies
  refine ⟨A2, c2, q1, q2, g1, g2, h.krow.only ho h.kfar, h.klen, h.only.andThen ho ?_, h.bn, h.dn, fun j hj => ?_, h.kn, fun j hj => ?_, g4⟩
  · rintro j (e | e | e)
    · exact .inr (by have := h.bn; omega)
    · exact .inr (by have := h.dn; omega)
    · exact .inr (h.an j e)
  · exact (g3 j hj).elim (h.an j) fun x => Nat.le_trans h.only.size x
  · have h1 := hkl j hj
    have h2 := h.kfar j hj
    rintro (e | e | e)
    · exact h2 (.inl e)
    · exact h2 (.inr (.inl e))
    · exact (g3 j e).elim (fun x => h2 (.inr (.inr x))) (fun x => by omega)
theorem SAt.bad (h : SAt w b d s most a A n c Ak nk ck p1 p2 out ks wx) {r : Ans} {e : Ending} (hd : BlkPost wx b d s most A (.slice Ak nk ck) (Lies Ak) r e wy) : Only (fun _ => False) w wy := by
  refine h.only.andThen hd.2.1 ?_
  rintro j (e | e | e)
  · exact .inr (by have := h.bn; omega)
  · exact .inr (by have := h.dn; omega)
  · exact .inr (h.an j e)
/-- A kind laid behind the kinds, and the row laid into the stream. -/
theorem SAt.kind (h : SAt w b d s most a A n c Ak nk ck p1 p2 out ks wx) {w2 : World} {A2 : Option Addr} {c2 x : Nat} (hr : Row 3 w2 A2 (nk + 1) c2 (ints ks ++ ints [x])) (ho : Only (Lies Ak) wx w2) (ha : A2 = Ak ∨ A2 = some ⟨wx.heap.size, 0, none⟩) :
    SAt w b d s most a A n c A2 (nk + 1) c2 p1 p2 out (ks ++ [x]) (w2.setCell ⟨d, 3, none⟩ (.slice A2 (nk + 1) c2)) ∧ w2.cell? ⟨d, 3, none⟩ = some (.slice Ak nk ck) ∧ w2.frozen? ⟨d, 3, none⟩ = false := by
  have hlies : ∀ j, Lies A2 j → Lies Ak j ∨ wx.heap.size ≤ j := by
    intro j hj
    rcases ha with e | e
    · exact .inl (e ▸ hj)
    · obtain ⟨ad, e1, e2⟩ := hj
      rw [e] at e1
      obtain rfl := Option.some.inj e1
      exact .inr (Nat.le_of_eq e2)
  have hdl := h.str.is.lt
  have hbl := h.rd.lt
  have hal := h.str.row.lies
  have hsz := h.only.size
  have kd : ¬ Lies Ak d := fun e => h.kfar d e (.inr (.inl rfl))
  have kb : ¬ Lies Ak b := fun e => h.kfar b e (.inl rfl)
  have hmine : ∀ j, Mine b d A j → j < wx.heap.size := by
    rintro j (e | e | e)
    · omega
    · omega
    · exact hal j e
  have hkfar : ∀ j, Lies A2 j → ¬ Mine b d A j := fun j hj hm => (hlies j hj).elim (fun x => h.kfar j x hm) (fun x => by have := hmine j hm; omega)
  have hi2 := h.str.is.only ho kd
  have ow := Only.one w2 d 3 (.slice A2 (nk + 1) c2)
  refine ⟨⟨⟨hi2.set 3 _, (h.str.row.only ho fun j hj e => h.kfar j e (.inr (.inr hj))).only ow (fun j hj e => h.str.nd (e ▸ hj)), h.str.len, h.str.ne, h.str.nb, h.str.nd⟩, (h.rd.only ho kb).only ow (fun e => h.str.ne e.symm), ?_, by rw [List.length_append, h.klen]; rfl, ?_, h.bn, h.dn, h.an, ?_, hkfar, ?_⟩, hi2.cell 3 rfl, hi2.frozen 3⟩
  · rw [ints_append]
    exact hr.only ow fun j hj e => hkfar j hj (.inr (.inl e))
  · exact (h.only.andThen ho fun j hj => .inr (h.kn j hj)).andThen ow fun j e => .inr (by have := h.dn; omega)
  · intro j hj
    exact (hlies j hj).elim (h.kn j) (fun x => by omega)
  · rcases h.fx with q | ⟨T1, T2, lo, hi, e1, e2, hc, hb, hf⟩
    · exact .inl q
    · refine .inr ⟨T1, T2, lo, hi, e1, e2, (hc.keep ho fun j a b => (hf j a b).2).keep ow fun j a b e => (hf j a b).1 (.inr (.inl e)), hb, fun j a b => ⟨(hf j a b).1, fun hj => ?_⟩⟩
      have := hc.hh
      exact (hlies j hj).elim (hf j a b).2 (fun x => by omega)
end

def ReadP (w : World) (s : ByteArray) (most : Int) (r : Nat × Nat × List UInt8 × List Nat) (e : Ending) (w' : World) : Prop := Only (fun _ => False) w w' ∧
  if r.1 ≠ 0 then e = .returned (.tuple #[.pointer none, .int .i64 r.1]) else ∃ b d A c Ak ck p1 p2, e = .returned (.tuple #[.pointer (some ⟨d, 0, none⟩), .int .i64 0]) ∧ SAt w b d s most r.2.1 A r.2.2.1.length c Ak r.2.2.2.length ck p1 p2 r.2.2.1 r.2.2.2 w'

set_option maxRecDepth 100000 in
set_option maxHeartbeats 4000000 in
theorem read (s : ByteArray) (most : Int) (w : World) (hs : s.size ≤ 10000) (hmost : most ≤ 100000) (hlow : -9223372036854775808 ≤ most) :
    Calls Try.prog 22 #[.string s, .int .i64 most] w (ReadP w s most (mStream (bitsOf s.data.toList) most)) := by
  unfold mStream
  rw [bits_len]
  obtain ⟨r, hr0⟩ : ∃ r, mStr (bitsOf s.data.toList) most (8 * s.size + 1) 0 [] [] = r := ⟨_, rfl⟩
  rw [hr0]
  obtain ⟨wb, hwb⟩ : ∃ wb, w.alloc (.cells #[.string s, .int .i64 0, .bool false] 93) = wb := ⟨_, rfl⟩
  have hob : Only (fun _ => False) w wb := by rw [← hwb]; exact (Only.refl _ w).alloc _
  have hrb : Rd wb w.heap.size s 0 false := by rw [← hwb]; exact Is.new w 93 _
  have hsb : wb.heap.size = w.heap.size + 1 := by rw [← hwb]; simp
  have HN := Lib.hid (newReader s w)
  rw [hwb] at HN
  obtain ⟨b, hb⟩ : ∃ b, w.heap.size = b := ⟨_, rfl⟩
  rw [hb] at HN hrb hsb
  have hmin : min most 4194304 = most := by omega
  obtain ⟨wd, hwd⟩ : ∃ wd, wb.alloc (.cells #[.pointer (some ⟨b, 0, none⟩), .int .i64 most, .slice none 0 0, .slice none 0 0, .pointer none, .pointer none] 59) = wd := ⟨_, rfl⟩
  have hod : Only (fun _ => False) wb wd := by rw [← hwd]; exact (Only.refl _ wb).alloc _
  have hid : Is wd wb.heap.size 59 [.pointer (some ⟨b, 0, none⟩), .int .i64 most, .slice none 0 0, .slice none 0 0, .pointer none, .pointer none] := by rw [← hwd]; exact Is.new wb 59 _
  have hno : ∀ j, ¬ Lies none j := by rintro j ⟨ad, e, _⟩; cases e
  have h0 : SAt w b wb.heap.size s most 0 none 0 0 none 0 0 (.pointer none) (.pointer none) [] [] wd :=
    ⟨⟨hid, Row.nil 5 wd, rfl, by omega, hno _, hno _⟩, hrb.only hod fun f => f, Row.nil 3 wd, rfl, hob.trans hod, by omega, by omega, fun j hj => (hno j hj).elim, fun j hj => (hno j hj).elim, fun j hj => (hno j hj).elim, .inl ⟨rfl, rfl⟩⟩
  obtain ⟨d, hd⟩ : ∃ d, wb.heap.size = d := ⟨_, rfl⟩
  rw [hd] at h0
  have H0 := Lib.hid h0
  have HR0 := Lib.hid hr0
  clear h0 hr0 hid hod hob hrb hb hsb hno
  go_enter Try.func22, Try.ntmps22
  go_wp2_with fail
  refine HN.out.mono ?_
  rintro e w2 ⟨rfl, hw2⟩
  subst hw2
  clear HN
  go_wp2_with fail
  go_loopg [7, 8, 9, 10] (8 * s.size + 1) (fun gk u1 u2 u3 u4 wx => ∃ (a : Nat) (A : Option Addr) (n c : Nat) (Ak : Option Addr) (nk ck : Nat) (p1 p2 : Value) (out : List UInt8) (ks : List Nat), a ≤ 8 * s.size ∧ 8 * s.size < a + gk ∧ n ≤ 100000 ∧ nk + gk ≤ 100000 ∧ Hid (SAt w b d s most a A n c Ak nk ck p1 p2 out ks wx) ∧ Hid (mStr (bitsOf s.data.toList) most gk a out ks = r))
  case atStart => exact ⟨0, _, 0, 0, _, 0, 0, _, _, [], [], by omega, by omega, by omega, by omega, H0, HR0⟩
  case round =>
    clear H0 HR0 hwd
    obtain ⟨a, A, n, c, Ak, nk, ck, p1, p2, out, ks, ha, hgk, hn, hnk, HS, HR0⟩ := hrel
    obtain ⟨f, rfl⟩ : ∃ f, gk = f + 1 := ⟨gk - 1, by omega⟩
    have hm := HR0.out
    rw [mStr_step, bits_len] at hm
    have HH := Lib.hid (head b d s a wr HS.out.str.c0 HS.out.str.ne HS.out.rd (by omega) ha)
    unfold HeadPost at HH
    by_cases hend : 8 * s.size < a + 3
    · rw [if_pos hend] at hm
      have HM := Lib.hid hm
      clear hm HR0
      go_wp2_with fail
      refine HH.out.mono ?_
      rintro e w3 ⟨ho3, hif⟩
      rw [if_pos hend] at hif
      obtain ⟨v1, v2, rfl⟩ := hif
      have HO3 : Hid (Only (fun _ => False) w w3) := Lib.hid (HS.out.only.andThen ho3 fun j e => .inr (by have := HS.out.bn; omega))
      clear ho3 HH
      go_wp2
      go_ret2
      exact ⟨HO3.out, by rw [← HM.out]; rfl⟩
    · rw [if_neg hend] at hm
      have hk4 := nm_lt (bitsOf s.data.toList) (a + 1) 2
      have hbo := mBlock_ok (bitsOf s.data.toList) most 100000 (nm (bitsOf s.data.toList) (a + 1) 2) (a + 3) out (by omega) (by rw [bits_len]; omega) (by rw [HS.out.str.len]; exact hn)
      rw [bits_len] at hbo
      obtain ⟨kind, hkind⟩ : ∃ k, nm (bitsOf s.data.toList) (a + 1) 2 = k := ⟨_, rfl⟩
      obtain ⟨lst, hlst⟩ : ∃ k, nm (bitsOf s.data.toList) a 1 = k := ⟨_, rfl⟩
      rw [hkind] at hm hk4 hbo HH
      rw [hlst] at hm HH
      have HBL : Hid (∀ w3, SAt w b d s most (a + 3) A n c Ak nk ck p1 p2 out ks w3 → Calls Try.prog 40 #[.pointer (some ⟨d, 0, none⟩), .int .i64 kind] w3 (BlkPost w3 b d s most A (.slice Ak nk ck) (Lies Ak) (mBlock (bitsOf s.data.toList) most kind (a + 3) out))) := Lib.hid fun w3 h3 => block b d kind s (a + 3) most A n c _ p1 p2 out (Lies Ak) w3 h3.str h3.rd h3.fx h3.krow.lies (by omega) (by omega) hn hmost hk4
      obtain ⟨⟨x, a4, o4⟩, hq⟩ : ∃ q, mBlock (bitsOf s.data.toList) most kind (a + 3) out = q := ⟨_, rfl⟩
      rw [hq] at hm HBL hbo
      simp only at hm hbo
      have HM := Lib.hid hm
      have HBO := Lib.hid hbo
      obtain ⟨Lb, hLb⟩ : ∃ Lb, decide (lst = 1) = Lb := ⟨_, rfl⟩
      rw [hLb] at HH
      have HLB := Lib.hid hLb
      clear hm hq hkind hlst HR0 hbo hLb
      go_wp2_with fail
      refine HH.out.mono ?_
      rintro e w3 ⟨ho3, hif⟩
      rw [if_neg hend] at hif
      obtain ⟨rfl, hr3⟩ := hif
      have HS3 := Lib.hid (HS.out.read ho3 hr3)
      clear ho3 hr3 HH HS
      go_wp2_with fail
      refine (HBL.out w3 HS3.out).mono ?_
      intro e w4 hd4
      by_cases hx : x = 0
      · subst hx
        obtain ⟨A2, c2, q1, q2, h4⟩ := HS3.out.next hd4 rfl
        obtain ⟨rfl, _⟩ := hd4
        obtain ⟨n1, n2, n3⟩ := HBO.out rfl
        have hm := HM.out
        rw [if_neg (by simp)] at hm
        simp only at h4
        have HS4 := Lib.hid h4
        have g3 := h4.str.is.cell 3 rfl
        have HAW : Hid (SAt w b d s most a4 A2 o4.length c2 Ak nk ck q1 q2 o4 ks (w4.alloc (.cells #[.int .i64 (kind : Nat)] 3))) := Lib.hid (by
          have o : Only (fun _ => False) w4 (w4.alloc (.cells #[.int .i64 (kind : Nat)] 3)) := (Only.refl _ w4).alloc _
          exact h4.read (o.mono fun _ f => f.elim) (h4.rd.only o fun f => f))
        have HSR := Lib.hid (Src.oneInt Try.underlying26 w4 .i64 kind 1 3)
        obtain ⟨wy, hwy⟩ : ∃ wy, w4.alloc (.cells #[.int .i64 (kind : Nat)] 3) = wy := ⟨_, rfl⟩
        rw [hwy] at HAW HSR
        have HMM := Lib.hid hm
        clear h4 HBL HS3 hm HM HBO
        by_cases hl1 : lst = 1
        · have hLb : Lb = true := by rw [← HLB.out]; simpa using hl1
          subst hLb
          have hm := HMM.out
          rw [if_pos hl1] at hm
          have HM2 := Lib.hid hm
          clear hm HMM HLB hl1
          go_upto_region 8 with fail
          go_wp2_with (at_builtin
                       refine wpList_append_row rfl (.tmp 36) (.tmp 38) 26 26 3 rfl Try.underlying26 info3 Ak nk ck 1 (ints ks) (ints [kind]) (.slice (some ⟨w4.heap.size, 0, none⟩) 1 1) (by rfl) (by rfl) HAW.out.krow rfl HSR.out (by omega) (by omega) ?_
                       intro A9 c9 w9 hrow9 honly9 hlies9
                       obtain ⟨h9, y1, y2⟩ := HAW.out.kind hrow9 honly9 hlies9
                       have H9 := Lib.hid h9
                       clear hrow9 honly9 hlies9 h9)
          go_ret2
          refine ⟨H9.out.only, ?_⟩
          rw [← HM2.out, if_neg (by simp)]
          refine ⟨b, d, A2, c2, A9, c9, q1, q2, rfl, ?_⟩
          have e : (ks ++ [kind]).length = nk + 1 := H9.out.klen
          simp only [e]
          exact H9.out
        · have hLb : Lb = false := by rw [← HLB.out]; simpa using hl1
          subst hLb
          have hm := HMM.out
          rw [if_neg hl1] at hm
          have HM2 := Lib.hid hm
          clear hm HMM HLB hl1
          go_upto_region 8 with fail
          go_wp2_with (at_builtin
                       refine wpList_append_row rfl (.tmp 36) (.tmp 38) 26 26 3 rfl Try.underlying26 info3 Ak nk ck 1 (ints ks) (ints [kind]) (.slice (some ⟨w4.heap.size, 0, none⟩) 1 1) (by rfl) (by rfl) HAW.out.krow rfl HSR.out (by omega) (by omega) ?_
                       intro A9 c9 w9 hrow9 honly9 hlies9
                       obtain ⟨h9, y1, y2⟩ := HAW.out.kind hrow9 honly9 hlies9
                       have H9 := Lib.hid h9
                       clear hrow9 honly9 hlies9 h9)
          go_roundg f
          case measure => omega
          case rel => exact ⟨a4, A2, _, c2, A9, nk + 1, c9, q1, q2, o4, _, n2, by omega, n3, by omega, H9, HM2⟩
      · have ho4 := HS3.out.bad hd4
        obtain ⟨rfl, _⟩ := hd4
        have hm := HM.out
        rw [if_pos hx] at hm
        have HM2 := Lib.hid hm
        have HO4 := Lib.hid ho4
        have hx2 : ¬ (x : Int) = 0 := by omega
        clear hm ho4 HBL HS3 HM HBO
        go_wp2
        go_ret2
        exact ⟨HO4.out, by rw [← HM2.out, if_pos hx]; rfl⟩
end Go.Proofs.Ytoclbodmibagpaa

/- Layer 8, the program: Stream, All and Blocks. -/
namespace Go.Proofs.Ytoclbodmibagpaa
open Go.RowKit

theorem Row.text5 {w : World} {A : Option Addr} {n c : Nat} {l : List UInt8} (h : Row 5 w A n c (bcells l)) (hl : l.length = n) : (convert 40 9 (.slice A n c)).run Try.prog w = .ok (.string ⟨l.toArray⟩) w := by
  have hc := fun i v hv => h.cell (i := i) (v := v) hv
  obtain ⟨h1, ⟨rfl, rfl, rfl, hv⟩ | ⟨g, cur, m, rfl, h2, _⟩⟩ := h
  · obtain rfl : l = [] := by simpa [bcells] using hv
    rw [run_convert_bytes_nil w 40 5 Try.underlying40 Try.underlying5 0 0 9 Try.underlying9]
    rfl
  · have hcc : ∀ i, i < n → w.cell? ⟨g, 0 + i, none⟩ = some (.int .u8 ((l.map fun b => (b.toNat : Int)).getD i 0)) := by
      intro i hi
      obtain ⟨g', e1, e2, _⟩ := hc i _ (bcells_at l i (by omega))
      obtain rfl : g = g' := by simpa using e1
      have hl2 : i < l.length := by omega
      rw [Nat.zero_add, e2]
      simp [hl2]
    rw [run_convert_bytes_arg w 40 5 Try.underlying40 Try.underlying5 g 0 n c (l.map fun b => (b.toNat : Int)) (by simpa using hl) hcc 9 Try.underlying9]
    have e : strOfNums (l.map fun b => (b.toNat : Int)) = ⟨l.toArray⟩ := by simp [strOfNums, Function.comp_def]
    rw [e]

/-- What a stream says, how many bytes it takes. -/
def mText (r : Nat × Nat × List UInt8 × List Nat) : ByteArray := if r.1 ≠ 0 then ByteArray.empty else ⟨r.2.2.1.toArray⟩
def mTaken (r : Nat × Nat × List UInt8 × List Nat) : Nat := if r.1 ≠ 0 then 0 else (r.2.1 + 7) / 8
def mKinds (r : Nat × Nat × List UInt8 × List Nat) : List Nat := if r.1 ≠ 0 then [] else r.2.2.2

def StreamPost (w : World) (r : Nat × Nat × List UInt8 × List Nat) (e : Ending) (w' : World) : Prop := e = .returned (.tuple #[.string (mText r), .int .i64 (mTaken r : Nat), .int .i64 r.1]) ∧ Only (fun _ => False) w w'

/-- A stream ends within its bits. -/
theorem mStr_ok (B : List UInt8) (most : Int) (M : Nat) (hM : most ≤ M) : ∀ (f a : Nat) (out : List UInt8) (ks : List Nat), a ≤ B.length → out.length ≤ M → (mStr B most f a out ks).1 = 0 → (mStr B most f a out ks).2.1 ≤ B.length ∧ (mStr B most f a out ks).2.2.1.length ≤ M ∧ (mStr B most f a out ks).2.2.2.length ≤ ks.length + f
  | 0, a, out, ks, _, _, h => by cases h
  | f + 1, a, out, ks, ha, ho, h => by
    rw [mStr_step] at h ⊢
    by_cases h1 : B.length < a + 3
    · rw [if_pos h1] at h; cases h
    · rw [if_neg h1] at h ⊢
      have hb := mBlock_ok B most M (nm B (a + 1) 2) (a + 3) out hM (by omega) ho
      by_cases h2 : (mBlock B most (nm B (a + 1) 2) (a + 3) out).1 ≠ 0
      · rw [if_pos h2] at h; exact absurd h h2
      · rw [if_neg h2] at h ⊢
        have hb := hb (by omega)
        by_cases h3 : nm B a 1 = 1
        · rw [if_pos h3]
          exact ⟨hb.2.1, hb.2.2, by simp⟩
        · rw [if_neg h3] at h ⊢
          have := mStr_ok B most M hM f _ _ (ks ++ [nm B (a + 1) 2]) hb.2.1 hb.2.2 h
          rw [List.length_append] at this
          simp at this
          exact ⟨this.1, this.2.1, by omega⟩
theorem mStream_ok (B : List UInt8) (most : Int) (M : Nat) (hM : most ≤ M) (h : (mStream B most).1 = 0) : (mStream B most).2.1 ≤ B.length ∧ (mStream B most).2.2.1.length ≤ M ∧ (mStream B most).2.2.2.length ≤ B.length + 1 := by
  have := mStr_ok B most M hM (B.length + 1) 0 [] [] (Nat.zero_le _) (Nat.zero_le _) h
  simpa [mStream] using this

set_option maxRecDepth 20000 in
set_option maxHeartbeats 2000000 in
theorem pstream (s : ByteArray) (most : Int) (w : World) (hs : s.size ≤ 10000) (hmost : most ≤ 100000) (hlow : -9223372036854775808 ≤ most) :
    Calls Try.prog 8 #[.string s, .int .i64 most] w (StreamPost w (mStream (bitsOf s.data.toList) most)) := by
  have HR := Lib.hid (read s most w hs hmost hlow)
  have hok := mStream_ok (bitsOf s.data.toList) most 100000 (by omega)
  rw [bits_len] at hok
  obtain ⟨⟨x, a, out, ks⟩, hq⟩ : ∃ q, mStream (bitsOf s.data.toList) most = q := ⟨_, rfl⟩
  rw [hq] at HR hok ⊢
  simp only at hok
  clear hq
  go_enter Try.func8, Try.ntmps8
  go_wp2_with fail
  refine HR.out.mono ?_
  rintro e w2 ⟨ho2, hif⟩
  have HO := Lib.hid ho2
  clear ho2 HR
  by_cases hx : x = 0
  · subst hx
    rw [if_neg (by simp)] at hif
    obtain ⟨b, d, A, c, Ak, ck, p1, p2, rfl, h⟩ := hif
    simp only at h
    obtain ⟨m1, m2, m3⟩ := hok rfl
    have c0 := h.str.is.cell 0 rfl
    have c2 := h.str.is.cell 2 rfl
    have HT := Lib.hid (h.str.row.text5 rfl)
    have HRD := Lib.hid h.rd
    have HP : Hid (StreamPost w (0, a, out, ks) (.returned (.tuple #[.string ⟨out.toArray⟩, .int .i64 ((a + 7) / 8 : Nat), .int .i64 0])) w2) := Lib.hid ⟨rfl, HO.out⟩
    obtain ⟨n, hn⟩ : ∃ n, out.length = n := ⟨_, rfl⟩
    rw [hn] at c2 HT
    obtain ⟨t, ht⟩ : ∃ t : ByteArray, ⟨out.toArray⟩ = t := ⟨_, rfl⟩
    rw [ht] at HP HT
    have ht2 := HT.out
    have ea : ((a : Int) + 7) / 8 = ((a + 7) / 8 : Nat) := by omega
    obtain ⟨q, hq⟩ : ∃ q, (a + 7) / 8 = q := ⟨_, rfl⟩
    rw [hq] at ea HP
    clear h hok hn ht m2 m3 HT hq
    go_wp2_with fail
    refine (at_ b s a false w2 HRD.out).mono ?_
    rintro e w3 ⟨rfl, rfl⟩
    go_wp2
    go_ret3
    first
      | exact HP.out
      | (have hp := HP.out
         rw [← ea] at hp
         have e8 : (a : Int) + 8 - 1 = (a : Int) + 7 := by omega
         simpa [e8] using hp)
  · rw [if_pos hx] at hif
    subst hif
    have hx2 : ¬ (x : Int) = 0 := by omega
    have HP : Hid (StreamPost w (x, a, out, ks) (.returned (.tuple #[.string ByteArray.empty, .int .i64 0, .int .i64 x])) w2) := Lib.hid ⟨by rw [show mText (x, a, out, ks) = ByteArray.empty from if_pos hx, show mTaken (x, a, out, ks) = 0 from if_pos hx]; rfl, HO.out⟩
    clear hok
    go_wp2
    go_ret3
    exact HP.out

def KindsPost (w : World) (r : Nat × Nat × List UInt8 × List Nat) (e : Ending) (w' : World) : Prop := ∃ A c, e = .returned (.tuple #[.slice A (mKinds r).length c, .int .i64 r.1]) ∧ See w' w'.heap.size A (ints (mKinds r)) ∧ Only (fun _ => False) w w'
set_option maxRecDepth 20000 in
set_option maxHeartbeats 2000000 in
theorem pblocks (s : ByteArray) (most : Int) (w : World) (hs : s.size ≤ 10000) (hmost : most ≤ 100000) (hlow : -9223372036854775808 ≤ most) :
    Calls Try.prog 12 #[.string s, .int .i64 most] w (KindsPost w (mStream (bitsOf s.data.toList) most)) := by
  have HR := Lib.hid (read s most w hs hmost hlow)
  obtain ⟨⟨x, a, out, ks⟩, hq⟩ : ∃ q, mStream (bitsOf s.data.toList) most = q := ⟨_, rfl⟩
  rw [hq] at HR ⊢
  clear hq
  go_enter Try.func12, Try.ntmps12
  go_wp2_with fail
  refine HR.out.mono ?_
  rintro e w2 ⟨ho2, hif⟩
  have HO := Lib.hid ho2
  clear ho2 HR
  by_cases hx : x = 0
  · subst hx
    rw [if_neg (by simp)] at hif
    obtain ⟨b, d, A, c, Ak, ck, p1, p2, rfl, h⟩ := hif
    simp only at h
    have c3 := h.str.is.cell 3 rfl
    have HP : Hid (KindsPost w (0, a, out, ks) (.returned (.tuple #[.slice Ak ks.length ck, .int .i64 0])) w2) := Lib.hid ⟨Ak, ck, rfl, h.krow.see, HO.out⟩
    obtain ⟨n, hn⟩ : ∃ n, ks.length = n := ⟨_, rfl⟩
    rw [hn] at c3 HP
    clear h hn
    go_wp2
    go_ret2
    exact HP.out
  · rw [if_pos hx] at hif
    subst hif
    have hx2 : ¬ (x : Int) = 0 := by omega
    have HP : Hid (KindsPost w (x, a, out, ks) (.returned (.tuple #[.slice none 0 0, .int .i64 x])) w2) := Lib.hid (by
      have e : mKinds (x, a, out, ks) = [] := if_pos hx
      refine ⟨none, 0, by rw [e]; rfl, ?_, HO.out⟩
      rw [e]
      intro i v hv
      simp [ints] at hv)
    go_wp2
    go_ret2
    exact HP.out

/-- What All comes to. -/
def mAll (z : Nat) (r : Nat × Nat × List UInt8 × List Nat) : ByteArray × Nat := if r.1 ≠ 0 then (ByteArray.empty, r.1) else if mTaken r < z then (ByteArray.empty, 2) else (mText r, 0)
def AllPost (w : World) (q : ByteArray × Nat) (e : Ending) (w' : World) : Prop := e = .returned (.tuple #[.string q.1, .int .i64 q.2]) ∧ Only (fun _ => False) w w'
set_option maxRecDepth 20000 in
set_option maxHeartbeats 2000000 in
theorem pall (s : ByteArray) (most : Int) (w : World) (hs : s.size ≤ 10000) (hmost : most ≤ 100000) (hlow : -9223372036854775808 ≤ most) :
    Calls Try.prog 10 #[.string s, .int .i64 most] w (AllPost w (mAll s.size (mStream (bitsOf s.data.toList) most))) := by
  have HR := Lib.hid (pstream s most w hs hmost hlow)
  obtain ⟨r, hq⟩ : ∃ q, mStream (bitsOf s.data.toList) most = q := ⟨_, rfl⟩
  rw [hq] at HR ⊢
  unfold mAll
  unfold StreamPost at HR
  obtain ⟨t, ht⟩ : ∃ t, mText r = t := ⟨_, rfl⟩
  obtain ⟨k, hk⟩ : ∃ k, mTaken r = k := ⟨_, rfl⟩
  rw [ht, hk] at HR ⊢
  clear hq ht hk
  by_cases hx : r.1 = 0
  · rw [if_neg (by simpa using hx)]
    rw [hx] at HR
    by_cases hlt : k < s.size
    · rw [if_pos hlt]
      have hl2 : (k : Int) < (s.size : Int) := by omega
      go_enter Try.func10, Try.ntmps10
      go_wp2_with fail
      refine HR.out.mono ?_
      rintro e w2 ⟨rfl, ho2⟩
      have HO := Lib.hid ho2
      clear ho2 HR
      go_wp2
      go_ret2
      exact ⟨rfl, HO.out⟩
    · rw [if_neg hlt]
      have hl2 : ¬ (k : Int) < (s.size : Int) := by omega
      go_enter Try.func10, Try.ntmps10
      go_wp2_with fail
      refine HR.out.mono ?_
      rintro e w2 ⟨rfl, ho2⟩
      have HO := Lib.hid ho2
      clear ho2 HR
      go_wp2
      go_ret2
      exact ⟨rfl, HO.out⟩
  · rw [if_pos hx]
    obtain ⟨x, hx0⟩ : ∃ x, r.1 = x := ⟨_, rfl⟩
    rw [hx0] at HR hx ⊢
    have hx2 : ¬ (x : Int) = 0 := by omega
    clear hx0
    go_enter Try.func10, Try.ntmps10
    go_wp2_with fail
    refine HR.out.mono ?_
    rintro e w2 ⟨rfl, ho2⟩
    have HO := Lib.hid ho2
    clear ho2 HR
    go_wp2
    go_ret2
    exact ⟨rfl, HO.out⟩
end Go.Proofs.Ytoclbodmibagpaa
