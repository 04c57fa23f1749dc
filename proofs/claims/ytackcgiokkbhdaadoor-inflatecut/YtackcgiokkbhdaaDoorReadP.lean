/- Layer 8, the program: a stream, read up to its end. -/
import Derived.Test.YtackcgiokkbhdaaDoorBlk
namespace Go.Proofs.YtackcgiokkbhdaaDoor
open Go.RowKit

/-- Where reading blocks stands. -/
structure SAt (w : World) (b d : Nat) (s : ByteArray) (most : Int) (a : Nat) (A : Option Addr) (n c : Nat) (Ak : Option Addr) (nk ck : Nat) (p1 p2 : Value) (out : List UInt8) (ks : List Nat) (wx : World) : Prop where
  str : Str wx b d most A n c (.slice Ak nk ck) p1 p2 out
  rd : Rd wx b s a false
  krow : Row 3 wx Ak nk ck (ints ks)
  klen : ks.length = nk
  only : Only (fun _ => False) w wx
  bn : w.heap.size ≤ b
  dn : w.heap.size ≤ d
  an : ∀ j, Lies A j → w.heap.size ≤ j
  kn : ∀ j, Lies Ak j → w.heap.size ≤ j
  kfar : ∀ j, Lies Ak j → ¬ Mine b d A j
  fx : Fx wx b d A (Lies Ak) p1 p2

section
variable {w wx wy : World} {b d : Nat} {s : ByteArray} {most : Int} {a n c nk ck : Nat} {A Ak : Option Addr} {p1 p2 : Value} {out : List UInt8} {ks : List Nat}
theorem SAt.read (h : SAt w b d s most a A n c Ak nk ck p1 p2 out ks wx) (k : Only (· = b) wx wy) {a2 : Nat} (hr : Rd wy b s a2 false) : SAt w b d s most a2 A n c Ak nk ck p1 p2 out ks wy :=
  ⟨h.str.read k, hr, h.krow.only k (fun j hj e => h.kfar j hj (.inl e)), h.klen, h.only.andThen k (fun j e => .inr (by have := h.bn; omega)), h.bn, h.dn, h.an, h.kn, h.kfar, h.fx.keep (k.mono fun _ e => .inl e) fun j hj => .inl hj⟩
theorem SAt.next (h : SAt w b d s most a A n c Ak nk ck p1 p2 out ks wx) {r : Ans} {e : Ending} (hd : BlkPost wx b d s most A (.slice Ak nk ck) (Lies Ak) r e wy) (h0 : r.1 = 0) : ∃ A2 c2 q1 q2, SAt w b d s most r.2.1 A2 r.2.2.length c2 Ak nk ck q1 q2 r.2.2 ks wy := by
  obtain ⟨_, ho, hk⟩ := hd
  obtain ⟨A2, c2, q1, q2, g1, g2, g3, g4⟩ := hk h0
  have hkl := h.krow.lies
  refine ⟨A2, c2, q1, q2, g1, g2, h.krow.only ho h.kfar, h.klen, h.only.andThen ho ?_, h.bn, h.dn, fun j hj => ?_, h.kn, fun j hj => ?_, g4⟩
  · rintro j (e | e | e)
    · exact .inr (by have := h.bn; omega)
    · exact .inr (by have := h.dn; omega)
    · exact .inr (h.an j e)
  · exact (g3 j hj).elim (h.an j) fun x => Nat.le_trans h.only.size x
  · have h1 := hkl j hj
    have h2 := h.kfar j hj
    rintro (e | e | e)
    · exact h2 (.inl e)
    · exact h2 (.inr (.inl e))
    · exact (g3 j e).elim (fun x => h2 (.inr (.inr x))) (fun x => by omega)
theorem SAt.bad (h : SAt w b d s most a A n c Ak nk ck p1 p2 out ks wx) {r : Ans} {e : Ending} (hd : BlkPost wx b d s most A (.slice Ak nk ck) (Lies Ak) r e wy) : Only (fun _ => False) w wy := by
  refine h.only.andThen hd.2.1 ?_
  rintro j (e | e | e)
  · exact .inr (by have := h.bn; omega)
  · exact .inr (by have := h.dn; omega)
  · exact .inr (h.an j e)
/-- A kind laid behind the kinds, and the row laid into the stream. -/
theorem SAt.kind (h : SAt w b d s most a A n c Ak nk ck p1 p2 out ks wx) {w2 : World} {A2 : Option Addr} {c2 x : Nat} (hr : Row 3 w2 A2 (nk + 1) c2 (ints ks ++ ints [x])) (ho : Only (Lies Ak) wx w2) (ha : A2 = Ak ∨ A2 = some ⟨wx.heap.size, 0, none⟩) :
    SAt w b d s most a A n c A2 (nk + 1) c2 p1 p2 out (ks ++ [x]) (w2.setCell ⟨d, 3, none⟩ (.slice A2 (nk + 1) c2)) ∧ w2.cell? ⟨d, 3, none⟩ = some (.slice Ak nk ck) ∧ w2.frozen? ⟨d, 3, none⟩ = false := by
  have hlies : ∀ j, Lies A2 j → Lies Ak j ∨ wx.heap.size ≤ j := by
    intro j hj
    rcases ha with e | e
    · exact .inl (e ▸ hj)
    · obtain ⟨ad, e1, e2⟩ := hj
      rw [e] at e1
      obtain rfl := Option.some.inj e1
      exact .inr (Nat.le_of_eq e2)
  have hdl := h.str.is.lt
  have hbl := h.rd.lt
  have hal := h.str.row.lies
  have hsz := h.only.size
  have kd : ¬ Lies Ak d := fun e => h.kfar d e (.inr (.inl rfl))
  have kb : ¬ Lies Ak b := fun e => h.kfar b e (.inl rfl)
  have hmine : ∀ j, Mine b d A j → j < wx.heap.size := by
    rintro j (e | e | e)
    · omega
    · omega
    · exact hal j e
  have hkfar : ∀ j, Lies A2 j → ¬ Mine b d A j := fun j hj hm => (hlies j hj).elim (fun x => h.kfar j x hm) (fun x => by have := hmine j hm; omega)
  have hi2 := h.str.is.only ho kd
  have ow := Only.one w2 d 3 (.slice A2 (nk + 1) c2)
  refine ⟨⟨⟨hi2.set 3 _, (h.str.row.only ho fun j hj e => h.kfar j e (.inr (.inr hj))).only ow (fun j hj e => h.str.nd (e ▸ hj)), h.str.len, h.str.ne, h.str.nb, h.str.nd⟩, (h.rd.only ho kb).only ow (fun e => h.str.ne e.symm), ?_, by rw [List.length_append, h.klen]; rfl, ?_, h.bn, h.dn, h.an, ?_, hkfar, ?_⟩, hi2.cell 3 rfl, hi2.frozen 3⟩
  · rw [ints_append]
    exact hr.only ow fun j hj e => hkfar j hj (.inr (.inl e))
  · exact (h.only.andThen ho fun j hj => .inr (h.kn j hj)).andThen ow fun j e => .inr (by have := h.dn; omega)
  · intro j hj
    exact (hlies j hj).elim (h.kn j) (fun x => by omega)
  · rcases h.fx with q | ⟨T1, T2, lo, hi, e1, e2, hc, hb, hf⟩
    · exact .inl q
    · refine .inr ⟨T1, T2, lo, hi, e1, e2, (hc.keep ho fun j a b => (hf j a b).2).keep ow fun j a b e => (hf j a b).1 (.inr (.inl e)), hb, fun j a b => ⟨(hf j a b).1, fun hj => ?_⟩⟩
      have := hc.hh
      exact (hlies j hj).elim (hf j a b).2 (fun x => by omega)
end

def ReadP (w : World) (s : ByteArray) (most : Int) (r : Nat × Nat × List UInt8 × List Nat) (e : Ending) (w' : World) : Prop := Only (fun _ => False) w w' ∧
  if r.1 ≠ 0 then e = .returned (.tuple #[.pointer none, .int .i64 r.1]) else ∃ b d A c Ak ck p1 p2, e = .returned (.tuple #[.pointer (some ⟨d, 0, none⟩), .int .i64 0]) ∧ SAt w b d s most r.2.1 A r.2.2.1.length c Ak r.2.2.2.length ck p1 p2 r.2.2.1 r.2.2.2 w'

set_option maxRecDepth 100000 in
set_option maxHeartbeats 4000000 in
theorem read (s : ByteArray) (most : Int) (w : World) (hg : GTab w) (hs : s.size ≤ 10000) (hmost : most ≤ 100000) (hlow : -9223372036854775808 ≤ most) :
    Calls Tryd.prog 16 #[.string s, .int .i64 most] w (ReadP w s most (mStream (bitsOf s.data.toList) most)) := by
  unfold mStream
  rw [bits_len]
  obtain ⟨r, hr0⟩ : ∃ r, mStr (bitsOf s.data.toList) most (8 * s.size + 1) 0 [] [] = r := ⟨_, rfl⟩
  rw [hr0]
  have hw0 : 1 ≤ w.heap.size := by
    have := cell_lt (hg 0 (by decide))
    exact this
  obtain ⟨wb, hwb⟩ : ∃ wb, w.alloc (.cells #[.string s, .int .i64 0, .bool false] 80) = wb := ⟨_, rfl⟩
  have hob : Only (fun _ => False) w wb := by rw [← hwb]; exact (Only.refl _ w).alloc _
  have hrb : Rd wb w.heap.size s 0 false := by rw [← hwb]; exact Is.new w 80 _
  have hsb : wb.heap.size = w.heap.size + 1 := by rw [← hwb]; simp
  have HN := Lib.hid (newReader s w)
  rw [hwb] at HN
  obtain ⟨b, hb⟩ : ∃ b, w.heap.size = b := ⟨_, rfl⟩
  rw [hb] at HN hrb hsb
  have hmin : min most 4194304 = most := by omega
  obtain ⟨wd, hwd⟩ : ∃ wd, wb.alloc (.cells #[.pointer (some ⟨b, 0, none⟩), .int .i64 most, .slice none 0 0, .slice none 0 0, .pointer none, .pointer none] 53) = wd := ⟨_, rfl⟩
  have hod : Only (fun _ => False) wb wd := by rw [← hwd]; exact (Only.refl _ wb).alloc _
  have hid : Is wd wb.heap.size 53 [.pointer (some ⟨b, 0, none⟩), .int .i64 most, .slice none 0 0, .slice none 0 0, .pointer none, .pointer none] := by rw [← hwd]; exact Is.new wb 53 _
  have hno : ∀ j, ¬ Lies none j := by rintro j ⟨ad, e, _⟩; cases e
  have h0 : SAt w b wb.heap.size s most 0 none 0 0 none 0 0 (.pointer none) (.pointer none) [] [] wd :=
    ⟨⟨hid, Row.nil 5 wd, rfl, by omega, hno _, hno _⟩, hrb.only hod fun f => f, Row.nil 3 wd, rfl, hob.trans hod, by omega, by omega, fun j hj => (hno j hj).elim, fun j hj => (hno j hj).elim, fun j hj => (hno j hj).elim, .inl ⟨rfl, rfl⟩⟩
  obtain ⟨d, hd⟩ : ∃ d, wb.heap.size = d := ⟨_, rfl⟩
  rw [hd] at h0
  have H0 := Lib.hid h0
  have HR0 := Lib.hid hr0
  have HG : Hid (∀ wx, Only (fun _ => False) w wx → GTab wx) := Lib.hid fun wx ho => hg.keep ho fun f => f
  have hb0 : b ≠ 0 := by omega
  clear h0 hr0 hid hod hob hrb hg hb hsb hno
  go_enter Tryd.func16, Tryd.ntmps16
  go_wp2_with fail
  refine HN.out.mono ?_
  rintro e w2 ⟨rfl, hw2⟩
  subst hw2
  clear HN
  go_wp2_with fail
  go_loopg [7, 8, 9, 10] (8 * s.size + 1) (fun gk u1 u2 u3 u4 wx => ∃ (a : Nat) (A : Option Addr) (n c : Nat) (Ak : Option Addr) (nk ck : Nat) (p1 p2 : Value) (out : List UInt8) (ks : List Nat), a ≤ 8 * s.size ∧ 8 * s.size < a + gk ∧ n ≤ 100000 ∧ nk + gk ≤ 100000 ∧ Hid (SAt w b d s most a A n c Ak nk ck p1 p2 out ks wx) ∧ Hid (mStr (bitsOf s.data.toList) most gk a out ks = r))
  case atStart => exact ⟨0, _, 0, 0, _, 0, 0, _, _, [], [], by omega, by omega, by omega, by omega, H0, HR0⟩
  case round =>
    clear H0 HR0 hwd
    obtain ⟨a, A, n, c, Ak, nk, ck, p1, p2, out, ks, ha, hgk, hn, hnk, HS, HR0⟩ := hrel
    obtain ⟨f, rfl⟩ : ∃ f, gk = f + 1 := ⟨gk - 1, by omega⟩
    have hm := HR0.out
    rw [mStr_step, bits_len] at hm
    have HH := Lib.hid (head b d s a wr HS.out.str.c0 HS.out.str.ne HS.out.rd (by omega) ha)
    unfold HeadPost at HH
    by_cases hend : 8 * s.size < a + 3
    · rw [if_pos hend] at hm
      have HM := Lib.hid hm
      clear hm HR0
      go_wp2_with fail
      refine HH.out.mono ?_
      rintro e w3 ⟨ho3, hif⟩
      rw [if_pos hend] at hif
      obtain ⟨v1, v2, rfl⟩ := hif
      have HO3 : Hid (Only (fun _ => False) w w3) := Lib.hid (HS.out.only.andThen ho3 fun j e => .inr (by have := HS.out.bn; omega))
      clear ho3 HH
      go_wp2
      go_ret2
      exact ⟨HO3.out, by rw [← HM.out]; rfl⟩
    · rw [if_neg hend] at hm
      have hk4 := nm_lt (bitsOf s.data.toList) (a + 1) 2
      have hbo := mBlock_ok (bitsOf s.data.toList) most 100000 (nm (bitsOf s.data.toList) (a + 1) 2) (a + 3) out (by omega) (by rw [bits_len]; omega) (by rw [HS.out.str.len]; exact hn)
      rw [bits_len] at hbo
      obtain ⟨kind, hkind⟩ : ∃ k, nm (bitsOf s.data.toList) (a + 1) 2 = k := ⟨_, rfl⟩
      obtain ⟨lst, hlst⟩ : ∃ k, nm (bitsOf s.data.toList) a 1 = k := ⟨_, rfl⟩
      rw [hkind] at hm hk4 hbo HH
      rw [hlst] at hm HH
      have HBL : Hid (∀ w3, SAt w b d s most (a + 3) A n c Ak nk ck p1 p2 out ks w3 → Calls Tryd.prog 29 #[.pointer (some ⟨d, 0, none⟩), .int .i64 kind] w3 (BlkPost w3 b d s most A (.slice Ak nk ck) (Lies Ak) (mBlock (bitsOf s.data.toList) most kind (a + 3) out))) := Lib.hid fun w3 h3 => block b d kind s (a + 3) most A n c _ p1 p2 out (Lies Ak) w3 h3.str h3.rd (HG.out w3 h3.only) h3.fx h3.krow.lies hb0 (by omega) (by omega) hn hmost hk4
      obtain ⟨⟨x, a4, o4⟩, hq⟩ : ∃ q, mBlock (bitsOf s.data.toList) most kind (a + 3) out = q := ⟨_, rfl⟩
      rw [hq] at hm HBL hbo
      simp only at hm hbo
      have HM := Lib.hid hm
      have HBO := Lib.hid hbo
      obtain ⟨Lb, hLb⟩ : ∃ Lb, decide (lst = 1) = Lb := ⟨_, rfl⟩
      rw [hLb] at HH
      have HLB := Lib.hid hLb
      clear hm hq hkind hlst HR0 hbo hLb
      go_wp2_with fail
      refine HH.out.mono ?_
      rintro e w3 ⟨ho3, hif⟩
      rw [if_neg hend] at hif
      obtain ⟨rfl, hr3⟩ := hif
      have HS3 := Lib.hid (HS.out.read ho3 hr3)
      clear ho3 hr3 HH HS
      go_wp2_with fail
      refine (HBL.out w3 HS3.out).mono ?_
      intro e w4 hd4
      by_cases hx : x = 0
      · subst hx
        obtain ⟨A2, c2, q1, q2, h4⟩ := HS3.out.next hd4 rfl
        obtain ⟨rfl, _⟩ := hd4
        obtain ⟨n1, n2, n3⟩ := HBO.out rfl
        have hm := HM.out
        rw [if_neg (by simp)] at hm
        simp only at h4
        have HS4 := Lib.hid h4
        have g3 := h4.str.is.cell 3 rfl
        have HAW : Hid (SAt w b d s most a4 A2 o4.length c2 Ak nk ck q1 q2 o4 ks (w4.alloc (.cells #[.int .i64 (kind : Nat)] 3))) := Lib.hid (by
          have o : Only (fun _ => False) w4 (w4.alloc (.cells #[.int .i64 (kind : Nat)] 3)) := (Only.refl _ w4).alloc _
          exact h4.read (o.mono fun _ f => f.elim) (h4.rd.only o fun f => f))
        have HSR := Lib.hid (Src.oneInt Tryd.underlying26 w4 .i64 kind 1 3)
        obtain ⟨wy, hwy⟩ : ∃ wy, w4.alloc (.cells #[.int .i64 (kind : Nat)] 3) = wy := ⟨_, rfl⟩
        rw [hwy] at HAW HSR
        have HMM := Lib.hid hm
        clear h4 HBL HS3 hm HM HBO
        by_cases hl1 : lst = 1
        · have hLb : Lb = true := by rw [← HLB.out]; simpa using hl1
          subst hLb
          have hm := HMM.out
          rw [if_pos hl1] at hm
          have HM2 := Lib.hid hm
          clear hm HMM HLB hl1
          go_upto_region 8 with fail
          go_wp2_with (at_builtin
                       refine wpList_append_row rfl (.tmp 36) (.tmp 38) 26 26 3 rfl Tryd.underlying26 info3 Ak nk ck 1 (ints ks) (ints [kind]) (.slice (some ⟨w4.heap.size, 0, none⟩) 1 1) (by rfl) (by rfl) HAW.out.krow rfl HSR.out (by omega) (by omega) ?_
                       intro A9 c9 w9 hrow9 honly9 hlies9
                       obtain ⟨h9, y1, y2⟩ := HAW.out.kind hrow9 honly9 hlies9
                       have H9 := Lib.hid h9
                       clear hrow9 honly9 hlies9 h9)
          go_ret2
          refine ⟨H9.out.only, ?_⟩
          rw [← HM2.out, if_neg (by simp)]
          refine ⟨b, d, A2, c2, A9, c9, q1, q2, rfl, ?_⟩
          have e : (ks ++ [kind]).length = nk + 1 := H9.out.klen
          simp only [e]
          exact H9.out
        · have hLb : Lb = false := by rw [← HLB.out]; simpa using hl1
          subst hLb
          have hm := HMM.out
          rw [if_neg hl1] at hm
          have HM2 := Lib.hid hm
          clear hm HMM HLB hl1
          go_upto_region 8 with fail
          go_wp2_with (at_builtin
                       refine wpList_append_row rfl (.tmp 36) (.tmp 38) 26 26 3 rfl Tryd.underlying26 info3 Ak nk ck 1 (ints ks) (ints [kind]) (.slice (some ⟨w4.heap.size, 0, none⟩) 1 1) (by rfl) (by rfl) HAW.out.krow rfl HSR.out (by omega) (by omega) ?_
                       intro A9 c9 w9 hrow9 honly9 hlies9
                       obtain ⟨h9, y1, y2⟩ := HAW.out.kind hrow9 honly9 hlies9
                       have H9 := Lib.hid h9
                       clear hrow9 honly9 hlies9 h9)
          go_roundg f
          case measure => omega
          case rel => exact ⟨a4, A2, _, c2, A9, nk + 1, c9, q1, q2, o4, _, n2, by omega, n3, by omega, H9, HM2⟩
      · have ho4 := HS3.out.bad hd4
        obtain ⟨rfl, _⟩ := hd4
        have hm := HM.out
        rw [if_pos hx] at hm
        have HM2 := Lib.hid hm
        have HO4 := Lib.hid ho4
        have hx2 : ¬ (x : Int) = 0 := by omega
        clear hm ho4 HBL HS3 HM HBO
        go_wp2
        go_ret2
        exact ⟨HO4.out, by rw [← HM2.out, if_pos hx]; rfl⟩
end Go.Proofs.YtackcgiokkbhdaaDoor
