/- Layer 8, the document: a block, and a stream. -/
import Derived.Test.YtackcgiokkbhdaaDoorDOwn
import Derived.Test.YtackcgiokkbhdaaDoorDStored
import Derived.Test.YtackcgiokkbhdaaDoorStreams
namespace Go.Proofs.YtackcgiokkbhdaaDoor
open Go.RowKit

/-- The document's reader, with its kinds. -/
structure DAt (p : RP) (w : World) (a : Nat) (A : Option Addr) (n c : Nat) (Ak : Option Addr) (nk ck : Nat) (out : List UInt8) (ks : List Nat) (wx : World) : Prop where
  rf : Rf p wx a A n c (.slice Ak nk ck) out
  krow : Row 3 wx Ak nk ck (ints ks)
  klen : ks.length = nk
  only : Only (fun _ => False) w wx
  rn : w.heap.size ≤ p.r
  kn : ∀ j, Lies Ak j → p.r < j
  kfar : ∀ j, Lies Ak j → ¬ Lies A j
section
variable {p : RP} {w wx wy : World} {a n c nk ck : Nat} {A Ak : Option Addr} {out : List UInt8} {ks : List Nat}
theorem DAt.read (h : DAt p w a A n c Ak nk ck out ks wx) (k : Only (· = p.r) wx wy) {a2 : Nat} (hr : Rf p wy a2 A n c (.slice Ak nk ck) out) : DAt p w a2 A n c Ak nk ck out ks wy :=
  ⟨hr, h.krow.only k (fun j hj e => by have := h.kn j hj; omega), h.klen, h.only.andThen k (fun j e => .inr (by have := h.rn; omega)), h.rn, h.kn, h.kfar⟩
theorem DAt.bad (h : DAt p w a A n c Ak nk ck out ks wx) {r : Ans} {e : Ending} (hd : DoneR p wx A (.slice Ak nk ck) r e wy) : Only (fun _ => False) w wy := by
  refine h.only.andThen hd.2.1 ?_
  have h1 := h.rn
  rintro j (e | e)
  · exact .inr (by omega)
  · exact .inr (by have := h.rf.an j e; omega)
theorem DAt.next (h : DAt p w a A n c Ak nk ck out ks wx) {r : Ans} {e : Ending} (hd : DoneR p wx A (.slice Ak nk ck) r e wy) (h0 : r.1 = 0) : ∃ A2 c2, DAt p w r.2.1 A2 r.2.2.length c2 Ak nk ck r.2.2 ks wy := by
  have hon := h.bad hd
  obtain ⟨_, ho, hk⟩ := hd
  obtain ⟨A2, c2, g1, g3⟩ := hk h0
  have hkl := h.krow.lies
  refine ⟨A2, c2, g1, h.krow.only ho ?_, h.klen, hon, h.rn, h.kn, fun j hj e => ?_⟩
  · rintro j hj (e | e)
    · have := h.kn j hj; omega
    · exact h.kfar j hj e
  · have := hkl j hj
    exact (g3 j e).elim (h.kfar j hj) (fun x => by omega)
theorem DAt.kind (h : DAt p w a A n c Ak nk ck out ks wx) {w2 : World} {A2 : Option Addr} {c2 x : Nat} (hr : Row 3 w2 A2 (nk + 1) c2 (ints ks ++ ints [x])) (ho : Only (Lies Ak) wx w2) (ha : A2 = Ak ∨ A2 = some ⟨wx.heap.size, 0, none⟩) :
    DAt p w a A n c A2 (nk + 1) c2 out (ks ++ [x]) (w2.setCell ⟨p.r, 4, none⟩ (.slice A2 (nk + 1) c2)) ∧ w2.cell? ⟨p.r, 4, none⟩ = some (.slice Ak nk ck) ∧ w2.frozen? ⟨p.r, 4, none⟩ = false := by
  have hlies : ∀ j, Lies A2 j → Lies Ak j ∨ wx.heap.size ≤ j := by
    intro j hj
    rcases ha with e | e
    · exact .inl (e ▸ hj)
    · obtain ⟨ad, e1, e2⟩ := hj
      rw [e] at e1
      obtain rfl := Option.some.inj e1
      exact .inr (Nat.le_of_eq e2)
  have hrl := h.rf.is.lt
  have hal := h.rf.row.lies
  have hkr : ∀ j, Lies Ak j → ¬ j ≤ p.r := fun j hj => Nat.not_le_of_lt (h.kn j hj)
  have hf2 := h.rf.keep ho (fun j hj e => hkr j e hj) (fun j hj e => h.kfar j e hj)
  have ow := Only.one w2 p.r 4 (.slice A2 (nk + 1) c2)
  have hkn : ∀ j, Lies A2 j → p.r < j := fun j hj => (hlies j hj).elim (h.kn j) (fun x => by omega)
  refine ⟨⟨⟨hf2.is.set 4 _, hf2.bits.keep (ow.mono fun j e => Nat.le_of_eq e.symm), hf2.row.only ow (fun j hj e => by have := h.rf.an j hj; omega), hf2.len, hf2.an⟩, ?_, by rw [List.length_append, h.klen]; rfl, (h.only.andThen ho fun j hj => .inr (by have := h.kn j hj; have := h.rn; omega)).andThen ow (fun j e => .inr (by have := h.rn; omega)), h.rn, hkn, fun j hj e => ?_⟩, hf2.is.cell 4 rfl, hf2.is.frozen 4⟩
  · rw [ints_append]
    exact hr.only ow fun j hj e => by have := hkn j hj; omega
  · have := hal j e
    exact (hlies j hj).elim (fun x => h.kfar j x e) (fun x => by omega)
end

def DBlkPost (p : RP) (w0 : World) (ks : List Nat) (last : Bool) (kind : Nat) (r : Ans) (e : Ending) (w' : World) : Prop :=
  Only (fun _ => False) w0 w' ∧ if r.1 ≠ 0 then ∃ v, e = .returned (.tuple #[v, .int .i64 r.1]) else e = .returned (.tuple #[.bool last, .int .i64 0]) ∧ ∃ A c Ak ck, DAt p w0 r.2.1 A r.2.2.length c Ak (ks.length + 1) ck r.2.2 (ks ++ [kind]) w'

set_option maxRecDepth 100000 in
set_option maxHeartbeats 8000000 in
theorem dblock (p : RP) (hp : RB p) (hcap : p.nB ≤ p.cB) (h8 : ∃ q, p.nB = 8 * q) (hmost : p.most ≤ 100000) (a : Nat) (A : Option Addr) (n c : Nat) (Ak : Option Addr) (nk ck : Nat) (out : List UInt8) (ks : List Nat) (w0 w : World) (h : DAt p w0 a A n c Ak nk ck out ks w) (ha : a ≤ p.nB) (hn : n ≤ 100000) (hnk : nk ≤ 100000)
    (R : Ans) (hR : (if p.nB < a + 3 then ((3 : Nat), a, out) else mBlock p.B p.most (nm p.B (a + 1) 2) (a + 3) out) = R) :
    Calls Tryd.prog 19 #[.pointer (some ⟨p.r, 0, none⟩)] w (DBlkPost p w0 ks (decide (nm p.B a 1 = 1)) (nm p.B (a + 1) 2) R) := by
  have hpl := hp.len
  have hle := hp.le
  have HN : Hid (∀ v wx a' A' n' c' kv' o', Rf p wx a' A' n' c' kv' o' → a' ≤ p.nB → v ≤ 16 → Calls Tryd.prog 30 #[.pointer (some ⟨p.r, 0, none⟩), .int .i64 (v : Nat)] wx (DVal p wx A' n' c' kv' o' (mNum p.B a' v))) := Lib.hid fun v wx a' A' n' c' kv' o' h' ha' hv => dbits p hp a' v A' n' c' kv' o' wx h' ha' hv
  unfold mNum at HN
  rw [hpl] at HN
  have HN1 := Lib.hid (HN.out 1 w a A n c _ out h.rf ha (by decide))
  have HR := Lib.hid hR
  have HP := Lib.hid hp
  have H := Lib.hid h
  have HH8 := Lib.hid h8
  have hklen := h.klen
  clear h hp hR h8
  go_enter Tryd.func19, Tryd.ntmps19
  go_wp2_with fail
  refine HN1.out.mono ?_
  rintro e w1 ⟨he1, ho1, hr1⟩
  have HO1 : Hid (Only (fun _ => False) w0 w1) := Lib.hid (H.out.only.andThen ho1 fun j e => .inr (by have := H.out.rn; omega))
  by_cases h1 : p.nB < a + 1
  · rw [if_pos h1] at he1
    subst he1
    have hR := HR.out
    rw [if_pos (by omega)] at hR
    have HRR := Lib.hid hR
    clear hR ho1 hr1 HR HN HN1
    go_wp2
    go_ret2
    exact ⟨HO1.out, by rw [← HRR.out]; exact ⟨_, rfl⟩⟩
  · rw [if_neg h1] at he1 hr1
    subst he1
    have H1 := Lib.hid (H.out.read ho1 (hr1 rfl))
    have lt1 := nm_lt p.B a 1
    obtain ⟨lst, hlst⟩ : ∃ k, nm p.B a 1 = k := ⟨_, rfl⟩
    have HLST := Lib.hid hlst
    rw [hlst] at lt1 ⊢
    have HN2 := Lib.hid (HN.out 2 w1 (a + 1) A n c _ out H1.out.rf (by omega) (by decide))
    clear ho1 hr1 HN1 hlst
    go_wp2_with fail
    refine HN2.out.mono ?_
    rintro e w2 ⟨he2, ho2, hr2⟩
    have HO2 : Hid (Only (fun _ => False) w0 w2) := Lib.hid (HO1.out.andThen ho2 fun j e => .inr (by have := H.out.rn; omega))
    by_cases h3 : p.nB < a + 3
    · rw [if_pos (by omega)] at he2
      subst he2
      have hR := HR.out
      rw [if_pos h3] at hR
      have HRR := Lib.hid hR
      clear hR ho2 hr2 HR HN HN2
      go_wp2
      go_ret2
      exact ⟨HO2.out, by rw [← HRR.out]; exact ⟨_, rfl⟩⟩
    · rw [if_neg (by omega)] at he2 hr2
      subst he2
      have h2 := H1.out.read ho2 (hr2 rfl)
      rw [show a + 1 + 2 = a + 3 from by omega] at h2
      have lt2 := nm_lt p.B (a + 1) 2
      have hR := HR.out
      rw [if_neg h3] at hR
      obtain ⟨kind, hkind⟩ : ∃ k, nm p.B (a + 1) 2 = k := ⟨_, rfl⟩
      have HKD := Lib.hid hkind
      rw [hkind] at lt2 hR ⊢
      have H2 := Lib.hid h2
      have g4 := h2.rf.is.cell 4 rfl
      have oa : Only (fun _ => False) w2 (w2.alloc (.cells #[.int .i64 (kind : Nat)] 3)) := (Only.refl _ w2).alloc _
      have HAW := Lib.hid (h2.read (oa.mono fun _ f => f.elim) (h2.rf.new oa))
      have HSR := Lib.hid (Src.oneInt Tryd.underlying26 w2 .i64 kind 1 3)
      obtain ⟨wy, hwy⟩ : ∃ wy, w2.alloc (.cells #[.int .i64 (kind : Nat)] 3) = wy := ⟨_, rfl⟩
      rw [hwy] at HAW HSR
      have HRR := Lib.hid hR
      have ha3 : a + 3 ≤ p.nB := by omega
      clear h2 ho2 hr2 HR HN2 oa hR HO1 H1 HN hkind HO2
      go_upto_region 7 with fail
      go_cut [] (fun wx => ∃ A9 c9, Hid (DAt p w0 (a + 3) A n c A9 (nk + 1) c9 out (ks ++ [kind]) wx))
      case first =>
        go_wp2_with (at_builtin
                     refine wpList_append_row rfl (.tmp 33) (.tmp 35) 26 26 3 rfl Tryd.underlying26 info3 Ak nk ck 1 (ints ks) (ints [kind]) (.slice (some ⟨w2.heap.size, 0, none⟩) 1 1) (by rfl) (by rfl) HAW.out.krow rfl HSR.out (by omega) (by omega) ?_
                     intro A9 c9 w9 hrow9 honly9 hlies9
                     obtain ⟨h9, y1, y2⟩ := HAW.out.kind hrow9 honly9 hlies9
                     have H9 := Lib.hid h9
                     clear hrow9 honly9 hlies9 h9)
        go_meet
        exact ⟨A9, c9, H9⟩
      case rest =>
        obtain ⟨A9, c9, H9⟩ := hcut
        clear HAW HSR H2 g4
        have HFI : Hid (∀ w4 w5 e r, Only (· = p.r) wc w4 → Rf p w4 (a + 3) A n c (.slice A9 (nk + 1) c9) out ∨ True → DoneR p w4 A (.slice A9 (nk + 1) c9) r e w5 → r = R → DBlkPost p w0 ks (decide (nm p.B a 1 = 1)) (nm p.B (a + 1) 2) R (.returned (.tuple #[.bool (decide (lst = 1)), .int .i64 r.1])) w5) := Lib.hid fun w4 w5 e r ho4 _ hd hr => by
          subst hr
          have hd' : DoneR p wc A (.slice A9 (nk + 1) c9) r e w5 := by
            obtain ⟨q1, q2, q3⟩ := hd
            refine ⟨q1, (ho4.mono fun _ e => .inl e).trans q2, fun h0 => ?_⟩
            obtain ⟨A', c', g1, g2⟩ := q3 h0
            exact ⟨A', c', g1, fun j hj => (g2 j hj).imp id fun x => Nat.le_trans ho4.size x⟩
          refine ⟨H9.out.bad hd', ?_⟩
          by_cases h0 : r.1 = 0
          · rw [if_neg (by simpa using h0), h0, HLST.out, HKD.out]
            obtain ⟨A2, c2, h2⟩ := H9.out.next hd' h0
            refine ⟨rfl, A2, c2, A9, c9, ?_⟩
            rw [hklen]
            exact h2
          · rw [if_pos h0]
            exact ⟨_, rfl⟩
        have hbb : ((lst : Int) == 1) = decide (lst = 1) := by rw [Bool.eq_iff_iff]; simp; omega
        have hbd : decide ((lst : Int) = 1) = decide (lst = 1) := by rw [Bool.eq_iff_iff]; simp; omega
        obtain ⟨Lb, hLb⟩ : ∃ Lb, decide (lst = 1) = Lb := ⟨_, rfl⟩
        rw [hLb] at hbb hbd HFI
        have HOC := Lib.hid H9.out.only
        clear hLb lt1
        obtain rfl | rfl | rfl | rfl : kind = 0 ∨ kind = 1 ∨ kind = 2 ∨ kind = 3 := by omega
        · have hR := HRR.out
          unfold mBlock at hR
          rw [if_pos rfl] at hR
          have HS := Lib.hid (dstored p HP.out hcap HH8.out (a + 3) A n c _ out wc H9.out.rf ha3 hn)
          rw [hR] at HS
          clear hR
          go_wp2_with fail
          refine HS.out.mono ?_
          intro e w5 hd
          have HF := Lib.hid (HFI.out wc w5 e R (Only.refl _ _) (.inr trivial) hd rfl)
          obtain ⟨rfl, _⟩ := hd
          clear HS
          go_wp2
          go_ret2
          exact HF.out
        · have hR := HRR.out
          unfold mBlock at hR
          rw [if_neg (show ¬ ((1 : Nat) = 0) from by decide), if_pos rfl] at hR
          have HFX := Lib.hid (dfixed wc)
          go_wp2_with fail
          refine HFX.out.mono ?_
          rintro e w4 ⟨A1, c1, A2, c2, rfl, s1, s2, o4, l1, l2⟩
          have o4' : Only (· = p.r) wc w4 := o4.mono fun _ f => f.elim
          have hrl := H9.out.rf.is.lt
          have hal := H9.out.rf.row.lies
          have hCO := dcoded p HP.out (a + 3) A n c _ out _ A1 A2 288 c1 32 c2 fixA fixB w4 (H9.out.rf.new o4) ha3 s1 s2 fixA_length (by decide +kernel)
            (fun j hj hm => by
              have hlo : wc.heap.size ≤ j := hj.elim (l1 j) (l2 j)
              rcases hm with e | e
              · omega
              · have := hal j e; omega)
            (fun j hj => by
              rcases hj with ⟨ad, e, rfl⟩ | ⟨ad, e, rfl⟩
              · obtain ⟨b, off, e1, e2, _⟩ := s1 0 _ (ints_at fixA 0 (by rw [fixA_length]; decide))
                rw [e] at e1
                obtain rfl := Option.some.inj e1
                exact e2
              · obtain ⟨b, off, e1, e2, _⟩ := s2 0 _ (ints_at fixB 0 (by decide +kernel))
                rw [e] at e1
                obtain rfl := Option.some.inj e1
                exact e2)
            lens_fixA lens_fixB (by rw [kd_fixA]) (by rw [kd_fixB]) hn hmost
          rw [hpl] at hR
          rw [hR] at hCO
          have HCO := Lib.hid hCO
          have HFJ : Hid (∀ w5 e, DoneR p w4 A (.slice A9 (nk + 1) c9) R e w5 → DBlkPost p w0 ks (decide (nm p.B a 1 = 1)) (nm p.B (a + 1) 2) R (.returned (.tuple #[.bool Lb, .int .i64 R.1])) w5) := Lib.hid fun w5 e hd => HFI.out w4 w5 e R o4' (.inr trivial) hd rfl
          clear hR s1 s2 o4 l1 l2 hCO o4' HFX hal
          go_wp2_with fail
          refine HCO.out.mono ?_
          intro e w5 hd
          have HF := Lib.hid (HFJ.out w5 e hd)
          obtain ⟨rfl, _⟩ := hd
          clear HCO
          go_wp2
          go_ret2
          exact HF.out
        · have hR := HRR.out
          unfold mBlock at hR
          rw [if_neg (show ¬ ((2 : Nat) = 0) from by decide), if_neg (show ¬ ((2 : Nat) = 1) from by decide), if_pos rfl] at hR
          have HFX := Lib.hid (dfixed wc)
          have hok := mOwn_ok p.B (a + 3)
          rw [hpl] at hok
          have HOW : Hid (∀ w4, Only (fun _ => False) wc w4 → Calls Tryd.prog 32 #[.pointer (some ⟨p.r, 0, none⟩)] w4 (DOwnPost p w4 A n c (.slice A9 (nk + 1) c9) out (mOwn p.B (a + 3)))) := Lib.hid fun w4 o4 => down p HP.out (a + 3) A n c _ out w4 (H9.out.rf.new o4) ha3
          unfold DOwnPost at HOW
          obtain ⟨⟨x, a5, la, lb⟩, hq⟩ : ∃ q, mOwn p.B (a + 3) = q := ⟨_, rfl⟩
          rw [hq] at HOW hR hok
          simp only at hR hok
          clear hq
          go_wp2_with fail
          refine HFX.out.mono ?_
          rintro e w4 ⟨A1, c1, A2, c2, rfl, s1, s2, o4, l1, l2⟩
          have HO4 := Lib.hid o4
          clear s1 s2 l1 l2 o4 HFX
          go_wp2_with fail
          refine (HOW.out w4 HO4.out).mono ?_
          rintro e w5 ⟨ho5, hif⟩
          have o5' : Only (· = p.r) wc w5 := (HO4.out.mono fun _ f => f.elim).trans ho5
          by_cases hx : x = 0
          · subst hx
            rw [if_neg (by simp)] at hif hR
            obtain ⟨B1, n1, d1, B2, n2, d2, rfl, hrf, s1, s2, hn1, hn2, hL1, hL2, k1, k2, hlz⟩ := hif
            obtain ⟨m1, m2⟩ := hok rfl
            have hrl := H9.out.rf.is.lt
            have hal := H9.out.rf.row.lies
            have hs4 := HO4.out.size
            have hCO := dcoded p HP.out a5 A n c _ out _ B1 B2 n1 d1 n2 d2 la lb w5 hrf m2 s1 s2 hn1 hn2
              (fun j hj hm => by
                have hlo := (hlz j hj).1
                rcases hm with e | e
                · omega
                · have := hal j e; omega)
              (fun j hj => (hlz j hj).2) hL1 hL2 k1 k2 hn hmost
            rw [hpl] at hR
            rw [hR] at hCO
            have HCO := Lib.hid hCO
            have HFJ : Hid (∀ w6 e, DoneR p w5 A (.slice A9 (nk + 1) c9) R e w6 → DBlkPost p w0 ks (decide (nm p.B a 1 = 1)) (nm p.B (a + 1) 2) R (.returned (.tuple #[.bool Lb, .int .i64 R.1])) w6) := Lib.hid fun w6 e hd => HFI.out w5 w6 e R o5' (.inr trivial) hd rfl
            clear hR s1 s2 ho5 o5' hCO hal hlz hL1 hL2 k1 k2 hrf HOW
            go_wp2_with fail
            refine HCO.out.mono ?_
            intro e w6 hd
            have HF := Lib.hid (HFJ.out w6 e hd)
            obtain ⟨rfl, _⟩ := hd
            clear HCO
            go_wp2
            go_ret2
            exact HF.out
          · rw [if_pos hx] at hif hR
            subst hif
            have hx2 : ¬ (x : Int) = 0 := by omega
            have HRX := Lib.hid hR
            have HO5 : Hid (Only (fun _ => False) w0 w5) := Lib.hid (HOC.out.andThen o5' fun j e => .inr (by have := H9.out.rn; omega))
            clear hR ho5 o5' HOW
            go_wp2
            go_ret2
            exact ⟨HO5.out, by rw [← HRX.out, if_pos hx]; exact ⟨_, rfl⟩⟩
        · have hR := HRR.out
          unfold mBlock at hR
          rw [if_neg (show ¬ ((3 : Nat) = 0) from by decide), if_neg (show ¬ ((3 : Nat) = 1) from by decide), if_neg (show ¬ ((3 : Nat) = 2) from by decide)] at hR
          have HRX := Lib.hid hR
          clear hR
          go_wp2
          go_ret2
          exact ⟨HOC.out, by rw [← HRX.out]; exact ⟨_, rfl⟩⟩
end Go.Proofs.YtackcgiokkbhdaaDoor
