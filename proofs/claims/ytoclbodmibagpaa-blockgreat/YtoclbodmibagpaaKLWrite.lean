/- Layer 11, the program: what is told ahead of symbols, written. -/
import Derived.Test.YtoclbodmibagpaaKHdr
namespace Go.Proofs.Ytoclbodmibagpaa
open Go.RowKit

theorem hdr0_length (L : List Nat) : (hdr0 L).length = 14 := by unfold hdr0; rw [List.length_append, List.length_append, nb_length, nb_length, nb_length]
theorem flat_len {α : Type} (f : α → List UInt8) (M : Nat) : ∀ l : List α, (∀ x ∈ l, (f x).length ≤ M) → (l.flatMap f).length ≤ M * l.length
  | [], _ => by simp
  | x :: l, h => by
    have h1 := h x List.mem_cons_self
    have h2 := flat_len f M l fun y hy => h y (List.mem_cons_of_mem _ hy)
    rw [List.flatMap_cons, List.length_append, List.length_cons, Nat.mul_add]
    omega
theorem hdr1_length (L : List Nat) (k : Nat) : (hdr1 L k).length ≤ 57 := by
  have h := flat_len (fun n => nb n 3) 3 ((ownT L).take k) fun x _ => by rw [nb_length]; exact Nat.le_refl _
  have h2 := (ownT_len L).2
  have h3 : ((ownT L).take k).length ≤ 19 := by rw [List.length_take]; omega
  unfold hdr1
  omega
theorem ruB_length (L : List Nat) (r : Ru) : (ruB (ownF L) r).length ≤ 22 := by
  unfold ruB
  rw [List.length_append, code_length, nb_length]
  have h1 := (ownF_facts L).2 r.s.toNat
  have h2 := bits_le r.s
  omega
theorem hdr2_length (L : List Nat) (k : Nat) (h : (ownR L).length ≤ 316) : (hdr2 L k).length ≤ 6952 := by
  have h1 := flat_len (ruB (ownF L)) 22 ((ownR L).take k) fun r _ => ruB_length L r
  have h3 : ((ownR L).take k).length ≤ 316 := by rw [List.length_take]; omega
  unfold hdr2
  omega

set_option maxRecDepth 20000 in
set_option maxHeartbeats 8000000 in
theorem lwrite (b : Nat) (F : Nat → Prop) (bl : List UInt8) (lo hi : Nat) (L : List Nat) (g1 g2 : Nat) (A3 : Option Addr) (q3 c3 g4 : Nat) (w : World) (h : Wf w b F bl) (hl : LnsAt lo hi w L g1 g2 A3 q3 g4) (hfar : ∀ j, lo ≤ j → j < hi → ¬ F j) (hhi : hi ≤ w.heap.size) (hbl : bl.length ≤ 900000) (hL : L.length = 317) :
    Calls Try.prog 84 #[lnsV L g1 g2 A3 q3 c3 g4, .pointer (some ⟨b, 0, none⟩)] w (PutW w b F (bl ++ hdrB L)) := by
  have hA := ownA_len hL
  have hB := ownB_len hL
  obtain ⟨nA, hnA⟩ : ∃ nA, (ownA L).length = nA := ⟨_, rfl⟩
  obtain ⟨nB, hnB⟩ : ∃ nB, (ownB L).length = nB := ⟨_, rfl⟩
  rw [hnA] at hA
  rw [hnB] at hB
  unfold lnsV
  rw [hnA, hnB]
  have hT := ownT_len L
  obtain ⟨nT, hnT⟩ : ∃ nT, (ownT L).length = nT := ⟨_, rfl⟩
  rw [hnT] at hT
  have hq := hl.q
  have hq2 := hl.q2
  obtain ⟨wa, hwa⟩ : ∃ wa, w.alloc (.cells #[.slice (some ⟨g1, 0, none⟩) nA 286, .slice (some ⟨g2, 0, none⟩) nB 30, .slice A3 q3 c3, .slice (some ⟨g4, 0, none⟩) 19 19] 115) = wa := ⟨_, rfl⟩
  have hoa : Only (fun _ => False) w wa := by rw [← hwa]; exact (Only.refl _ w).alloc _
  obtain ⟨K, hK⟩ : ∃ K, w.heap.size = K := ⟨_, rfl⟩
  have hIa : Is wa K 115 [.slice (some ⟨g1, 0, none⟩) nA 286, .slice (some ⟨g2, 0, none⟩) nB 30, .slice A3 q3 c3, .slice (some ⟨g4, 0, none⟩) 19 19] := by rw [← hwa, ← hK]; exact Is.new w _ _
  have hLa := hl.new hoa
  have hFi : ∀ wx, Only (fun _ => False) wa wx → Calls Try.prog 119 #[.slice (some ⟨g4, 0, none⟩) 19 19] wx (FirstsP wx (ownF L)) := fun wx ho => inFirstOrder _ 19 _ _ wx (hLa.new ho).s4 (ownF_facts L).1
  have HFi := Lib.hid (hFi wa (Only.refl _ wa))
  have HTr : Hid (∀ w1 w2 g c, Made 3 w1 (some ⟨g, 0, none⟩) 19 c (ints (toldTo (ownF L) 19)) w2 → Calls Try.prog 78 #[.slice (some ⟨g, 0, none⟩) 19 c, .int .i64 4] w2 fun e w' => e = .returned (.slice (some ⟨g, 0, none⟩) nT c) ∧ w2 = w') := Lib.hid fun w1 w2 g c hm => by
    have hc := hm.1.caps
    have := trimmed g 0 19 c _ 4 _ w2 hm.see (toldTo_length _ _ (Nat.le_refl _)) (by decide) (by decide) hc.1 hc.2
    have e : trimN (toldTo (ownF L) 19) 4 19 = nT := by
      rw [← hnT, ownT, trimF_length, toldTo_length _ _ (Nat.le_refl _)]
    rw [e] at this
    exact this
  -- everything stands behind w2; the writer lies in G
  obtain ⟨G, hG⟩ : ∃ G : Nat → Prop, (fun j => F j ∧ j < w.heap.size) = G := ⟨_, rfl⟩
  have hGl : ∀ j, G j → F j ∧ j < K := by rw [← hG, hK]; exact fun j q => q
  have hwf : Wf wa b G bl := by rw [← hG]; exact h.tight.new hoa
  have hlate : ∀ w2 bl' wz, Only (fun _ => False) wa w2 → WfP w2 b G bl' wz → WfP w b F bl' wz := fun w2 bl' wz o2 hz => ((hz.mono fun j q => (hGl j q).1).late (hoa.trans o2))
  have HLate := Lib.hid hlate
  have HB2 : Hid (∀ (w2 wx : World) (bl' : List UInt8), Only (fun _ => False) wa w2 → WfP w2 b G bl' wx → wx.cell? ⟨K, 0, none⟩ = some (.slice (some ⟨g1, 0, none⟩) nA 286) ∧ wx.cell? ⟨K, 1, none⟩ = some (.slice (some ⟨g2, 0, none⟩) nB 30) ∧ wx.cell? ⟨K, 2, none⟩ = some (.slice A3 q3 c3) ∧ wx.cell? ⟨K, 3, none⟩ = some (.slice (some ⟨g4, 0, none⟩) 19 19) ∧ Hid (LnsAt lo hi wx L g1 g2 A3 q3 g4)) := Lib.hid fun w2 wx bl' o2 hx => by
    have i1 := (hIa.only o2 fun f => f).only hx.only fun e => by have := (hGl K e).2; omega
    exact ⟨i1.cell 0 rfl, i1.cell 1 rfl, i1.cell 2 rfl, i1.cell 3 rfl, Lib.hid ((hLa.new o2).keep hx.only fun j a c q => hfar j a c (hGl j q).1)⟩
  have HP : Hid (∀ (w2 wx : World) (x n : Nat) (bl' : List UInt8), WfP w2 b G bl' wx → bl'.length ≤ 910000 → x < 4294967296 → n ≤ 32 → Calls Try.prog 57 #[.pointer (some ⟨b, 0, none⟩), .int .u32 x, .int .i64 n] wx fun e w' => e = .returned (.tuple #[]) ∧ WfP w2 b G (bl' ++ nb x n) w') := Lib.hid fun w2 wx x n bl' hx hl h5 h6 => by
    refine (wput b x n _ bl' wx hx.wf (by omega) h5 h6).mono ?_
    rintro e w' ⟨rfl, hw'⟩
    exact ⟨rfl, hx.step hw'⟩
  have HN : Hid (∀ (wx : World), LnsAt lo hi wx L g1 g2 A3 q3 g4 → hi ≤ wx.heap.size → Calls Try.prog 106 #[.slice (some ⟨g4, 0, none⟩) 19 19] wx (New2 wx (ownF L))) := Lib.hid fun wx hx hh => new2 _ 19 19 _ _ wx hx.s4 hh (ownF_facts L).1 (by decide) (lowF L) (kdF L)
  have HWF := Lib.hid hwf
  have HK : Hid (K < wa.heap.size ∧ hi ≤ wa.heap.size) := Lib.hid ⟨hIa.lt, Nat.le_trans hhi hoa.size⟩
  have HHF : Hid (∀ r ∈ ownR L, Has (ownF L) r.s.toNat ∧ mayR r = true) := Lib.hid fun r hr => by
    have hd := hl.pk.done (by rw [List.length_append, hnA, hnB]; omega)
    exact ⟨hasF L hd r hr, un_may _ _ _ hd r hr⟩
  have HnA := Lib.hid hnA
  have HnB := Lib.hid hnB
  have HnT := Lib.hid hnT
  have Hq := Lib.hid hq
  have HGl := Lib.hid hGl
  have HFar : Hid (∀ j, lo ≤ j → j < hi → ¬ G j) := Lib.hid fun j a c q => hfar j a c (hGl j q).1
  have ca3 := hIa.cell 3 rfl
  have ca0 := hIa.cell 0 rfl
  obtain ⟨xA, hxA⟩ : ∃ xA, nA - 257 = xA := ⟨_, rfl⟩
  obtain ⟨xB, hxB⟩ : ∃ xB, nB - 1 = xB := ⟨_, rfl⟩
  obtain ⟨xT, hxT⟩ : ∃ xT, nT - 4 = xT := ⟨_, rfl⟩
  have eA : (nA : Int) - 257 = (xA : Int) := by omega
  have eB : (nB : Int) - 1 = (xB : Int) := by omega
  have eT : (nT : Int) - 4 = (xT : Int) := by omega
  have eA2 : (xA : Int) % 4294967296 = (xA : Int) := by omega
  have eB2 : (xB : Int) % 4294967296 = (xB : Int) := by omega
  have eT2 : (xT : Int) % 4294967296 = (xT : Int) := by omega
  have HH0 : Hid (bl ++ nb xA 5 ++ nb xB 5 ++ nb xT 4 = bl ++ hdr0 L) := Lib.hid (by rw [hdr0, hnA, hnB, hnT, hxA, hxB, hxT]; simp only [List.append_assoc])
  have HX : Hid (xA < 4294967296 ∧ xB < 4294967296 ∧ xT < 4294967296) := Lib.hid (by omega)
  have Hbl := Lib.hid hbl
  clear h hl hfar hhi hL hoa hIa hLa hFi hG hGl hwf hlate hnA hnB hnT hxA hxB hxT hq hbl
  go_enter Try.func84, Try.ntmps84
  go_wp2_with fail
  refine HFi.out.mono ?_
  rintro e w1 ⟨gT, cT, rfl, m1⟩
  have M1 := Lib.hid m1
  have HT1 := Lib.hid (HTr.out wa w1 gT cT m1)
  clear m1 HFi HTr
  go_wp2_with fail
  refine HT1.out.mono ?_
  rintro e w1' ⟨rfl, rfl⟩
  have HST : Hid (WfP w1 b G bl w1) := Lib.hid (WfP.start (HWF.out.new M1.out.2.1))
  have HO1 : Hid (Only (fun _ => False) wa w1) := Lib.hid M1.out.2.1
  obtain ⟨k0, k1, k2, k3, _⟩ := HB2.out w1 w1 bl HO1.out HST.out
  clear HT1 HWF ca3 ca0
  go_wp2_with fail
  refine (HP.out w1 w1 xA 5 bl HST.out (by have := Hbl.out; omega) HX.out.1 (by decide)).mono ?_
  rintro e w2 ⟨rfl, q2⟩
  have H2 := Lib.hid q2
  clear q2 HST k0 k1 k2 k3
  obtain ⟨k0, k1, k2, k3, _⟩ := HB2.out w1 w2 _ HO1.out H2.out
  go_wp2_with fail
  refine (HP.out w1 w2 xB 5 _ H2.out (by have := Hbl.out; rw [List.length_append, nb_length]; omega) HX.out.2.1 (by decide)).mono ?_
  rintro e w3 ⟨rfl, q3'⟩
  have H3 := Lib.hid q3'
  clear q3' H2 k0 k1 k2 k3
  go_wp2_with fail
  refine (HP.out w1 w3 xT 4 _ H3.out (by have := Hbl.out; rw [List.length_append, List.length_append, nb_length, nb_length]; omega) HX.out.2.2 (by decide)).mono ?_
  rintro e w4 ⟨rfl, q4⟩
  have H4 : Hid (WfP w1 b G (bl ++ hdr0 L ++ hdr1 L 0) w4) := Lib.hid (by rw [HH0.out] at q4; simpa [hdr1] using q4)
  clear q4 H3 HH0 HX
  have HSeeT : Hid (∀ wx bl', WfP w1 b G bl' wx → See wx wx.heap.size (some ⟨gT, 0, none⟩) (ints (ownT L))) := Lib.hid fun wx bl' hx => by
    have hs : See w1 w1.heap.size (some ⟨gT, 0, none⟩) (ints (ownT L)) := by
      unfold ownT trimF
      rw [ints_take]
      exact M1.out.see.less _
    have hg : wa.heap.size ≤ gT := M1.out.2.2 gT ⟨_, rfl, rfl⟩
    exact (hs.apart (lies_one hg) hx.only fun j a _ q => by have := (HGl.out j q).2; have := HK.out.1; omega).more hx.only.size
  go_wp2_with fail
  go_loopg [37] nT (fun gk i wx => ∃ k : Nat, i = .int .i64 k ∧ k + gk ≤ nT ∧ nT ≤ k + gk ∧ Hid (WfP w1 b G (bl ++ hdr0 L ++ hdr1 L k) wx))
  case atStart => exact ⟨0, rfl, by omega, by omega, H4⟩
  case round =>
    clear H4
    obtain ⟨k, rfl, hk, hk2, HI⟩ := hrel
    by_cases hlt : k < nT
    · obtain ⟨bb, off, e1, _, c0⟩ := HSeeT.out wr _ HI.out k _ (ints_at (ownT L) k (by rw [HnT.out]; exact hlt))
      obtain ⟨rfl, rfl⟩ : gT = bb ∧ 0 = off := by simpa using e1
      rw [Nat.zero_add] at c0
      have hx7 := ownT_le L k
      have hst : hdr1 L (k + 1) = hdr1 L k ++ nb (ln (ownT L) k) 3 := by
        unfold hdr1
        refine flat_take _ _ k _ ?_
        unfold ln
        rw [List.getD_eq_getElem?_getD, List.getElem?_eq_getElem (by rw [HnT.out]; exact hlt)]
        rfl
      obtain ⟨x, hx⟩ : ∃ x, ln (ownT L) k = x := ⟨_, rfl⟩
      rw [hx] at c0 hx7 hst
      have HSt := Lib.hid hst
      have ex : (x : Int) % 4294967296 = (x : Int) := by omega
      have HPk := Lib.hid (HP.out w1 wr x 3 _ HI.out (by have := Hbl.out; have h1 := hdr0_length L; have h2 := hdr1_length L k; rw [List.length_append, List.length_append]; omega) (by omega) (by decide))
      clear hst hx e1
      go_wp2_with fail
      refine HPk.out.mono ?_
      rintro e w5 ⟨rfl, q5⟩
      have H5 : Hid (WfP w1 b G (bl ++ hdr0 L ++ hdr1 L (k + 1)) w5) := Lib.hid (by rw [HSt.out, ← List.append_assoc]; exact q5)
      clear q5 HPk HSt
      go_wp2_with fail
      go_roundg (gk - 1)
      case measure => omega
      case rel => exact ⟨k + 1, by go_num, by omega, by omega, H5⟩
    · obtain rfl : k = nT := by omega
      obtain ⟨k0, k1, k2, k3, HLn⟩ := HB2.out w1 wr _ HO1.out HI.out
      have HNw := Lib.hid (HN.out wr HLn.out (by have := HI.out.only.size; have := HO1.out.size; have := HK.out.2; omega))
      have hh1 : hdr1 L k = hdr1 L 19 := by
        unfold hdr1
        rw [List.take_of_length_le (by rw [HnT.out]; exact Nat.le_refl _), List.take_of_length_le (by rw [HnT.out]; omega)]
      have H5 : Hid (WfP w1 b G (bl ++ hdr0 L ++ hdr1 L 19) wr) := Lib.hid (by rw [← hh1]; exact HI.out)
      clear HI HSeeT HN hh1
      go_wp2_with fail
      refine HNw.out.mono ?_
      rintro e w6 ⟨T, rfl, ht, o6, hT6⟩
      have hz1 := HO1.out.size
      have hzr := H5.out.only.size
      obtain ⟨zr, hzr2⟩ : ∃ zr, wr.heap.size = zr := ⟨_, rfl⟩
      obtain ⟨z1, hz12⟩ : ∃ z1, w1.heap.size = z1 := ⟨_, rfl⟩
      obtain ⟨G6, hG6⟩ : ∃ G6 : Nat → Prop, (fun j => (G j ∨ w1.heap.size ≤ j) ∧ j < wr.heap.size) = G6 := ⟨_, rfl⟩
      have hG6l : ∀ j, G6 j → (G j ∨ z1 ≤ j) ∧ j < zr := by rw [← hG6, hz12, hzr2]; exact fun j q => q
      have hwf6 : Wf w6 b G6 (bl ++ hdr0 L ++ hdr1 L 19) := by rw [← hG6]; exact H5.out.wf.tight.new o6
      have hback : ∀ bl' wz, WfP w6 b G6 bl' wz → WfP w b F bl' wz := fun bl' wz hz => by
        have h1 : WfP w1 b G _ w6 := H5.out.new o6
        refine HLate.out w1 bl' wz HO1.out (h1.step (hz.mono fun j q => ?_))
        have := (hG6l j q).1
        rw [hz12]
        exact this
      have HBack := Lib.hid hback
      rw [hzr2] at ht
      have hz6 := o6.size
      have HC6 : Hid (∀ wx bl', WfP w6 b G6 bl' wx → wx.cell? ⟨K, 2, none⟩ = some (.slice A3 q3 c3) ∧ Hid (LnsAt lo hi wx L g1 g2 A3 q3 g4) ∧ Hid (Tab2 wx zr T (ownF L))) := Lib.hid fun wx bl' hx => by
        refine ⟨hx.only.cellF (o6.cellF k2 fun f => f) fun q => ?_, Lib.hid ((HLn.out.new o6).keep hx.only fun j a c q => ?_), Lib.hid (ht.keep hx.only fun j a c q => ?_)⟩
        · have h1 := hG6l _ q
          have h2 := HK.out
          rcases h1.1 with h3 | h3
          · have := (HGl.out _ h3).2
            simp at this
          · simp at h3
            omega
        · have h1 := hG6l _ q
          have h2 := HK.out
          rcases h1.1 with h3 | h3
          · exact HFar.out j a c h3
          · omega
        · have := (hG6l _ q).2
          omega
      have HST6 : Hid (WfP w6 b G6 (bl ++ hdr0 L ++ hdr1 L 19 ++ hdr2 L 0) w6) := Lib.hid (by simpa [hdr2] using WfP.start hwf6)
      have HLen : Hid (∀ k, (bl ++ hdr0 L ++ hdr1 L 19 ++ hdr2 L k).length ≤ 908000) := Lib.hid fun k => by
        have h1 := hdr0_length L
        have h2 := hdr1_length L 19
        have h3 := hdr2_length L k (by rw [Hq.out]; exact hq2)
        have := Hbl.out
        rw [List.length_append, List.length_append, List.length_append]
        omega
      have hk6 := (HC6.out w6 _ HST6.out).1
      clear hback hwf6 hG6l hG6 ht o6 hT6 HNw H5 HLn HFar HLate HB2 HP k0 k1 k2 k3 hzr hz1 hzr2 hz12 hz6 HO1 M1 HGl HK
      go_wp2_with fail
      clear hk6
      go_loopg [55] q3 (fun gk i wx => ∃ k : Nat, i = .int .i64 k ∧ k + gk ≤ q3 ∧ q3 ≤ k + gk ∧ Hid (WfP w6 b G6 (bl ++ hdr0 L ++ hdr1 L 19 ++ hdr2 L k) wx))
      case atStart => exact ⟨0, rfl, by omega, by omega, HST6⟩
      case round =>
        clear HST6
        obtain ⟨j, rfl, hj, hj2, HI⟩ := hrel
        by_cases hlt2 : j < q3
        · obtain ⟨r, hr⟩ : ∃ r, (ownR L)[j]? = some r := ⟨(ownR L)[j]'(by rw [Hq.out]; exact hlt2), by simp [Hq.out, hlt2]⟩
          obtain ⟨_, HLn, HTb⟩ := HC6.out wr _ HI.out
          obtain ⟨bb, off, rfl, _, c0, c1⟩ := HLn.out.s3.symX j r hr
          have hh := HHF.out r (List.mem_of_getElem? hr)
          have hst : hdr2 L (j + 1) = hdr2 L j ++ ruB (ownF L) r := flat_take _ _ j r hr
          obtain ⟨s, m⟩ := r
          have hmay := mayR_yes _ hh.2
          simp only at c0 c1 hmay
          obtain ⟨p, hp⟩ : ∃ p : Nat, s = p := ⟨s.toNat, by omega⟩
          subst hp
          have hml := most_le (p : Int)
          obtain ⟨y, hy⟩ : ∃ y : Nat, m = y := ⟨m.toNat, by omega⟩
          subst hy
          have hru : ruB (ownF L) ⟨(p : Int), (y : Int)⟩ = code (ownF L) p ++ nb y (bitsF (p : Int)) := by
            unfold ruB
            simp only [Int.toNat_natCast]
          rw [hru] at hst
          have hhas : Has (ownF L) p := by have := hh.1; simp only [Int.toNat_natCast] at this; exact this
          have hbits := bits_le (p : Int)
          obtain ⟨nb', hnb⟩ : ∃ n, bitsF (p : Int) = n := ⟨_, rfl⟩
          rw [hnb] at hst hbits
          have HRB : Hid (∀ wx, Calls Try.prog 120 #[.int .i64 (p : Nat)] wx fun e w' => e = .returned (.int .i64 (nb' : Nat)) ∧ wx = w') := Lib.hid fun wx => by
            have := runBits (p : Int) wx
            rw [hnb] at this
            exact this
          have HSt := Lib.hid hst
          obtain ⟨we, hwe⟩ : ∃ we, wr.alloc (.cells #[.int .i64 (p : Nat), .int .i64 (y : Nat)] 172) = we := ⟨_, rfl⟩
          have hoe : Only (fun _ => False) wr we := by rw [← hwe]; exact (Only.refl _ wr).alloc _
          obtain ⟨g, hg⟩ : ∃ g, wr.heap.size = g := ⟨_, rfl⟩
          have hIe : Is we g 172 [.int .i64 (p : Nat), .int .i64 (y : Nat)] := by rw [← hwe, ← hg]; exact Is.new wr _ _
          have d0 := hIe.cell 0 rfl
          have d1 := hIe.cell 1 rfl
          have htbe := HTb.out.new hoe
          have hze := hoe.size
          obtain ⟨Ge, hGe⟩ : ∃ Ge : Nat → Prop, (fun j => (G6 j ∨ w6.heap.size ≤ j) ∧ j < wr.heap.size) = Ge := ⟨_, rfl⟩
          have hGel : ∀ j, Ge j → (G6 j ∨ w6.heap.size ≤ j) ∧ j < g := by rw [← hGe, hg]; exact fun j q => q
          have hwfe : Wf we b Ge (bl ++ hdr0 L ++ hdr1 L 19 ++ hdr2 L j) := by rw [← hGe]; exact HI.out.wf.tight.new hoe
          have HBk : Hid (∀ bl' wz, WfP we b Ge bl' wz → WfP w6 b G6 bl' wz) := Lib.hid fun bl' wz hz => (HI.out.new hoe).step (hz.mono fun j q => (hGel j q).1)
          have HCe : Hid (∀ wx bl', WfP we b Ge bl' wx → wx.cell? ⟨g, 0, none⟩ = some (.int .i64 (p : Nat)) ∧ wx.cell? ⟨g, 1, none⟩ = some (.int .i64 (y : Nat))) := Lib.hid fun wx bl' hx => by
            have i1 := hIe.only hx.only fun e => by have := (hGel g e).2; omega
            exact ⟨i1.cell 0 rfl, i1.cell 1 rfl⟩
          have HW : Hid (Calls Try.prog 75 #[.pointer (some ⟨T, 0, none⟩), .pointer (some ⟨b, 0, none⟩), .int .i64 (p : Nat)] we (WroteP we b Ge (bl ++ hdr0 L ++ hdr1 L 19 ++ hdr2 L j ++ code (ownF L) p))) := Lib.hid (twrite T b p zr Ge (ownF L) _ we htbe hwfe hhas (lowF L) (by have := HLen.out j; omega))
          have HPt : Hid (∀ wx wy, WfP we b Ge (bl ++ hdr0 L ++ hdr1 L 19 ++ hdr2 L j ++ code (ownF L) p) wx → Only (fun _ => False) wx wy → Calls Try.prog 57 #[.pointer (some ⟨b, 0, none⟩), .int .u32 y, .int .i64 nb'] wy fun e w' => e = .returned (.tuple #[]) ∧ WfP we b Ge (bl ++ hdr0 L ++ hdr1 L 19 ++ hdr2 L j ++ code (ownF L) p ++ nb y nb') w') := Lib.hid fun wx wy hx ho => by
            have hy := hx.new ho
            refine (wput b y nb' _ _ wy hy.wf (by have := HLen.out j; have h2 := ln_le (ownF L) p (lowF L); rw [List.length_append, code_length]; omega) (by omega) (by omega)).mono ?_
            rintro e w' ⟨rfl, hw'⟩
            exact ⟨rfl, hy.step hw'⟩
          have HY : Hid (y < 4294967296) := Lib.hid (by omega)
          clear hIe hoe htbe hze hGe hGel hwfe hst hnb hru hh hmay hhas hr HLn HTb hml
          go_wp2_with fail
          refine HW.out.mono ?_
          rintro e w7 ⟨rfl, q7⟩
          have H7 := Lib.hid q7
          clear q7 HW d0 d1
          have HP7 := Lib.hid (HPt.out w7 w7.drew H7.out ((Only.refl _ w7).drew))
          have hS7 := HCe.out w7.drew _ (H7.out.new ((Only.refl _ w7).drew))
          have S7 := Lib.hid hS7
          clear hS7
          go_wp2_with fail
          refine Steps.region (fun W => W.cell? ⟨g, 0, none⟩ = some (.int .i64 (p : Nat)) ∧ W.cell? ⟨g, 1, none⟩ = some (.int .i64 (y : Nat))) [(true, 0), (true, 1), (true, 2), (true, 3), (true, 4), (true, 5), (false, 6), (false, 7)] (by kernel_rfl) (by kernel_rfl) rfl (by kernel_rfl) (fun _ _ d _ _ h => by cases d <;> exact h) ?_
          refine Steps.take (.pointer (some ⟨b, 0, none⟩)) rfl S7.out (fun _ _ => by kernel_rfl) ?_
          simp only [Act.put, List.setIfInBounds_toArray, List.set_cons_succ, List.set_cons_zero]
          refine Steps.take (.pointer (some ⟨g, 1, none⟩)) rfl S7.out (fun _ _ => by kernel_rfl) ?_
          simp only [Act.put, List.setIfInBounds_toArray, List.set_cons_succ, List.set_cons_zero]
          refine Steps.take (.int .i64 (y : Nat)) rfl S7.out (fun _ hW => by obtain ⟨hw1, hw2⟩ := hW; go_simp) ?_
          simp only [Act.put, List.setIfInBounds_toArray, List.set_cons_succ, List.set_cons_zero]
          refine Steps.take (.int .u32 (y : Nat)) rfl S7.out (fun _ _ => by have := HY.out; go_simp; first | done | (rw [IntKind.wrap_u32]; omega) | omega) ?_
          simp only [Act.put, List.setIfInBounds_toArray, List.set_cons_succ, List.set_cons_zero]
          refine Steps.take (.pointer (some ⟨g, 0, none⟩)) rfl S7.out (fun _ _ => by kernel_rfl) ?_
          simp only [Act.put, List.setIfInBounds_toArray, List.set_cons_succ, List.set_cons_zero]
          refine Steps.take (.int .i64 (p : Nat)) rfl S7.out (fun _ hW => by obtain ⟨hw1, hw2⟩ := hW; go_simp) ?_
          simp only [Act.put, List.setIfInBounds_toArray, List.set_cons_succ, List.set_cons_zero]
          refine Steps.call 120 #[.int .i64 (p : Nat)] rfl (by kernel_rfl) ((HRB.out _).mono ?_)
          rintro e w8 ⟨rfl, rfl⟩
          refine ⟨_, rfl, S7.out, ?_⟩
          simp only [Act.put, List.setIfInBounds_toArray, List.set_cons_succ, List.set_cons_zero]
          refine Steps.call 57 #[.pointer (some ⟨b, 0, none⟩), .int .u32 (y : Nat), .int .i64 (nb' : Nat)] rfl (by kernel_rfl) (HP7.out.mono ?_)
          rintro e w9 ⟨rfl, q9⟩
          refine ⟨_, rfl, HCe.out w9 _ q9, ?_⟩
          have H9 : Hid (WfP w6 b G6 (bl ++ hdr0 L ++ hdr1 L 19 ++ hdr2 L (j + 1)) w9) := Lib.hid (by
            have := HBk.out _ _ q9
            rw [HSt.out]
            simpa only [List.append_assoc] using this)
          clear q9 HP7 S7 HCe HPt HBk HRB HSt H7
          simp only [Act.put, List.setIfInBounds_toArray, List.set_cons_succ, List.set_cons_zero]
          show wpList _ _ _ _ _ _
          go_wp2_with fail
          go_roundg (gk - 1)
          case measure => omega
          case rel => exact ⟨j + 1, by go_num, by omega, by omega, H9⟩
        · obtain rfl : j = q3 := by omega
          have H8 : Hid (WfP w b F (bl ++ hdrB L) wr) := Lib.hid (by
            have h1 := HBack.out _ _ HI.out
            have e : hdr2 L j = hdr2 L 316 := by
              unfold hdr2
              rw [List.take_of_length_le (by rw [Hq.out]; exact Nat.le_refl _), List.take_of_length_le (by rw [Hq.out]; omega)]
            rw [e] at h1
            unfold hdrB
            simpa only [List.append_assoc] using h1)
          clear HI HBack HC6 HLen HHF
          go_wp2
          go_end0
          exact ⟨rfl, H8.out⟩
end Go.Proofs.Ytoclbodmibagpaa
