/- Layer 8, the document: Stream and All. -/
import Derived.Test.YtackcgiokkbhdaaDoorDBlk
namespace Go.Proofs.YtackcgiokkbhdaaDoor
open Go.RowKit

def DStrPost (w : World) (r : Nat × Nat × List UInt8 × List Nat) (e : Ending) (w' : World) : Prop := ∃ Ak ck, e = .returned (.tuple #[.string (mText r), .int .i64 (mTaken r : Nat), .slice Ak (mKinds r).length ck, .int .i64 r.1]) ∧ See w' w'.heap.size Ak (ints (mKinds r)) ∧ Only (fun _ => False) w w'

set_option maxRecDepth 100000 in
set_option maxHeartbeats 8000000 in
theorem dstream (s : ByteArray) (most : Int) (w : World) (hs : s.size ≤ 10000) (hmost : most ≤ 100000) :
    Calls Tryd.prog 8 #[.string s, .int .i64 most] w (DStrPost w (mStream (bitsOf s.data.toList) most)) := by
  unfold mStream
  rw [bits_len]
  obtain ⟨R, hR⟩ : ∃ r, mStr (bitsOf s.data.toList) most (8 * s.size + 1) 0 [] [] = r := ⟨_, rfl⟩
  rw [hR]
  have hokR := mStr_ok (bitsOf s.data.toList) most 100000 (by omega) (8 * s.size + 1) 0 [] [] (Nat.zero_le _) (Nat.zero_le _)
  rw [hR, bits_len] at hokR
  have HOK := Lib.hid hokR
  have HOF := Lib.hid (of s w (by omega))
  have hmin : min most 4194304 = most := by omega
  have HR := Lib.hid hR
  clear hR hokR
  go_enter Tryd.func8, Tryd.ntmps8
  go_wp2_with fail
  refine HOF.out.mono ?_
  rintro e w1 ⟨AB, cB, rfl, hm⟩
  have hcap : 8 * s.size ≤ cB := by
    rcases hm.1.form with ⟨_, h1, _, _⟩ | ⟨g, cur, _, _, h3, _⟩
    · omega
    · exact h3
  have hseeB : See w1 w1.heap.size AB (bcells (bitsOf s.data.toList)) := by
    intro i v hv
    have hi : i < 8 * s.size := by
      rcases Nat.lt_or_ge i (8 * s.size) with h | h
      · exact h
      · rw [List.getElem?_eq_none (by rw [bcells_length, bits_len]; exact h)] at hv; cases hv
    obtain ⟨g, hA, hc, _⟩ := hm.1.cell hi
    refine ⟨g, 0, hA, cell_lt hc, ?_⟩
    rw [Nat.zero_add, hc, ← hv]
    simp [bcells, bits_len, hi]
  have ho1 := hm.2.1
  obtain ⟨wd, hwd⟩ : ∃ wd, w1.alloc (.cells #[.slice AB (8 * s.size) cB, .int .i64 0, .slice none 0 0, .int .i64 most, .slice none 0 0] 58) = wd := ⟨_, rfl⟩
  have hod : Only (fun _ => False) w1 wd := by rw [← hwd]; exact (Only.refl _ w1).alloc _
  obtain ⟨p, hp⟩ : ∃ p : RP, p = ⟨w1.heap.size, AB, 8 * s.size, cB, bitsOf s.data.toList, most⟩ := ⟨_, rfl⟩
  have hpr : p.r = w1.heap.size := by rw [hp]
  have hpB : p.B = bitsOf s.data.toList := by rw [hp]
  have hpn : p.nB = 8 * s.size := by rw [hp]
  have hpm : p.most = most := by rw [hp]
  have hpc : p.cB = cB := by rw [hp]
  have hpA : p.AB = AB := by rw [hp]
  have hno : ∀ j, ¬ Lies none j := by rintro j ⟨ad, e, _⟩; cases e
  have hD : DAt p w 0 none 0 0 none 0 0 [] [] wd := by
    refine ⟨⟨?_, ?_, Row.nil 5 wd, rfl, fun j hj => (hno j hj).elim⟩, Row.nil 3 wd, rfl, ho1.trans hod, by rw [hpr]; exact ho1.size, fun j hj => (hno j hj).elim, fun j hj => (hno j hj).elim⟩
    · rw [hpr, hpA, hpn, hpc, hpm, ← hwd]
      exact Is.new w1 58 [.slice AB (8 * s.size) cB, .int .i64 0, .slice none 0 0, .int .i64 most, .slice none 0 0]
    · rw [hpr, hpA, hpB]
      exact hseeB.new hod
  have HD := Lib.hid hD
  have HRB : Hid (RB p) := Lib.hid ⟨by rw [hpB]; exact bitsOf_bits _, by rw [hpB, hpn, bits_len], by rw [hpn]; omega⟩
  have HBL : Hid (∀ a A n c Ak nk ck out ks wx, DAt p w a A n c Ak nk ck out ks wx → a ≤ 8 * s.size → n ≤ 100000 → nk ≤ 100000 → ∀ r, (if 8 * s.size < a + 3 then ((3 : Nat), a, out) else mBlock (bitsOf s.data.toList) most (nm (bitsOf s.data.toList) (a + 1) 2) (a + 3) out) = r →
      Calls Tryd.prog 19 #[.pointer (some ⟨w1.heap.size, 0, none⟩)] wx (DBlkPost p w ks (decide (nm (bitsOf s.data.toList) a 1 = 1)) (nm (bitsOf s.data.toList) (a + 1) 2) r)) := Lib.hid fun a A n c Ak nk ck out ks wx hda ha hn hnk r hr => by
    have := dblock p HRB.out (by rw [hpn, hpc]; exact hcap) ⟨s.size, hpn⟩ (by rw [hpm]; exact hmost) a A n c Ak nk ck out ks w wx hda (by rw [hpn]; exact ha) hn hnk r (by rw [hpn, hpB, hpm]; exact hr)
    rw [hpr, hpB] at this
    exact this
  have HCE : Hid (∀ a A n c Ak nk ck out ks wx, DAt p w a A n c Ak nk ck out ks wx → wx.cell? ⟨w1.heap.size, 1, none⟩ = some (.int .i64 (a : Nat)) ∧ wx.cell? ⟨w1.heap.size, 2, none⟩ = some (.slice A n c) ∧ wx.cell? ⟨w1.heap.size, 4, none⟩ = some (.slice Ak nk ck)) := Lib.hid fun a A n c Ak nk ck out ks wx hda => by
    have h := hda.rf.is
    rw [hpr] at h
    exact ⟨h.cell 1 rfl, h.cell 2 rfl, h.cell 4 rfl⟩
  obtain ⟨rr, hrr⟩ : ∃ rr, w1.heap.size = rr := ⟨_, rfl⟩
  rw [hrr] at HBL HCE
  clear hm hcap hseeB ho1 hod hD hp hpr hpB hpn hpm hpc hpA hno HOF HRB
  go_wp2_with fail
  go_loopg [9, 10] (8 * s.size + 1) (fun gk u1 u2 wx => ∃ (a : Nat) (A : Option Addr) (n c : Nat) (Ak : Option Addr) (nk ck : Nat) (out : List UInt8) (ks : List Nat), a ≤ 8 * s.size ∧ 8 * s.size < a + gk ∧ n ≤ 100000 ∧ nk + gk ≤ 100000 ∧ Hid (DAt p w a A n c Ak nk ck out ks wx) ∧ Hid (mStr (bitsOf s.data.toList) most gk a out ks = R))
  case atStart => exact ⟨0, _, 0, 0, _, 0, 0, [], [], by omega, by omega, by omega, by omega, HD, HR⟩
  case round =>
    clear HD HR hwd
    obtain ⟨a, A, n, c, Ak, nk, ck, out, ks, ha, hgk, hn, hnk, HS, HR0⟩ := hrel
    obtain ⟨f, rfl⟩ : ∃ f, gk = f + 1 := ⟨gk - 1, by omega⟩
    have hm := HR0.out
    rw [mStr_step, bits_len] at hm
    obtain ⟨⟨x, a4, o4⟩, hq⟩ : ∃ q, (if 8 * s.size < a + 3 then ((3 : Nat), a, out) else mBlock (bitsOf s.data.toList) most (nm (bitsOf s.data.toList) (a + 1) 2) (a + 3) out) = q := ⟨_, rfl⟩
    have HB := Lib.hid (HBL.out a A n c Ak nk ck out ks wr HS.out ha hn (by omega) _ hq)
    unfold DBlkPost at HB
    have hbo := mBlock_ok (bitsOf s.data.toList) most 100000 (nm (bitsOf s.data.toList) (a + 1) 2) (a + 3) out (by omega)
    rw [bits_len] at hbo
    have HKL := Lib.hid HS.out.klen
    have HOL := Lib.hid HS.out.rf.len
    obtain ⟨kind, hkind⟩ : ∃ k, nm (bitsOf s.data.toList) (a + 1) 2 = k := ⟨_, rfl⟩
    obtain ⟨lst, hlst⟩ : ∃ k, nm (bitsOf s.data.toList) a 1 = k := ⟨_, rfl⟩
    rw [hkind] at hm hbo HB hq
    rw [hlst] at hm HB
    obtain ⟨Lb, hLb⟩ : ∃ Lb, decide (lst = 1) = Lb := ⟨_, rfl⟩
    rw [hLb] at HB
    have HLB := Lib.hid hLb
    by_cases hx : x = 0
    · subst hx
      have h3 : ¬ 8 * s.size < a + 3 := fun h => by rw [if_pos h] at hq; cases hq
      rw [if_neg h3] at hq hm
      rw [hq] at hm hbo
      simp only at hm hbo
      rw [if_neg (by simp)] at hm
      obtain ⟨n1, n2, n3⟩ := hbo (by omega) (by rw [HOL.out]; exact hn) trivial
      have HM := Lib.hid hm
      clear hm hq hkind hlst HR0 hbo hLb
      go_wp2_with fail
      refine HB.out.mono ?_
      rintro e w4 ⟨ho4, hif⟩
      rw [if_neg (by simp)] at hif
      obtain ⟨rfl, A4, c4, Ak4, ck4, h4⟩ := hif
      rw [HKL.out] at h4
      have H4 := Lib.hid h4
      clear ho4 HB HS h4
      by_cases hl1 : lst = 1
      · have hLb2 : Lb = true := by rw [← HLB.out]; simpa using hl1
        subst hLb2
        have hm := HM.out
        rw [if_pos hl1] at hm
        obtain ⟨k1, k2, k3⟩ := HCE.out _ _ _ _ _ _ _ _ _ w4 H4.out
        have HT : Hid (∀ k, (convert 40 9 (.slice A4 o4.length c4)).run Tryd.prog (w4.drewN k) = .ok (.string ⟨o4.toArray⟩) (w4.drewN k)) := Lib.hid fun k => (H4.out.rf.row.drewN k).text5 rfl
        have HP : Hid (∀ k, DStrPost w R (.returned (.tuple #[.string ⟨o4.toArray⟩, .int .i64 ((a4 + 7) / 8 : Nat), .slice Ak4 (nk + 1) ck4, .int .i64 0])) (w4.drewN k)) := Lib.hid fun k => by
          rw [← hm]
          have e : (ks ++ [kind]).length = nk + 1 := H4.out.klen
          refine ⟨Ak4, ck4, ?_, H4.out.krow.see, H4.out.only.drewN k⟩
          show _ = Ending.returned (.tuple #[.string ⟨o4.toArray⟩, .int .i64 ((a4 + 7) / 8 : Nat), .slice Ak4 (ks ++ [kind]).length ck4, .int .i64 0])
          rw [e]
        obtain ⟨L4, hL4⟩ : ∃ L, o4.length = L := ⟨_, rfl⟩
        rw [hL4] at k2 HT
        obtain ⟨T, hT⟩ : ∃ T : ByteArray, ⟨o4.toArray⟩ = T := ⟨_, rfl⟩
        rw [hT] at HT HP
        have ht := HT.out
        have e7 : IntKind.i64.wrap ((a4 : Int) + 7) = (a4 : Int) + 7 := IntWalk.i64_in _ (by omega)
        have ea : ((a4 : Int) + 7) / 8 = ((a4 + 7) / 8 : Nat) := by omega
        obtain ⟨q8, hq8⟩ : ∃ q, (a4 + 7) / 8 = q := ⟨_, rfl⟩
        rw [hq8] at ea HP
        clear hm HM HLB hl1 H4 hL4 hT HT hq8 n3
        go_wp2_with fail
        go_quiet (fail)
        go_wp2
        (try simp only [Exit.inBlock, Exit.then]); refine bodyPost_ret (results_slots [4, 5, 6, 7] (by decide) rfl) rfl ?_
        first
          | exact HP.out _
          | (have hp := HP.out nq
             rw [← ea] at hp
             simpa using hp)
      · have hLb2 : Lb = false := by rw [← HLB.out]; simpa using hl1
        subst hLb2
        have hm := HM.out
        rw [if_neg hl1] at hm
        have HM2 := Lib.hid hm
        clear hm HM HLB hl1
        go_wp2_with fail
        go_roundg f
        case measure => omega
        case rel => exact ⟨a4, A4, _, c4, Ak4, nk + 1, ck4, o4, _, n2, by omega, n3, by omega, H4, HM2⟩
    · have hm2 : R.1 = x := by
        by_cases h3 : 8 * s.size < a + 3
        · rw [if_pos h3] at hq hm
          obtain ⟨rfl, _, _⟩ : 3 = x ∧ a = a4 ∧ out = o4 := by simpa using hq
          rw [← hm]
        · rw [if_neg h3] at hq hm
          rw [hq] at hm
          simp only at hm
          rw [if_pos hx] at hm
          rw [← hm]
      have hx2 : ¬ (x : Int) = 0 := by omega
      have HM := Lib.hid hm2
      clear hm hq hkind hlst HR0 hbo hLb hm2
      go_wp2_with fail
      refine HB.out.mono ?_
      rintro e w4 ⟨ho4, hif⟩
      rw [if_pos hx] at hif
      obtain ⟨v, rfl⟩ := hif
      have HP : Hid (DStrPost w R (.returned (.tuple #[.string ByteArray.empty, .int .i64 0, .slice none 0 0, .int .i64 x])) w4) := Lib.hid (by
        have hx0 : R.1 ≠ 0 := by rw [HM.out]; exact hx
        have e1 : mText R = ByteArray.empty := if_pos hx0
        have e2 : mTaken R = 0 := if_pos hx0
        have e3 : mKinds R = [] := if_pos hx0
        refine ⟨none, 0, by rw [e1, e2, e3, HM.out]; rfl, ?_, ho4⟩
        rw [e3]
        intro i v hv
        simp [ints] at hv)
      clear ho4 HB
      go_wp2
      (try simp only [Exit.inBlock, Exit.then]); refine bodyPost_ret (results_slots [4, 5, 6, 7] (by decide) rfl) rfl ?_
      exact HP.out

set_option maxRecDepth 20000 in
set_option maxHeartbeats 2000000 in
theorem dall (s : ByteArray) (most : Int) (w : World) (hs : s.size ≤ 10000) (hmost : most ≤ 100000) :
    Calls Tryd.prog 10 #[.string s, .int .i64 most] w (AllPost w (mAll s.size (mStream (bitsOf s.data.toList) most))) := by
  have HR := Lib.hid (dstream s most w hs hmost)
  obtain ⟨r, hq⟩ : ∃ q, mStream (bitsOf s.data.toList) most = q := ⟨_, rfl⟩
  rw [hq] at HR ⊢
  unfold mAll
  unfold DStrPost at HR
  obtain ⟨t, ht⟩ : ∃ t, mText r = t := ⟨_, rfl⟩
  obtain ⟨k, hk⟩ : ∃ k, mTaken r = k := ⟨_, rfl⟩
  rw [ht, hk] at HR ⊢
  clear hq ht hk
  by_cases hx : r.1 = 0
  · rw [if_neg (by simpa using hx)]
    rw [hx] at HR
    by_cases hlt : k < s.size
    · rw [if_pos hlt]
      have hl2 : (k : Int) < (s.size : Int) := by omega
      go_enter Tryd.func10, Tryd.ntmps10
      go_wp2_with fail
      refine HR.out.mono ?_
      rintro e w2 ⟨Ak, ck, rfl, _, ho2⟩
      have HO := Lib.hid ho2
      clear ho2 HR
      go_wp2
      go_ret2
      exact ⟨rfl, HO.out⟩
    · rw [if_neg hlt]
      have hl2 : ¬ (k : Int) < (s.size : Int) := by omega
      go_enter Tryd.func10, Tryd.ntmps10
      go_wp2_with fail
      refine HR.out.mono ?_
      rintro e w2 ⟨Ak, ck, rfl, _, ho2⟩
      have HO := Lib.hid ho2
      clear ho2 HR
      go_wp2
      go_ret2
      exact ⟨rfl, HO.out⟩
  · rw [if_pos hx]
    obtain ⟨x, hx0⟩ : ∃ x, r.1 = x := ⟨_, rfl⟩
    rw [hx0] at HR hx ⊢
    have hx2 : ¬ (x : Int) = 0 := by omega
    clear hx0
    go_enter Tryd.func10, Tryd.ntmps10
    go_wp2_with fail
    refine HR.out.mono ?_
    rintro e w2 ⟨Ak, ck, rfl, _, ho2⟩
    have HO := Lib.hid ho2
    clear ho2 HR
    go_wp2
    go_ret2
    exact ⟨rfl, HO.out⟩
end Go.Proofs.YtackcgiokkbhdaaDoor
