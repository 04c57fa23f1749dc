/- Layer 8, the document: symbols up to a block's end. -/
import Derived.Test.YtackcgiokkbhdaaDoorDBack
namespace Go.Proofs.YtackcgiokkbhdaaDoor
open Go.RowKit

structure CAtR (p : RP) (w : World) (A : Option Addr) (kv : Value) (Bd : Nat) (Aa Ab : Option Addr) (la lb : List Nat) (a : Nat) (A' : Option Addr) (n c : Nat) (out : List UInt8) (wx : World) : Prop where
  rf : Rf p wx a A' n c kv out
  only : Only (MineR p.r A) w wx
  lies : ∀ j, Lies A' j → Lies A j ∨ w.heap.size ≤ j
  sa : See wx Bd Aa (ints la)
  sb : See wx Bd Ab (ints lb)
  far : ∀ j, Lies Aa j ∨ Lies Ab j → ¬ MineR p.r A' j
  lt : ∀ j, Lies Aa j ∨ Lies Ab j → j < w.heap.size

section
variable {p : RP} {w wx wy : World} {A A' Aa Ab : Option Addr} {kv : Value} {Bd a n c : Nat} {la lb : List Nat} {out : List UInt8}
theorem CAtR.read (h : CAtR p w A kv Bd Aa Ab la lb a A' n c out wx) (k : Only (· = p.r) wx wy) {a2 : Nat} (hr : Rf p wy a2 A' n c kv out) : CAtR p w A kv Bd Aa Ab la lb a2 A' n c out wy :=
  ⟨hr, h.only.trans (k.mono fun _ e => .inl e), h.lies, h.sa.off k (fun j hj e => h.far j (.inl hj) (.inl e)), h.sb.off k (fun j hj e => h.far j (.inr hj) (.inl e)), h.far, h.lt⟩
theorem CAtR.next (h : CAtR p w A kv Bd Aa Ab la lb a A' n c out wx) {r : Ans} {e : Ending} (hd : DoneR p wx A' kv r e wy) (h0 : r.1 = 0) : ∃ A2 c2, CAtR p w A kv Bd Aa Ab la lb r.2.1 A2 r.2.2.length c2 r.2.2 wy := by
  obtain ⟨_, ho, hk⟩ := hd
  obtain ⟨A2, c2, g1, g3⟩ := hk h0
  refine ⟨A2, c2, g1, h.only.andThen ho ?_, fun j hj => ?_, h.sa.off ho (fun j hj => h.far j (.inl hj)), h.sb.off ho (fun j hj => h.far j (.inr hj)), fun j hj => ?_, h.lt⟩
  · rintro j (e | e)
    · exact .inl (.inl e)
    · exact (h.lies j e).imp (fun x => .inr x) id
  · exact (g3 j hj).elim (h.lies j) fun x => .inr (Nat.le_trans h.only.size x)
  · have h1 := h.far j hj
    have h2 := h.lt j hj
    have h3 := h.only.size
    rintro (e | e)
    · exact h1 (.inl e)
    · exact (g3 j e).elim (fun x => h1 (.inr x)) (fun x => by omega)
theorem CAtR.bad (h : CAtR p w A kv Bd Aa Ab la lb a A' n c out wx) {r : Ans} {e : Ending} (hd : DoneR p wx A' kv r e wy) : Only (MineR p.r A) w wy := by
  refine h.only.andThen hd.2.1 ?_
  rintro j (e | e)
  · exact .inl (.inl e)
  · exact (h.lies j e).imp (fun x => .inr x) id
theorem CAtR.done (h : CAtR p w A kv Bd Aa Ab la lb a A' n c out wx) {r : Ans} (hr : r = (0, a, out)) : DoneR p w A kv r (.returned (.int .i64 0)) wx := by
  subst hr
  exact ⟨rfl, h.only, fun _ => ⟨A', c, by rw [h.rf.len]; exact h.rf, h.lies⟩⟩
end

set_option maxRecDepth 100000 in
set_option maxHeartbeats 4000000 in
theorem dcoded (p : RP) (hp : RB p) (a : Nat) (A : Option Addr) (n c : Nat) (kv : Value) (out : List UInt8) (Bd : Nat) (Aa Ab : Option Addr) (na ca nb cb : Nat) (la lb : List Nat) (w : World) (h : Rf p w a A n c kv out) (ha : a ≤ p.nB) (hsa : See w Bd Aa (ints la)) (hsb : See w Bd Ab (ints lb)) (hna : la.length = na) (hnb : lb.length = nb)
    (far : ∀ j, Lies Aa j ∨ Lies Ab j → ¬ MineR p.r A j) (hlt : ∀ j, Lies Aa j ∨ Lies Ab j → j < w.heap.size) (hla : Lens la) (hlb : Lens lb) (ka : (kd la).2 = 0) (kb : (kd lb).2 = 0) (hn : n ≤ 100000) (hmost : p.most ≤ 100000) :
    Calls Tryd.prog 33 #[.pointer (some ⟨p.r, 0, none⟩), .slice Aa na ca, .slice Ab nb cb] w (DoneR p w A kv (mCoded p.B la lb p.most (p.nB + 1) a out)) := by
  obtain ⟨r, hr0⟩ : ∃ r, mCoded p.B la lb p.most (p.nB + 1) a out = r := ⟨_, rfl⟩
  rw [hr0]
  have HST : Hid (CAtR p w A kv Bd Aa Ab la lb a A n c out w) := Lib.hid ⟨h, Only.refl _ _, fun j hj => .inl hj, hsa, hsb, far, hlt⟩
  have HR0 := Lib.hid hr0
  have HLA := Lib.hid hla
  have HLB := Lib.hid hlb
  have HP := Lib.hid hp
  have hpl := hp.len
  have hple := hp.le
  clear h far hlt hr0 hla hlb hsa hsb hp
  go_enter Tryd.func33, Tryd.ntmps33
  go_wp2_with fail
  go_loopg [7, 8, 9] (p.nB + 1) (fun gk u1 u2 u3 wx => ∃ (a : Nat) (A' : Option Addr) (n c : Nat) (out : List UInt8), a ≤ p.nB ∧ p.nB < a + gk ∧ n ≤ 100000 ∧ Hid (CAtR p w A kv Bd Aa Ab la lb a A' n c out wx) ∧ Hid (mCoded p.B la lb p.most gk a out = r))
  case atStart => exact ⟨a, A, n, c, out, ha, by omega, hn, HST, HR0⟩
  case round =>
    clear HST HR0 hn ha
    obtain ⟨a, A', n, c, out, ha, hgk, hn, HC, HR0⟩ := hrel
    obtain ⟨f, rfl⟩ : ∃ f, gk = f + 1 := ⟨gk - 1, by omega⟩
    have hm := HR0.out
    rw [mCoded_step] at hm
    have HC1 := HC.out
    have HRD := Lib.hid (dsymbol p HP.out a A' n c kv out Aa na ca Bd la wr HC1.rf ha HC1.sa hna HLA.out ka)
    have hmv := rdp_moves la p.B a
    have hsy := rdp_symbol la p.B a HLA.out.len
    rw [hpl] at hmv
    obtain ⟨⟨y, a2, x⟩, hq⟩ : ∃ q, rdp la p.B a = q := ⟨_, rfl⟩
    rw [hq] at HRD hm hmv hsy
    simp only at hm hmv hsy
    have HCD : Hid (∀ w2 a2, Only (· = p.r) wr w2 → Rf p w2 a2 A' n c kv out → CAtR p w A kv Bd Aa Ab la lb a2 A' n c out w2) := Lib.hid fun w2 a2 ho hr2 => HC1.read ho hr2
    have HOD : Hid (∀ w2, Only (· = p.r) wr w2 → Only (MineR p.r A) w w2) := Lib.hid fun w2 ho => HC1.only.trans (ho.mono fun _ e => .inl e)
    clear HC1 hq HC HR0
    go_wp2_with fail
    refine HRD.out.mono ?_
    rintro e w2 ⟨rfl, ho2, hr2⟩
    by_cases hx : x = 0
    · subst hx
      rw [if_neg (by simp)] at hm
      obtain ⟨m1, m2⟩ := hmv rfl
      have HC2 := Lib.hid (HCD.out w2 a2 ho2 hr2)
      clear hmv hr2 ho2 HCD HOD HRD
      by_cases hy : y = 256
      · rw [if_pos hy] at hm
        have HD := Lib.hid (HC2.out.done hm.symm)
        subst hy
        clear hm
        go_wp2
        go_ret
        exact HD.out
      · rw [if_neg hy] at hm
        have hy1 : ¬ (y : Int) = 256 := by omega
        by_cases hy2 : y < 256
        · rw [if_pos hy2] at hm
          have hy3 : ¬ (256 : Int) < (y : Int) := by omega
          have hylt : (y : Int) < 256 := by omega
          have hol := HC2.out.rf.len
          rw [hol] at hm
          have d2 := HC2.out.rf.is.cell 2 rfl
          have d3 := HC2.out.rf.is.cell 3 rfl
          have ew : IntKind.u8.wrap (y : Int) = (y : Int) := by rw [IntKind.wrap_u8']; omega
          by_cases hroom : p.most < (n : Int) + 1
          · rw [if_pos hroom] at hm
            have HM := Lib.hid hm
            have hge : p.most ≤ (n : Int) := by omega
            clear hm hroom
            go_wp2_with fail
            go_quiet (fail)
            go_wp2
            go_ret
            rw [← HM.out]
            exact ⟨rfl, HC2.out.only.drewN _, fun h => by cases h⟩
          · rw [if_neg hroom] at hm
            have HM := Lib.hid hm
            have hge : ¬ p.most ≤ (n : Int) := by omega
            have hnb : n + 1 ≤ 100000 := by omega
            have eb : (UInt8.ofNat y).toNat = y := by rw [UInt8.toNat_ofNat']; omega
            have HEB := Lib.hid eb
            clear hm hroom eb
            go_wp2_with fail
            go_quiet (fail)
            have HC3 : Hid (CAtR p w A kv Bd Aa Ab la lb a2 A' n c out (w2.drewN nq)) := Lib.hid (HC2.out.read ((Only.refl _ w2).drewN nq) (HC2.out.rf.new ((Only.refl _ w2).drewN nq)))
            have c2' : (w2.drewN nq).cell? ⟨p.r, 2, none⟩ = some (.slice A' n c) := d2
            obtain ⟨w3, hw3⟩ : ∃ w3, w2.drewN nq = w3 := ⟨_, rfl⟩
            rw [hw3] at HC3 c2' ⊢
            have HAW : Hid (CAtR p w A kv Bd Aa Ab la lb a2 A' n c out (w3.alloc (.cells #[.int .u8 (y : Nat)] 5))) := Lib.hid (HC3.out.read ((Only.refl _ w3).alloc _) (HC3.out.rf.new ((Only.refl _ w3).alloc _)))
            have HSR := Lib.hid (Src.oneInt Tryd.underlying40 w3 .u8 y 1 5)
            obtain ⟨wy, hwy⟩ : ∃ wy, w3.alloc (.cells #[.int .u8 (y : Nat)] 5) = wy := ⟨_, rfl⟩
            rw [hwy] at HAW HSR
            have HFN : Hid (∀ A9 c9 w9, Row 5 w9 A9 (n + 1) c9 (bcells out ++ [.int .u8 (y : Nat)]) → Only (Lies A') wy w9 → (A9 = A' ∨ A9 = some ⟨wy.heap.size, 0, none⟩) →
                CAtR p w A kv Bd Aa Ab la lb a2 A9 (n + 1) c9 (out ++ [UInt8.ofNat y]) (w9.setCell ⟨p.r, 2, none⟩ (.slice A9 (n + 1) c9)) ∧ w9.cell? ⟨p.r, 2, none⟩ = some (.slice A' n c) ∧ w9.frozen? ⟨p.r, 2, none⟩ = false) := Lib.hid fun A9 c9 w9 r1 r2 r3 => by
              rw [← HEB.out, bcells_snoc] at r1
              obtain ⟨f1, f2, f3⟩ := HAW.out.rf.append r1 rfl r2 r3
              have i9 := HAW.out.rf.is.only r2 (fun e => Nat.lt_irrefl _ (HAW.out.rf.an _ e))
              refine ⟨⟨f1, HAW.out.only.andThen f2 ?_, fun j hj => ?_, HAW.out.sa.off f2 (fun j hj => HAW.out.far j (.inl hj)), HAW.out.sb.off f2 (fun j hj => HAW.out.far j (.inr hj)), fun j hj => ?_, HAW.out.lt⟩, i9.cell 2 rfl, i9.frozen 2⟩
              · rintro j (e | e)
                · exact .inl (.inl e)
                · exact (HAW.out.lies j e).imp (fun x => .inr x) id
              · exact (f3 j hj).elim (HAW.out.lies j) fun x => .inr (Nat.le_trans HAW.out.only.size x)
              · have h1 := HAW.out.far j hj
                have h2 := HAW.out.lt j hj
                have h3 := HAW.out.only.size
                rintro (e | e)
                · exact h1 (.inl e)
                · exact (f3 j e).elim (fun x => h1 (.inr x)) (fun x => by omega)
            clear HC2 HC3 d2 d3
            go_upto_region 12 with fail
            go_wp2_with (at_builtin
                         refine wpList_append_row rfl (.tmp 44) (.tmp 47) 40 40 5 rfl Tryd.underlying40 info5 A' n c 1 (bcells out) [.int .u8 (y : Nat)] (.slice (some ⟨w3.heap.size, 0, none⟩) 1 1) (by rfl) (by rfl) HAW.out.rf.row rfl HSR.out (by omega) (by omega) ?_
                         intro A9 c9 w9 hrow9 honly9 hlies9
                         obtain ⟨h9, q1, q2⟩ := HFN.out A9 c9 w9 hrow9 honly9 hlies9
                         have H9 := Lib.hid h9
                         clear hrow9 honly9 hlies9 h9)
            go_roundg f
            case measure => omega
            case rel => exact ⟨a2, A9, n + 1, c9, _, m2, by omega, hnb, H9, HM⟩
        · rw [if_neg hy2] at hm
          have hy3 : (256 : Int) < (y : Int) := by omega
          have hsev := dback p HP.out a2 A' n c kv out Ab nb cb Bd lb y w2 HC2.out.rf m2 HC2.out.sb (fun j hj e => HC2.out.far j (.inr hj) (.inl e)) hnb HLB.out kb hn hmost (by omega) (by omega)
          have hbo := mBack_ok p.B lb p.most y a2 out
          obtain ⟨⟨x3, a3, o3⟩, hq3⟩ : ∃ q, mBack p.B lb p.most y a2 out = q := ⟨_, rfl⟩
          rw [hq3] at hm hsev hbo
          simp only at hm hbo
          rw [hpl] at hbo
          have HSV := Lib.hid hsev
          clear hsev hq3
          by_cases hx3 : x3 = 0
          · subst hx3
            rw [if_neg (by simp)] at hm
            obtain ⟨n1, n2, n3⟩ := hbo rfl
            have HM := Lib.hid hm
            have HLN : Hid (o3.length ≤ 100000) := Lib.hid (by omega)
            clear hm hbo n3
            go_wp2_with fail
            refine HSV.out.mono ?_
            intro e w3 hd3
            obtain ⟨A3, c3, hc3⟩ := HC2.out.next hd3 rfl
            obtain ⟨rfl, _⟩ := hd3
            have HC3 := Lib.hid hc3
            clear hc3 HSV
            go_wp2_with fail
            go_roundg f
            case measure => omega
            case rel => exact ⟨a3, A3, _, c3, o3, n2, by omega, HLN.out, HC3, HM⟩
          · rw [if_pos hx3] at hm
            have hx4 : ¬ (x3 : Int) = 0 := by omega
            have HM := Lib.hid hm
            clear hm hbo
            go_wp2_with fail
            refine HSV.out.mono ?_
            intro e w3 hd3
            have ho3 := HC2.out.bad hd3
            obtain ⟨rfl, _⟩ := hd3
            have HO3 := Lib.hid ho3
            clear ho3 HSV
            go_wp2
            go_ret
            exact ⟨by rw [← HM.out]; rfl, HO3.out, by rw [← HM.out]; intro h; exact absurd h hx3⟩
    · rw [if_pos hx] at hm
      have hx4 : ¬ (x : Int) = 0 := by omega
      have HM := Lib.hid hm
      have HO3 := Lib.hid (HOD.out w2 ho2)
      clear hm hmv hr2 ho2 HCD HOD HRD
      go_wp2
      go_ret
      exact ⟨by rw [← HM.out]; rfl, HO3.out, by rw [← HM.out]; intro h; exact absurd h hx⟩
end Go.Proofs.YtackcgiokkbhdaaDoor
