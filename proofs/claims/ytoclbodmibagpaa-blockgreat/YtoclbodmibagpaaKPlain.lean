/- Layer 11, the program: the codes of kind 1; a block of kind 1. -/
import Derived.Test.YtoclbodmibagpaaKCodes
import Derived.Test.YtoclbodmibagpaaKFix
namespace Go.Proofs.Ytoclbodmibagpaa
open Go.RowKit

theorem fixB_length : fixB.length = 32 := by decide +kernel
set_option maxRecDepth 20000 in
set_option maxHeartbeats 2000000 in
theorem plainCodes (w : World) : Calls Try.prog 50 #[] w (Codes2P w fixA fixB) := by
  obtain ⟨wa, hwa⟩ : ∃ wa, w.alloc (.cells #[.pointer none, .pointer none] 105) = wa := ⟨_, rfl⟩
  have hoa : Only (fun _ => False) w wa := by rw [← hwa]; exact (Only.refl _ w).alloc _
  have hia : Is wa w.heap.size 105 [.pointer none, .pointer none] := by rw [← hwa]; exact Is.new w 105 _
  obtain ⟨K, hK⟩ : ∃ K, w.heap.size = K := ⟨_, rfl⟩
  rw [hK] at hia
  have HS := Lib.hid (plainSymbols wa)
  have HD : Hid (∀ wx, Calls Try.prog 74 #[] wx (CatPost wx fixB 32)) := Lib.hid plainDistances
  have HN : Hid (∀ A1 c1 A2 c2 w2 w3, Made 3 wa A1 288 c1 (ints fixA) w2 → Made 3 w2 A2 32 c2 (ints fixB) w3 → Calls Try.prog 72 #[.slice A1 288 c1, .slice A2 32 c2] w3 (Codes2P w3 fixA fixB)) := Lib.hid fun A1 c1 A2 c2 w2 w3 m1 m2 =>
    bnewCodes A1 A2 288 c1 32 c2 fixA fixB w3 ((m1.see.new m2.2.1).more m2.2.1.size) m2.see fixA_length fixB_length (by decide) (by decide) low_fixA low_fixB (by rw [kd_fixA]) (by rw [kd_fixB])
  have FIN : Hid (∀ A1 c1 A2 c2 w2 w3 w4 T1 T2 hi, Made 3 wa A1 288 c1 (ints fixA) w2 → Made 3 w2 A2 32 c2 (ints fixB) w3 → Only (fun _ => False) w3 w4 → Cod2 w4 w3.heap.size hi T1 T2 fixA fixB →
      Codes2P w fixA fixB (.returned (.agg #[.pointer (some ⟨T1, 0, none⟩), .pointer (some ⟨T2, 0, none⟩)])) ((w4.setCell ⟨K, 0, none⟩ (.pointer (some ⟨T1, 0, none⟩))).setCell ⟨K, 1, none⟩ (.pointer (some ⟨T2, 0, none⟩))) ∧ Is w4 K 105 [.pointer none, .pointer none] ∧ Is ((w4.setCell ⟨K, 0, none⟩ (.pointer (some ⟨T1, 0, none⟩))).setCell ⟨K, 1, none⟩ (.pointer (some ⟨T2, 0, none⟩))) K 105 [.pointer (some ⟨T1, 0, none⟩), .pointer (some ⟨T2, 0, none⟩)]) := Lib.hid fun A1 c1 A2 c2 w2 w3 w4 T1 T2 hi m1 m2 o4 hc => by
    have o3 : Only (fun _ => False) wa w3 := m1.2.1.trans m2.2.1
    have o34 := o3.trans o4
    have i4 := hia.only o34 fun f => f
    have ow : Only (· = K) w4 ((w4.setCell ⟨K, 0, none⟩ (.pointer (some ⟨T1, 0, none⟩))).setCell ⟨K, 1, none⟩ (.pointer (some ⟨T2, 0, none⟩))) := (Only.one w4 K 0 _).trans (Only.one _ K 1 _)
    have hka := hia.lt
    have z3 := o3.size
    have za := hoa.size
    have hk := hc.keep ow fun j a b e => by omega
    refine ⟨⟨T1, T2, hi, rfl, ⟨hk.t1.less (by omega), hk.t2.less (by omega), hk.h1, hk.h2, hk.hh, hk.l1, hk.l2⟩, (hoa.trans o34).andThen ow fun j e => .inr (by omega)⟩, i4, (i4.set 0 _).set 1 _⟩
  clear hoa hia
  go_enter Try.func50, Try.ntmps50
  go_wp2_with fail
  refine HS.out.mono ?_
  rintro e w2 ⟨A1, c1, rfl, m1⟩
  have HM1 := Lib.hid m1
  clear m1 HS
  go_wp2_with fail
  refine (HD.out w2).mono ?_
  rintro e w3 ⟨A2, c2, rfl, m2⟩
  have HM2 := Lib.hid m2
  have HN3 := Lib.hid (HN.out A1 c1 A2 c2 w2 w3 HM1.out m2)
  clear m2 HD HN
  go_wp2_with fail
  refine HN3.out.mono ?_
  rintro e w4 ⟨T1, T2, hi, rfl, hc, o4⟩
  obtain ⟨f1, f2, f3⟩ := FIN.out A1 c1 A2 c2 w2 w3 w4 T1 T2 hi HM1.out HM2.out o4 hc
  have HF := Lib.hid f1
  have HF3 := Lib.hid f3
  have g0 := f2.cell 0 rfl
  have g1 := f2.cell 1 rfl
  have z0 := f2.frozen 0
  have z1 := f2.frozen 1
  clear f1 f2 f3 hc o4 HN3 FIN HM1 HM2
  go_wp2
  refine bodyPost_ret (results_cell_row rfl _ _ K 105 _ (0, 0) _ rfl HF3.out Try.underlying105 rfl (by kernel_rfl)) rfl ?_
  exact HF.out

theorem fits_fix (ts : List Tk) (hm : allB ts = true) : FitsAll fixA fixB ts := by
  refine ⟨hasA 256 (by decide), fun t ht => ?_⟩
  have hmt : mayB t = true := List.all_eq_true.1 hm t ht
  unfold FitsT
  split
  · exact hasA _ (by have := t.b.toNat_lt; omega)
  · rename_i hn
    obtain ⟨h1, h2, h3, h4⟩ := may_far t hmt hn
    obtain ⟨_, _, q, _⟩ := lenT_is t.n h1 h2
    obtain ⟨_, q2, _⟩ := distT_is t.k h3 h4
    exact ⟨hasA _ (by omega), hasB _ (by omega)⟩
/-- The bits of a block of kind 1. -/
def plainB (ts : List Tk) (last : Bool) : List UInt8 := headB 1 last ++ encB fixA fixB ts
set_option maxHeartbeats 2000000 in
theorem plain (b : Nat) (F : Nat → Prop) (bl : List UInt8) (A : Option Addr) (n c B : Nat) (ts : List Tk) (last : Bool) (w : World) (h : Wf w b F bl) (hs : See w B A (tks ts)) (hA : ∀ j, Lies A j → ¬ F j ∧ j < w.heap.size) (hn : ts.length = n) (hb : n ≤ 1000) (hbl : bl.length ≤ 800000) (hm : allB ts = true) :
    Calls Try.prog 33 #[.pointer (some ⟨b, 0, none⟩), .slice A n c, .bool last] w (StP w b F (bl ++ plainB ts last)) := by
  have HM : Hid (Calls Try.prog 49 #[.slice A n c] w fun e w' => e = .returned (.bool true) ∧ Only (fun _ => False) w w') := Lib.hid (by
    have := allMay A n c B ts w hs hn hb
    rw [hm] at this
    exact this)
  have hb0 : ∃ A n c l, Wrt w b A n c bl.length l := by obtain ⟨A, n, c, l, hw, _⟩ := h; exact ⟨A, n, c, l, hw⟩
  have HH : Hid (∀ w1, Only (fun _ => False) w w1 → Calls Try.prog 35 #[.pointer (some ⟨b, 0, none⟩), .int .u32 1, .bool last] w1 (PutW w1 b (fun j => F j ∧ j < w.heap.size) (bl ++ headB 1 last))) := Lib.hid fun w1 o1 => whead b 1 last _ bl w1 (h.tight.new o1) (by omega) (by decide)
  have HC : Hid (∀ w1, Calls Try.prog 50 #[] w1 (Codes2P w1 fixA fixB)) := Lib.hid plainCodes
  have HW : Hid (∀ w1 w2 w3 lo hi T1 T2, Only (fun _ => False) w w1 → WfP w1 b (fun j => F j ∧ j < w.heap.size) (bl ++ headB 1 last) w2 → Only (fun _ => False) w2 w3 → Cod2 w3 w2.heap.size hi T1 T2 fixA fixB → lo = w2.heap.size → Calls Try.prog 51 #[.agg #[.pointer (some ⟨T1, 0, none⟩), .pointer (some ⟨T2, 0, none⟩)], .pointer (some ⟨b, 0, none⟩), .slice A n c] w3 (PutW w b F (bl ++ plainB ts last))) := Lib.hid fun w1 w2 w3 lo hi T1 T2 o1 hw2 o3 hc _ => by
    have hz1 := o1.size
    have hz2 := hw2.only.size
    have hsee : See w3 B A (tks ts) := by
      intro i v hv
      obtain ⟨bb, off, e1, e2, e3⟩ := hs i v hv
      refine ⟨bb, off, e1, e2, ?_⟩
      have hAb := hA bb ⟨_, e1, rfl⟩
      exact o3.cellF (hw2.only.cellF (o1.cellF e3 fun f => f) fun q => hAb.1 q.1) fun f => f
    have hwt : Wf w3 b (fun j => (F j ∧ j < w.heap.size ∨ w1.heap.size ≤ j) ∧ j < w2.heap.size) (bl ++ headB 1 last) := hw2.wf.tight.new o3
    refine (cwrite b _ (bl ++ headB 1 last) w2.heap.size hi T1 T2 fixA fixB A n c B ts w3 ⟨hc, hwt, fun j a _ q => by omega⟩ hsee (fun j hj q => ?_) hn hb (by rw [List.length_append, headB_length]; omega) hm (fits_fix ts hm)).mono ?_
    · have := hA j hj
      rcases q.1 with q1 | q1
      · exact this.1 q1.1
      · omega
    · rintro e w4 ⟨rfl, hw4⟩
      refine ⟨rfl, ?_⟩
      rw [plainB, ← List.append_assoc]
      have s1 : WfP w1 b (fun j => F j ∧ j < w.heap.size) _ w3 := hw2.new o3
      have s2 := s1.step (hw4.mono (G := fun j => F j ∧ j < w.heap.size ∨ w1.heap.size ≤ j) fun j q => q.1)
      exact (s2.mono fun j q => q.1).late o1
  clear h hs hA hn hm hb0
  go_enter Try.func33, Try.ntmps33
  go_wp2_with fail
  refine HM.out.mono ?_
  rintro e w1 ⟨rfl, o1⟩
  have HO1 := Lib.hid o1
  clear o1 HM
  go_wp2_with fail
  refine (HH.out w1 HO1.out).mono ?_
  rintro e w2 ⟨rfl, q2⟩
  have H2 := Lib.hid q2
  clear q2 HH
  go_wp2_with fail
  refine (HC.out w2).mono ?_
  rintro e w3 ⟨T1, T2, hi, rfl, hc, o3⟩
  have HW3 := Lib.hid (HW.out w1 w2 w3 _ hi T1 T2 HO1.out H2.out o3 hc rfl)
  clear hc o3 HC HW HO1 H2
  go_wp2_with fail
  refine HW3.out.mono ?_
  rintro e w4 ⟨rfl, q4⟩
  have H4 := Lib.hid q4
  clear q4 HW3
  go_wp2
  go_ret
  exact ⟨rfl, H4.out⟩
theorem plain_bad (b : Option Addr) (A : Option Addr) (n c B : Nat) (ts : List Tk) (last : Bool) (w : World) (hs : See w B A (tks ts)) (hn : ts.length = n) (hb : n ≤ 1000) (hm : allB ts = false) :
    Calls Try.prog 33 #[.pointer b, .slice A n c, .bool last] w fun e w' => e = .returned (.int .i64 1) ∧ Only (fun _ => False) w w' := by
  have HM : Hid (Calls Try.prog 49 #[.slice A n c] w fun e w' => e = .returned (.bool false) ∧ Only (fun _ => False) w w') := Lib.hid (by
    have := allMay A n c B ts w hs hn hb
    rw [hm] at this
    exact this)
  clear hs hn hm
  go_enter Try.func33, Try.ntmps33
  go_wp2_with fail
  refine HM.out.mono ?_
  rintro e w1 ⟨rfl, o1⟩
  have HO1 := Lib.hid o1
  clear o1 HM
  go_wp2
  go_ret
  exact ⟨rfl, HO1.out⟩
end Go.Proofs.Ytoclbodmibagpaa
