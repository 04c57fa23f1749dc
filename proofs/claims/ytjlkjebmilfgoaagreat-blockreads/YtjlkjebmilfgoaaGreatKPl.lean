/- Layer 11, the program: two codes; a block of kind 1. -/
import Derived.Test.YtjlkjebmilfgoaaGreatM8
import Derived.Test.YtjlkjebmilfgoaaGreatKMW
import Derived.Test.YtjlkjebmilfgoaaGreatKShape
/- The lengths of kind 1 make codes. -/
namespace Go.Proofs.YtjlkjebmilfgoaaGreat

theorem kd_fixA : kd fixA = (0, 0) := by decide +kernel
theorem kd_fixB : kd fixB = (0, 0) := by decide +kernel
theorem low_fixA : Low fixA := by unfold Low; decide +kernel
theorem low_fixB : Low fixB := by unfold Low; decide +kernel
theorem hasA (s : Nat) (h : s < 288) : Has fixA s := by
  have : ∀ t : Fin 288, t.val < fixA.length ∧ 0 < ln fixA t.val := by decide +kernel
  exact this ⟨s, h⟩
theorem hasB (s : Nat) (h : s < 32) : Has fixB s := by
  have : ∀ t : Fin 32, t.val < fixB.length ∧ 0 < ln fixB t.val := by decide +kernel
  exact this ⟨s, h⟩
end Go.Proofs.YtjlkjebmilfgoaaGreat

/- Layers 5 and 11, the program: a table, whole; two of them; the codes of kind 1; a block of kind 1. -/
namespace Go.Proofs.YtjlkjebmilfgoaaGreat
open Go.RowKit

def New2 (w : World) (l : List Nat) (e : Ending) (w' : World) : Prop := ∃ T, e = .returned (.tuple #[.pointer (some ⟨T, 0, none⟩), .int .i64 0]) ∧ Tab2 w' w.heap.size T l ∧ Only (fun _ => False) w w' ∧ w.heap.size ≤ T
set_option maxRecDepth 20000 in
set_option maxHeartbeats 1000000 in
theorem new2 (A : Option Addr) (n c B : Nat) (l : List Nat) (w : World) (h : See w B A (ints l)) (hB : B ≤ w.heap.size) (hn : l.length = n) (h288 : n ≤ 288) (hl : Low l) (hk : (kd l).2 = 0) :
    Calls Tryz.prog 58 #[.slice A n c] w (New2 w l) := by
  have HF := Lib.hid (kd_full l hl hk)
  have HC := Lib.hid (check_yes A n c B l w h hn h288 hl)
  have HS := Lib.hid h
  have HL := Lib.hid hl
  have HN := Lib.hid hn
  clear h hl hn
  rw [hk] at HC
  clear hk
  go_enter Tryz.func58, Tryz.ntmps58
  go_wp2_with fail
  refine HC.out.mono ?_
  rintro e w1 ⟨rfl, ho1⟩
  have HS1 := Lib.hid ((HS.out.new ho1).more (Nat.le_trans hB ho1.size))
  have HO1 := Lib.hid ho1
  clear HC ho1
  go_wp2_with fail
  refine (inOrder A n c _ l w1 HS1.out HN.out h288 HL.out).mono ?_
  rintro e w2 ⟨g, rfl, hm⟩
  have HS2 := Lib.hid ((HS1.out.new hm.2.1).more hm.2.1.size)
  have HM := Lib.hid hm
  obtain ⟨m, hm2⟩ : ∃ m, st l 16 = m := ⟨_, rfl⟩
  have HM2 := Lib.hid hm2
  rw [hm2]
  clear hm2 hm
  go_wp2_with fail
  refine (clone A n c _ (ints l) w2 HS2.out (by rw [ints_length, HN.out]) (by omega) (ints_one _)).mono ?_
  rintro e w3 ⟨A1, c1, rfl, hm3⟩
  have HS3 := Lib.hid ((HS2.out.new hm3.2.1).more hm3.2.1.size)
  have HR3 := Lib.hid ((HM.out.see.new hm3.2.1).more hm3.2.1.size)
  have HM3 := Lib.hid hm3
  clear hm3
  go_wp2_with fail
  refine (numbers A _ n c m m _ l w3 HS3.out HR3.out HN.out h288 HL.out HM2.out).mono ?_
  rintro e w4 ⟨g4, rfl, hm4⟩
  have HS4 := Lib.hid ((HS3.out.new hm4.2.1).more hm4.2.1.size)
  have HM4 := Lib.hid hm4
  clear hm4
  go_wp2_with fail
  refine (turn _ A n n c _ l w4 HM4.out.see HS4.out HN.out h288 HL.out HF.out (Nat.le_refl _)).mono ?_
  rintro e w5 ⟨g5, rfl, hm5⟩
  have HS5 := Lib.hid ((HS4.out.new hm5.2.1).more hm5.2.1.size)
  have HM5 := Lib.hid hm5
  clear hm5
  go_wp2_with fail
  refine (count A n c _ l w5 HS5.out HN.out h288 HL.out).mono ?_
  rintro e w6 ⟨rfl, ho6⟩
  have HO6 := Lib.hid ho6
  clear ho6
  obtain ⟨cs, hcs⟩ : ∃ cs, (ints (cnts l)).toArray = cs := ⟨_, rfl⟩
  have HCS := Lib.hid hcs
  rw [hcs]
  clear hcs
  go_wp2_with fail
  refine (show Calls Tryz.prog 89 #[.agg cs] w6 (LongPost w6 l) from by rw [← HCS.out]; exact longest l w6).mono ?_
  rintro e w7 ⟨A4, c4, rfl, hm7⟩
  have HM7 := Lib.hid hm7
  obtain ⟨k, hk⟩ : ∃ k, lg l = k := ⟨_, rfl⟩
  have HK := Lib.hid hk
  rw [hk]
  clear hm7 hk
  go_wp2
  go_ret2
  have o56 : Only (fun _ => False) w5 w7 := HO6.out.trans HM7.out.2.1
  have o45 := HM5.out.2.1
  have o34 := HM4.out.2.1
  have o23 := HM3.out.2.1
  have o12 := HM.out.2.1
  have ofin := (Only.refl (fun _ => False) w7).alloc (.cells [Value.slice A1 n c1, .slice (some ⟨g5, 0, none⟩) n n, .slice (some ⟨g, 0, none⟩) m m, .slice A4 k c4].toArray 121)
  have o37 : Only (fun _ => False) w3 w7 := o34.trans (o45.trans o56)
  have s3 : See _ w7.heap.size A1 (ints l) := ((HM3.out.see.new o37).more o37.size).new ofin
  have s4 : See _ w7.heap.size (some ⟨g5, 0, none⟩) (hints (tds l)) := ((HM5.out.see.new o56).more o56.size).new ofin
  have oall : Only (fun _ => False) w w7 := HO1.out.trans (o12.trans (o23.trans o37))
  refine ⟨w7.heap.size, rfl, ⟨A1, some ⟨g5, 0, none⟩, some ⟨g, 0, none⟩, A4, c1, n, m, c4, ?_, s3, s4, fun j hj => Nat.le_trans (HO1.out.trans o12).size (HM3.out.2.2 j hj), fun j hj => Nat.le_trans (HO1.out.trans (o12.trans (o23.trans o34))).size (HM5.out.2.2 j hj), oall.size⟩, oall.trans ofin, oall.size⟩
  rw [HN.out, HM2.out, HK.out]
  exact Is.new w7 121 _

/-- What newCodes answers: two tables, new. -/
def Codes2P (w : World) (la lb : List Nat) (e : Ending) (w' : World) : Prop := ∃ T1 T2 hi, e = .returned (.agg #[.pointer (some ⟨T1, 0, none⟩), .pointer (some ⟨T2, 0, none⟩)]) ∧ Cod2 w' w.heap.size hi T1 T2 la lb ∧ Only (fun _ => False) w w'
set_option maxRecDepth 20000 in
set_option maxHeartbeats 2000000 in
theorem bnewCodes (A1 A2 : Option Addr) (n1 c1 n2 c2 : Nat) (la lb : List Nat) (w : World) (h1 : See w w.heap.size A1 (ints la)) (h2 : See w w.heap.size A2 (ints lb)) (hn1 : la.length = n1) (hn2 : lb.length = n2) (l1 : n1 ≤ 288) (l2 : n2 ≤ 288) (hla : Low la) (hlb : Low lb) (k1 : (kd la).2 = 0) (k2 : (kd lb).2 = 0) :
    Calls Tryz.prog 45 #[.slice A1 n1 c1, .slice A2 n2 c2] w (Codes2P w la lb) := by
  obtain ⟨wa, hwa⟩ : ∃ wa, w.alloc (.cells #[.pointer none, .pointer none] 65) = wa := ⟨_, rfl⟩
  have hoa : Only (fun _ => False) w wa := by rw [← hwa]; exact (Only.refl _ w).alloc _
  have hia : Is wa w.heap.size 65 [.pointer none, .pointer none] := by rw [← hwa]; exact Is.new w 65 _
  obtain ⟨K, hK⟩ : ∃ K, w.heap.size = K := ⟨_, rfl⟩
  rw [hK] at hia
  have s1 : ∀ wx, Only (fun _ => False) wa wx → See wx wx.heap.size A1 (ints la) := fun wx ho => (h1.new (hoa.trans ho)).more (hoa.trans ho).size
  have s2 : ∀ wx, Only (fun _ => False) wa wx → See wx wx.heap.size A2 (ints lb) := fun wx ho => (h2.new (hoa.trans ho)).more (hoa.trans ho).size
  have N1 := Lib.hid (new2 A1 n1 c1 _ la wa (s1 wa (Only.refl _ _)) (Nat.le_refl _) hn1 l1 hla k1)
  have N2 : Hid (∀ wx, Only (fun _ => False) wa wx → Calls Tryz.prog 58 #[.slice A2 n2 c2] wx (New2 wx lb)) := Lib.hid fun wx ho => new2 A2 n2 c2 _ lb wx (s2 wx ho) (Nat.le_refl _) hn2 l2 hlb k2
  have FIN : Hid (∀ T1 T2 w2 w3, Tab2 w2 wa.heap.size T1 la → Only (fun _ => False) wa w2 → wa.heap.size ≤ T1 → Tab2 w3 w2.heap.size T2 lb → Only (fun _ => False) w2 w3 → w2.heap.size ≤ T2 → Codes2P w la lb (.returned (.agg #[.pointer (some ⟨T1, 0, none⟩), .pointer (some ⟨T2, 0, none⟩)])) ((w3.setCell ⟨K, 0, none⟩ (.pointer (some ⟨T1, 0, none⟩))).setCell ⟨K, 1, none⟩ (.pointer (some ⟨T2, 0, none⟩))) ∧ Is w3 K 65 [.pointer none, .pointer none] ∧ Is ((w3.setCell ⟨K, 0, none⟩ (.pointer (some ⟨T1, 0, none⟩))).setCell ⟨K, 1, none⟩ (.pointer (some ⟨T2, 0, none⟩))) K 65 [.pointer (some ⟨T1, 0, none⟩), .pointer (some ⟨T2, 0, none⟩)]) := Lib.hid fun T1 T2 w2 w3 t1 o1 q1 t2 o2 q2 => by
    have oo := hoa.trans (o1.trans o2)
    have ow : Only (· = K) w3 ((w3.setCell ⟨K, 0, none⟩ (.pointer (some ⟨T1, 0, none⟩))).setCell ⟨K, 1, none⟩ (.pointer (some ⟨T2, 0, none⟩))) := (Only.one w3 K 0 _).trans (Only.one _ K 1 _)
    have hka := hia.lt
    have z1 := o1.size
    have i3 : Is w3 K 65 [.pointer none, .pointer none] := hia.only (o1.trans o2) fun f => f
    have tt1 := t1.lt
    have tt2 := t2.lt
    have t1' := (t1.new o2).keep ow fun j a b e => by omega
    have t2' := t2.keep ow fun j a b e => by omega
    refine ⟨⟨T1, T2, T2, rfl, ⟨t1'.less (by have := hoa.size; omega), t2'.less (by have := hoa.size; omega), by omega, Nat.le_refl _, ?_, hla, hlb⟩, oo.andThen ow fun j e => .inr (by omega)⟩, i3, (i3.set 0 _).set 1 _⟩
    have := ow.size
    omega
  clear h1 h2 hoa s1 s2 hla hlb k1 k2 l1 l2 hn1 hn2 hia
  go_enter Tryz.func45, Tryz.ntmps45
  go_wp2_with fail
  refine N1.out.mono ?_
  rintro e w2 ⟨T1, rfl, t1, o1, q1⟩
  have HT1 := Lib.hid t1
  have HO1 := Lib.hid o1
  clear t1 o1 N1
  go_wp2_with fail
  refine (N2.out w2 HO1.out).mono ?_
  rintro e w3 ⟨T2, rfl, t2, o2, q2⟩
  obtain ⟨f1, f2, f3⟩ := FIN.out T1 T2 w2 w3 HT1.out HO1.out q1 t2 o2 q2
  have HF := Lib.hid f1
  have HF3 := Lib.hid f3
  have g0 := f2.cell 0 rfl
  have g1 := f2.cell 1 rfl
  have z0 := f2.frozen 0
  have z1 := f2.frozen 1
  clear f1 f2 f3 t2 o2 N2 FIN HT1 HO1
  go_wp2
  refine bodyPost_ret (results_cell_row rfl _ _ K 65 _ (0, 0) _ rfl HF3.out Tryz.underlying65 rfl (by kernel_rfl)) rfl ?_
  exact HF.out
end Go.Proofs.YtjlkjebmilfgoaaGreat

/- Layer 11, the program: the codes of kind 1; a block of kind 1. -/
namespace Go.Proofs.YtjlkjebmilfgoaaGreat
open Go.RowKit

theorem fixB_length : fixB.length = 32 := by decide +kernel
set_option maxRecDepth 20000 in
set_option maxHeartbeats 2000000 in
theorem plainCodes (w : World) : Calls Tryz.prog 29 #[] w (Codes2P w fixA fixB) := by
  obtain ⟨wa, hwa⟩ : ∃ wa, w.alloc (.cells #[.pointer none, .pointer none] 65) = wa := ⟨_, rfl⟩
  have hoa : Only (fun _ => False) w wa := by rw [← hwa]; exact (Only.refl _ w).alloc _
  have hia : Is wa w.heap.size 65 [.pointer none, .pointer none] := by rw [← hwa]; exact Is.new w 65 _
  obtain ⟨K, hK⟩ : ∃ K, w.heap.size = K := ⟨_, rfl⟩
  rw [hK] at hia
  have HS := Lib.hid (plainSymbols wa)
  have HD : Hid (∀ wx, Calls Tryz.prog 47 #[] wx (CatPost wx fixB 32)) := Lib.hid plainDistances
  have HN : Hid (∀ A1 c1 A2 c2 w2 w3, Made 3 wa A1 288 c1 (ints fixA) w2 → Made 3 w2 A2 32 c2 (ints fixB) w3 → Calls Tryz.prog 45 #[.slice A1 288 c1, .slice A2 32 c2] w3 (Codes2P w3 fixA fixB)) := Lib.hid fun A1 c1 A2 c2 w2 w3 m1 m2 =>
    bnewCodes A1 A2 288 c1 32 c2 fixA fixB w3 ((m1.see.new m2.2.1).more m2.2.1.size) m2.see fixA_length fixB_length (by decide) (by decide) low_fixA low_fixB (by rw [kd_fixA]) (by rw [kd_fixB])
  have FIN : Hid (∀ A1 c1 A2 c2 w2 w3 w4 T1 T2 hi, Made 3 wa A1 288 c1 (ints fixA) w2 → Made 3 w2 A2 32 c2 (ints fixB) w3 → Only (fun _ => False) w3 w4 → Cod2 w4 w3.heap.size hi T1 T2 fixA fixB →
      Codes2P w fixA fixB (.returned (.agg #[.pointer (some ⟨T1, 0, none⟩), .pointer (some ⟨T2, 0, none⟩)])) ((w4.setCell ⟨K, 0, none⟩ (.pointer (some ⟨T1, 0, none⟩))).setCell ⟨K, 1, none⟩ (.pointer (some ⟨T2, 0, none⟩))) ∧ Is w4 K 65 [.pointer none, .pointer none] ∧ Is ((w4.setCell ⟨K, 0, none⟩ (.pointer (some ⟨T1, 0, none⟩))).setCell ⟨K, 1, none⟩ (.pointer (some ⟨T2, 0, none⟩))) K 65 [.pointer (some ⟨T1, 0, none⟩), .pointer (some ⟨T2, 0, none⟩)]) := Lib.hid fun A1 c1 A2 c2 w2 w3 w4 T1 T2 hi m1 m2 o4 hc => by
    have o3 : Only (fun _ => False) wa w3 := m1.2.1.trans m2.2.1
    have o34 := o3.trans o4
    have i4 := hia.only o34 fun f => f
    have ow : Only (· = K) w4 ((w4.setCell ⟨K, 0, none⟩ (.pointer (some ⟨T1, 0, none⟩))).setCell ⟨K, 1, none⟩ (.pointer (some ⟨T2, 0, none⟩))) := (Only.one w4 K 0 _).trans (Only.one _ K 1 _)
    have hka := hia.lt
    have z3 := o3.size
    have za := hoa.size
    have hk := hc.keep ow fun j a b e => by omega
    refine ⟨⟨T1, T2, hi, rfl, ⟨hk.t1.less (by omega), hk.t2.less (by omega), hk.h1, hk.h2, hk.hh, hk.l1, hk.l2⟩, (hoa.trans o34).andThen ow fun j e => .inr (by omega)⟩, i4, (i4.set 0 _).set 1 _⟩
  clear hoa hia
  go_enter Tryz.func29, Tryz.ntmps29
  go_wp2_with fail
  refine HS.out.mono ?_
  rintro e w2 ⟨A1, c1, rfl, m1⟩
  have HM1 := Lib.hid m1
  clear m1 HS
  go_wp2_with fail
  refine (HD.out w2).mono ?_
  rintro e w3 ⟨A2, c2, rfl, m2⟩
  have HM2 := Lib.hid m2
  have HN3 := Lib.hid (HN.out A1 c1 A2 c2 w2 w3 HM1.out m2)
  clear m2 HD HN
  go_wp2_with fail
  refine HN3.out.mono ?_
  rintro e w4 ⟨T1, T2, hi, rfl, hc, o4⟩
  obtain ⟨f1, f2, f3⟩ := FIN.out A1 c1 A2 c2 w2 w3 w4 T1 T2 hi HM1.out HM2.out o4 hc
  have HF := Lib.hid f1
  have HF3 := Lib.hid f3
  have g0 := f2.cell 0 rfl
  have g1 := f2.cell 1 rfl
  have z0 := f2.frozen 0
  have z1 := f2.frozen 1
  clear f1 f2 f3 hc o4 HN3 FIN HM1 HM2
  go_wp2
  refine bodyPost_ret (results_cell_row rfl _ _ K 65 _ (0, 0) _ rfl HF3.out Tryz.underlying65 rfl (by kernel_rfl)) rfl ?_
  exact HF.out

theorem fits_fix (ts : List Tk) (hm : allB ts = true) : FitsAll fixA fixB ts := by
  refine ⟨hasA 256 (by decide), fun t ht => ?_⟩
  have hmt : mayB t = true := List.all_eq_true.1 hm t ht
  unfold FitsT
  split
  · exact hasA _ (by have := t.b.toNat_lt; omega)
  · rename_i hn
    obtain ⟨h1, h2, h3, h4⟩ := may_far t hmt hn
    obtain ⟨_, _, q, _⟩ := lenT_is t.n h1 h2
    obtain ⟨_, q2, _⟩ := distT_is t.k h3 h4
    exact ⟨hasA _ (by omega), hasB _ (by omega)⟩
/-- The bits of a block of kind 1. -/
def plainB (ts : List Tk) (last : Bool) : List UInt8 := headB 1 last ++ encB fixA fixB ts
set_option maxHeartbeats 2000000 in
theorem plain (b : Nat) (F : Nat → Prop) (bl : List UInt8) (A : Option Addr) (n c B : Nat) (ts : List Tk) (last : Bool) (w : World) (h : Wf w b F bl) (hs : See w B A (tks ts)) (hA : ts ≠ [] → ∀ j, Lies A j → ¬ F j ∧ j < w.heap.size) (hn : ts.length = n) (hb : n ≤ 30000) (hbl : bl.length ≤ 80000000) (hm : allB ts = true) :
    Calls Tryz.prog 12 #[.pointer (some ⟨b, 0, none⟩), .slice A n c, .bool last] w (StP w b F (bl ++ plainB ts last)) := by
  have HM : Hid (Calls Tryz.prog 28 #[.slice A n c] w fun e w' => e = .returned (.bool true) ∧ Only (fun _ => False) w w') := Lib.hid (by
    have := allMay A n c B ts w hs hn hb
    rw [hm] at this
    exact this)
  have hb0 : ∃ A n c l, Wrt w b A n c bl.length l := by obtain ⟨A, n, c, l, hw, _⟩ := h; exact ⟨A, n, c, l, hw⟩
  have HH : Hid (∀ w1, Only (fun _ => False) w w1 → Calls Tryz.prog 21 #[.pointer (some ⟨b, 0, none⟩), .int .u32 1, .bool last] w1 (PutW w1 b (fun j => F j ∧ j < w.heap.size) (bl ++ headB 1 last))) := Lib.hid fun w1 o1 => whead b 1 last _ bl w1 (h.tight.new o1) (by omega) (by decide)
  have HC : Hid (∀ w1, Calls Tryz.prog 29 #[] w1 (Codes2P w1 fixA fixB)) := Lib.hid plainCodes
  have HW : Hid (∀ w1 w2 w3 lo hi T1 T2, Only (fun _ => False) w w1 → WfP w1 b (fun j => F j ∧ j < w.heap.size) (bl ++ headB 1 last) w2 → Only (fun _ => False) w2 w3 → Cod2 w3 w2.heap.size hi T1 T2 fixA fixB → lo = w2.heap.size → Calls Tryz.prog 30 #[.agg #[.pointer (some ⟨T1, 0, none⟩), .pointer (some ⟨T2, 0, none⟩)], .pointer (some ⟨b, 0, none⟩), .slice A n c] w3 (PutW w b F (bl ++ plainB ts last))) := Lib.hid fun w1 w2 w3 lo hi T1 T2 o1 hw2 o3 hc _ => by
    have hz1 := o1.size
    have hz2 := hw2.only.size
    have hsee : See w3 B A (tks ts) := by
      intro i v hv
      obtain ⟨bb, off, e1, e2, e3⟩ := hs i v hv
      refine ⟨bb, off, e1, e2, ?_⟩
      have hAb := hA (by rintro rfl; simp [tks] at hv) bb ⟨_, e1, rfl⟩
      exact o3.cellF (hw2.only.cellF (o1.cellF e3 fun f => f) fun q => hAb.1 q.1) fun f => f
    have hwt : Wf w3 b (fun j => (F j ∧ j < w.heap.size ∨ w1.heap.size ≤ j) ∧ j < w2.heap.size) (bl ++ headB 1 last) := hw2.wf.tight.new o3
    refine (cwrite b _ (bl ++ headB 1 last) w2.heap.size hi T1 T2 fixA fixB A n c B ts w3 ⟨hc, hwt, fun j a _ q => by omega⟩ hsee (fun h0 j hj q => ?_) hn hb (by rw [List.length_append, headB_length]; omega) hm (fits_fix ts hm)).mono ?_
    · have := hA h0 j hj
      rcases q.1 with q1 | q1
      · exact this.1 q1.1
      · omega
    · rintro e w4 ⟨rfl, hw4⟩
      refine ⟨rfl, ?_⟩
      rw [plainB, ← List.append_assoc]
      have s1 : WfP w1 b (fun j => F j ∧ j < w.heap.size) _ w3 := hw2.new o3
      have s2 := s1.step (hw4.mono (G := fun j => F j ∧ j < w.heap.size ∨ w1.heap.size ≤ j) fun j q => q.1)
      exact (s2.mono fun j q => q.1).late o1
  clear h hs hA hn hm hb0
  go_enter Tryz.func12, Tryz.ntmps12
  go_wp2_with fail
  refine HM.out.mono ?_
  rintro e w1 ⟨rfl, o1⟩
  have HO1 := Lib.hid o1
  clear o1 HM
  go_wp2_with fail
  refine (HH.out w1 HO1.out).mono ?_
  rintro e w2 ⟨rfl, q2⟩
  have H2 := Lib.hid q2
  clear q2 HH
  go_wp2_with fail
  refine (HC.out w2).mono ?_
  rintro e w3 ⟨T1, T2, hi, rfl, hc, o3⟩
  have HW3 := Lib.hid (HW.out w1 w2 w3 _ hi T1 T2 HO1.out H2.out o3 hc rfl)
  clear hc o3 HC HW HO1 H2
  go_wp2_with fail
  refine HW3.out.mono ?_
  rintro e w4 ⟨rfl, q4⟩
  have H4 := Lib.hid q4
  clear q4 HW3
  go_wp2
  go_ret
  exact ⟨rfl, H4.out⟩
theorem plain_bad (b : Option Addr) (A : Option Addr) (n c B : Nat) (ts : List Tk) (last : Bool) (w : World) (hs : See w B A (tks ts)) (hn : ts.length = n) (hb : n ≤ 30000) (hm : allB ts = false) :
    Calls Tryz.prog 12 #[.pointer b, .slice A n c, .bool last] w fun e w' => e = .returned (.int .i64 1) ∧ Only (fun _ => False) w w' := by
  have HM : Hid (Calls Tryz.prog 28 #[.slice A n c] w fun e w' => e = .returned (.bool false) ∧ Only (fun _ => False) w w') := Lib.hid (by
    have := allMay A n c B ts w hs hn hb
    rw [hm] at this
    exact this)
  clear hs hn hm
  go_enter Tryz.func12, Tryz.ntmps12
  go_wp2_with fail
  refine HM.out.mono ?_
  rintro e w1 ⟨rfl, o1⟩
  have HO1 := Lib.hid o1
  clear o1 HM
  go_wp2
  go_ret
  exact ⟨rfl, HO1.out⟩
end Go.Proofs.YtjlkjebmilfgoaaGreat
