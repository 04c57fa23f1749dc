/- Layer 11, the program: Sizes. -/
import Derived.Test.YtoclbodmibagpaaKSizes
namespace Go.Proofs.Ytoclbodmibagpaa
open Go.RowKit

/-- How many bits a block of kind 1 has, and of kind 2. -/
def plainN (ts : List Tk) : Nat := 3 + sizeF fixA fixB (talF ts)
def ownN (ts : List Tk) : Nat := 3 + (hdrB (talF ts)).length + sizeF (ownA (talF ts)) (ownB (talF ts)) (talF ts)
theorem tal_le (ts : List Tk) (hm : allB ts = true) (hn : ts.length ≤ 1000) (i : Nat) : ln (talF ts) i ≤ 20001 := by
  have hmay : ∀ t ∈ ts, mayB t = true := fun t ht => List.all_eq_true.1 hm t ht
  have h := talTo_le ts hmay i
  unfold talF
  rw [ln_up _ _ _ _ (by rw [talTo_length]; decide)]
  split <;> omega
theorem hdrB_length (L : List Nat) (h : (ownR L).length ≤ 316) : (hdrB L).length ≤ 8000 := by
  have h1 := hdr0_length L
  have h2 := hdr1_length L 19
  have h3 := hdr2_length L 316 h
  unfold hdrB
  rw [List.length_append, List.length_append]
  omega
def SizesP (w : World) (x y : Nat) (e : Ending) (w' : World) : Prop := e = .returned (.tuple #[.int .i64 x, .int .i64 y, .int .i64 0]) ∧ Only (fun _ => False) w w'
set_option maxRecDepth 20000 in
set_option maxHeartbeats 8000000 in
theorem sizes (A : Option Addr) (n c B : Nat) (ts : List Tk) (w : World) (h : See w B A (tks ts)) (hn : ts.length = n) (hb : n ≤ 1000) (hm : allB ts = true) :
    Calls Try.prog 34 #[.slice A n c] w (SizesP w (plainN ts) (ownN ts)) := by
  have HMay : Hid (Calls Try.prog 49 #[.slice A n c] w fun e w' => e = .returned (.bool true) ∧ Only (fun _ => False) w w') := Lib.hid (by
    have := allMay A n c B ts w h hn hb
    rw [hm] at this
    exact this)
  have HTal : Hid (∀ w1, Only (fun _ => False) w w1 → Calls Try.prog 52 #[.slice A n c] w1 (TalP w1 (talF ts))) := Lib.hid fun w1 o1 => tallyOf A n c B ts w1 (h.new o1) hn hb hm
  have hle := tal_le ts hm (by omega)
  have hlen := talF_length ts
  unfold plainN ownN
  obtain ⟨L, hL⟩ : ∃ L, talF ts = L := ⟨_, rfl⟩
  rw [hL] at HTal hle hlen ⊢
  have HNL : Hid (∀ w1, Calls Try.prog 53 #[.agg (ints L).toArray] w1 (LnsP w1 L)) := Lib.hid fun w1 => newLengths L w1 hlen fun i => Nat.le_trans (hle i) (by decide)
  have HPC : Hid (∀ w1, Calls Try.prog 50 #[] w1 (Codes2P w1 fixA fixB)) := Lib.hid plainCodes
  have HCS : Hid (∀ w1 lo hi T1 T2 la lb, Cod2 w1 lo hi T1 T2 la lb → Calls Try.prog 54 #[.agg #[.pointer (some ⟨T1, 0, none⟩), .pointer (some ⟨T2, 0, none⟩)], .agg (ints L).toArray] w1 fun e w' => e = .returned (.int .i64 (sizeF la lb L : Nat)) ∧ Only (fun _ => False) w1 w') := Lib.hid fun w1 lo hi T1 T2 la lb hc => csize lo hi T1 T2 la lb L w1 hc hlen fun i => Nat.le_trans (hle i) (by decide)
  have HLS : Hid (∀ w1 lo hi g1 g2 A3 q3 c3 g4, LnsAt lo hi w1 L g1 g2 A3 q3 g4 → hi ≤ w1.heap.size → Calls Try.prog 55 #[lnsV L g1 g2 A3 q3 c3 g4] w1 fun e w' => e = .returned (.int .i64 ((hdrB L).length : Nat)) ∧ Only (fun _ => False) w1 w') := Lib.hid fun w1 lo hi g1 g2 A3 q3 c3 g4 hl hh => lsize lo hi L g1 g2 A3 q3 c3 g4 w1 hl hh hlen
  have HLC : Hid (∀ w1 lo hi g1 g2 A3 q3 c3 g4, LnsAt lo hi w1 L g1 g2 A3 q3 g4 → hi ≤ w1.heap.size → Calls Try.prog 56 #[lnsV L g1 g2 A3 q3 c3 g4] w1 (Codes2P w1 (ownA L) (ownB L))) := Lib.hid fun w1 lo hi g1 g2 A3 q3 c3 g4 hl hh => lcodes lo hi L g1 g2 A3 q3 c3 g4 w1 hl hh hlen
  have hsz : ∀ la lb, Low la → Low lb → sizeF la lb L ≤ 10000000000 := fun la lb ha hb => by
    have h1 := dot_le L la 20001 ha hle 286
    have h2 := dot_le (L.drop 286) lb 20001 hb (fun i => by rw [ln_drop]; exact hle _) 30
    have h3 := hle 316
    unfold sizeF
    omega
  have hs1 := hsz fixA fixB low_fixA low_fixB
  have hs2 := hsz (ownA L) (ownB L) (ownA_low hlen) (ownB_low hlen)
  have HHd : Hid (∀ lo hi w1 g1 g2 A3 q3 g4, LnsAt lo hi w1 L g1 g2 A3 q3 g4 → (hdrB L).length ≤ 8000) := Lib.hid fun lo hi w1 g1 g2 A3 q3 g4 hl => hdrB_length L (by rw [hl.q]; exact hl.q2)
  obtain ⟨X, hX⟩ : ∃ X, sizeF fixA fixB L = X := ⟨_, rfl⟩
  obtain ⟨Y, hY⟩ : ∃ Y, sizeF (ownA L) (ownB L) L = Y := ⟨_, rfl⟩
  obtain ⟨Z, hZ⟩ : ∃ Z, (hdrB L).length = Z := ⟨_, rfl⟩
  rw [hX] at hs1
  rw [hY] at hs2
  rw [hZ] at HLS HHd
  rw [hX, hY, hZ]
  have HX := Lib.hid hX
  have HY := Lib.hid hY
  have HV : Hid (∃ nA nB, ∀ g1 g2 A3 q3 c3 g4, lnsV L g1 g2 A3 q3 c3 g4 = .agg #[.slice (some ⟨g1, 0, none⟩) nA 286, .slice (some ⟨g2, 0, none⟩) nB 30, .slice A3 q3 c3, .slice (some ⟨g4, 0, none⟩) 19 19]) := Lib.hid ⟨_, _, fun _ _ _ _ _ _ => rfl⟩
  obtain ⟨ks, hks⟩ : ∃ ks, ints L = ks := ⟨_, rfl⟩
  have hkl : ks.length = 317 := by rw [← hks, ints_length, hlen]
  have hk1 : ∀ v ∈ ks, v.oneCell' = true := by rw [← hks]; exact ints_one _
  have HTal2 : Hid (∀ w1, Only (fun _ => False) w w1 → Calls Try.prog 52 #[.slice A n c] w1 fun e w' => e = .returned (.agg ks.toArray) ∧ Only (fun _ => False) w1 w') := Lib.hid fun w1 o1 => by
    refine (HTal.out w1 o1).mono fun e w' q => ?_
    rw [TalP, hks] at q
    exact q
  rw [hks] at HNL HCS
  have HKl := Lib.hid hkl
  have HK1 := Lib.hid hk1
  clear h hn hm hle hlen hL hsz hX hY hZ hks hkl hk1 HTal
  go_enter Try.func34, Try.ntmps34
  go_wp2_with fail
  refine HMay.out.mono ?_
  rintro e w1 ⟨rfl, o1⟩
  have HO1 := Lib.hid o1
  clear o1 HMay
  go_wp2_with fail
  refine (HTal2.out w1 HO1.out).mono ?_
  rintro e w2 ⟨rfl, o2⟩
  have HO2 := Lib.hid (HO1.out.trans o2)
  clear o2 HTal2 HO1
  have hz : Is (w2.alloc (.cells Try.zeroCells111 111)) w2.heap.size 111 (ints tal0) := by rw [zeroTal]; exact Is.new w2 _ _
  have HZ0 := Lib.hid hz
  clear hz
  go_wp2_with (first
    | ((with_reducible show wpList _ _ _ (Oper.mk _ (Op.store _ _ _) _ _ _ _ :: _) _ _); refine wpList_store_is rfl 111 (.tmp 5) (.tmp 13) rfl w2.heap.size ks rfl rfl 111 _ HZ0.out (by rw [HKl.out]; exact infoTal) (by rw [HKl.out, ints_length, tal0, List.length_replicate]) HK1.out ?_; intro w3 hi3 ho3; have HI3 := Lib.hid hi3; have HO3 : Hid (Only (fun _ => False) w2 w3) := Lib.hid (((Only.refl _ w2).alloc _).andThen ho3 fun j e => .inr (by omega)); clear hi3 ho3)
    | ((with_reducible show wpList _ _ _ (Oper.mk _ (Op.load _ _) _ _ _ _ :: _) _ _); refine wpList_load_st rfl 111 (.tmp 5) rfl w2.heap.size rfl 111 _ HI3.out Try.underlying111 rfl (by rw [HKl.out]; exact infoTal) ?_))
  refine (HNL.out w3).mono ?_
  rintro e w4 ⟨g1, g2, A3, q3, c3, g4, rfl, hl4, o4⟩
  obtain ⟨nA, nB, hv⟩ := HV.out
  have HV2 := Lib.hid hv
  rw [hv]
  have HL4 := Lib.hid hl4
  have HI4 : Hid (Is w4 w2.heap.size 111 ks) := Lib.hid (HI3.out.only o4 fun f => f)
  have HO4 : Hid (Only (fun _ => False) w w4) := Lib.hid (HO2.out.trans (HO3.out.trans o4))
  obtain ⟨T, hT⟩ : ∃ T, w2.heap.size = T := ⟨_, rfl⟩
  rw [hT] at HI4
  clear hv hl4 o4 HNL HO2 HO3 HI3 HZ0 HV
  try rw [hT]
  clear hT
  go_upto_region 5 with fail
  obtain ⟨w5, hw5⟩ : ∃ w5, w4.alloc (.cells #[.slice (some ⟨g1, 0, none⟩) nA 286, .slice (some ⟨g2, 0, none⟩) nB 30, .slice A3 q3 c3, .slice (some ⟨g4, 0, none⟩) 19 19] 115) = w5 := ⟨_, rfl⟩
  obtain ⟨T6, hT6⟩ : ∃ T6, w4.heap.size = T6 := ⟨_, rfl⟩
  have ho5 : Only (fun _ => False) w4 w5 := by rw [← hw5]; exact (Only.refl _ w4).alloc _
  have HI5 : Hid (Is w5 T 111 ks ∧ Is w5 T6 115 [.slice (some ⟨g1, 0, none⟩) nA 286, .slice (some ⟨g2, 0, none⟩) nB 30, .slice A3 q3 c3, .slice (some ⟨g4, 0, none⟩) 19 19] ∧ LnsAt w3.heap.size T6 w5 L g1 g2 A3 q3 g4 ∧ T6 ≤ w5.heap.size ∧ Only (fun _ => False) w w5) := Lib.hid (by
    refine ⟨HI4.out.only ho5 fun f => f, ?_, ?_, ?_, HO4.out.trans ho5⟩
    · rw [← hw5, ← hT6]; exact Is.new w4 _ _
    · rw [← hT6]; exact HL4.out.new ho5
    · rw [← hT6]; exact ho5.size)
  rw [hw5, hT6]
  clear hw5 hT6 ho5 HI4 HL4 HO4
  have HSt : Hid (∀ wx wy, (Is wx T 111 ks ∧ Is wx T6 115 [.slice (some ⟨g1, 0, none⟩) nA 286, .slice (some ⟨g2, 0, none⟩) nB 30, .slice A3 q3 c3, .slice (some ⟨g4, 0, none⟩) 19 19] ∧ LnsAt w3.heap.size T6 wx L g1 g2 A3 q3 g4 ∧ T6 ≤ wx.heap.size ∧ Only (fun _ => False) w wx) → Only (fun _ => False) wx wy → (Is wy T 111 ks ∧ Is wy T6 115 [.slice (some ⟨g1, 0, none⟩) nA 286, .slice (some ⟨g2, 0, none⟩) nB 30, .slice A3 q3 c3, .slice (some ⟨g4, 0, none⟩) 19 19] ∧ LnsAt w3.heap.size T6 wy L g1 g2 A3 q3 g4 ∧ T6 ≤ wy.heap.size ∧ Only (fun _ => False) w wy)) := Lib.hid fun wx wy h o => ⟨h.1.only o fun f => f, h.2.1.only o fun f => f, h.2.2.1.new o, Nat.le_trans h.2.2.2.1 o.size, h.2.2.2.2.trans o⟩
  have HI5d := Lib.hid (HSt.out w5 w5.drew HI5.out ((Only.refl _ w5).drew))
  clear HI5
  refine Steps.region (fun W => Is W T 111 ks ∧ Is W T6 115 [.slice (some ⟨g1, 0, none⟩) nA 286, .slice (some ⟨g2, 0, none⟩) nB 30, .slice A3 q3 c3, .slice (some ⟨g4, 0, none⟩) 19 19] ∧ LnsAt w3.heap.size T6 W L g1 g2 A3 q3 g4 ∧ T6 ≤ W.heap.size ∧ Only (fun _ => False) w W) [(true, 1), (false, 0), (false, 2), (true, 3), (true, 4)] (by kernel_rfl) (by kernel_rfl) rfl (by kernel_rfl) (fun _ _ d _ _ h => by cases d <;> exact h) ?_
  refine Steps.take (.agg ks.toArray) rfl HI5d.out (fun W hW => yields_st 111 (.tmp 5) rfl T rfl 111 ks Try.underlying111 rfl (by rw [HKl.out]; exact infoTal) W hW.1) ?_
  simp only [Act.put, List.setIfInBounds_toArray, List.set_cons_succ, List.set_cons_zero]
  refine Steps.call 50 #[] rfl (by kernel_rfl) ((HPC.out _).mono ?_)
  rintro e w6 ⟨T1, T2, hi2, rfl, hc, o6⟩
  have HI6 := Lib.hid (HSt.out _ w6 HI5d.out o6)
  have hcs := HCS.out w6 _ _ _ _ _ _ hc
  rw [HX.out] at hcs
  have HCS6 := Lib.hid hcs
  clear hc o6 hcs HI5d
  refine ⟨_, rfl, HI6.out, ?_⟩
  simp only [Act.put, List.setIfInBounds_toArray, List.set_cons_succ, List.set_cons_zero]
  refine Steps.call 54 #[.agg #[.pointer (some ⟨T1, 0, none⟩), .pointer (some ⟨T2, 0, none⟩)], .agg ks.toArray] rfl (by kernel_rfl) (HCS6.out.mono ?_)
  rintro e w7 ⟨rfl, o7⟩
  have HI7 := Lib.hid (HSt.out _ w7 HI6.out o7)
  clear o7 HI6 HCS6
  refine ⟨_, rfl, HI7.out, ?_⟩
  simp only [Act.put, List.setIfInBounds_toArray, List.set_cons_succ, List.set_cons_zero]
  refine Steps.take (.int .i64 ((3 + X : Nat) : Int)) rfl HI7.out (fun _ _ => by go_simp; rw [IntWalk.i64_in _ (by omega)]) ?_
  simp only [Act.put, List.setIfInBounds_toArray, List.set_cons_succ, List.set_cons_zero]
  refine Steps.take (.int .i64 ((3 + X : Nat) : Int)) rfl HI7.out (fun _ _ => by kernel_rfl) ?_
  simp only [Act.put, List.setIfInBounds_toArray, List.set_cons_succ, List.set_cons_zero]
  show wpList _ _ _ _ _ _
  go_upto_region 6 with fail
  have HI7d := Lib.hid (HSt.out w7 w7.drew HI7.out ((Only.refl _ w7).drew))
  have hz8 := HHd.out _ _ _ _ _ _ _ _ HI7.out.2.2.1
  clear HI7 HPC HHd
  refine Steps.region (fun W => Is W T 111 ks ∧ Is W T6 115 [.slice (some ⟨g1, 0, none⟩) nA 286, .slice (some ⟨g2, 0, none⟩) nB 30, .slice A3 q3 c3, .slice (some ⟨g4, 0, none⟩) 19 19] ∧ LnsAt w3.heap.size T6 W L g1 g2 A3 q3 g4 ∧ T6 ≤ W.heap.size ∧ Only (fun _ => False) w W) [(true, 0), (true, 3), (true, 5), (false, 1), (true, 2), (false, 4), (false, 6), (true, 7), (true, 8)] (by kernel_rfl) (by kernel_rfl) rfl (by kernel_rfl) (fun _ _ d _ _ h => by cases d <;> exact h) ?_
  refine Steps.take (.agg #[.slice (some ⟨g1, 0, none⟩) nA 286, .slice (some ⟨g2, 0, none⟩) nB 30, .slice A3 q3 c3, .slice (some ⟨g4, 0, none⟩) 19 19]) rfl HI7d.out (fun W hW => yields_st 115 (.tmp 6) rfl T6 rfl 115 [.slice (some ⟨g1, 0, none⟩) nA 286, .slice (some ⟨g2, 0, none⟩) nB 30, .slice A3 q3 c3, .slice (some ⟨g4, 0, none⟩) 19 19] Try.underlying115 rfl (by kernel_rfl) W hW.2.1) ?_
  simp only [Act.put, List.setIfInBounds_toArray, List.set_cons_succ, List.set_cons_zero]
  refine Steps.take (.agg #[.slice (some ⟨g1, 0, none⟩) nA 286, .slice (some ⟨g2, 0, none⟩) nB 30, .slice A3 q3 c3, .slice (some ⟨g4, 0, none⟩) 19 19]) rfl HI7d.out (fun W hW => yields_st 115 (.tmp 6) rfl T6 rfl 115 [.slice (some ⟨g1, 0, none⟩) nA 286, .slice (some ⟨g2, 0, none⟩) nB 30, .slice A3 q3 c3, .slice (some ⟨g4, 0, none⟩) 19 19] Try.underlying115 rfl (by kernel_rfl) W hW.2.1) ?_
  simp only [Act.put, List.setIfInBounds_toArray, List.set_cons_succ, List.set_cons_zero]
  refine Steps.take (.agg ks.toArray) rfl HI7d.out (fun W hW => yields_st 111 (.tmp 5) rfl T rfl 111 ks Try.underlying111 rfl (by rw [HKl.out]; exact infoTal) W hW.1) ?_
  simp only [Act.put, List.setIfInBounds_toArray, List.set_cons_succ, List.set_cons_zero]
  have hls := HLS.out w7.drew _ _ g1 g2 A3 q3 c3 g4 HI7d.out.2.2.1 HI7d.out.2.2.2.1
  rw [HV2.out] at hls
  have HLS7 := Lib.hid hls
  clear hls HLS
  refine Steps.call 55 #[.agg #[.slice (some ⟨g1, 0, none⟩) nA 286, .slice (some ⟨g2, 0, none⟩) nB 30, .slice A3 q3 c3, .slice (some ⟨g4, 0, none⟩) 19 19]] rfl (by kernel_rfl) (HLS7.out.mono ?_)
  rintro e w8 ⟨rfl, o8⟩
  have HI8 := Lib.hid (HSt.out _ w8 HI7d.out o8)
  clear o8 HI7d HLS7
  refine ⟨_, rfl, HI8.out, ?_⟩
  simp only [Act.put, List.setIfInBounds_toArray, List.set_cons_succ, List.set_cons_zero]
  refine Steps.take (.int .i64 ((3 + Z : Nat) : Int)) rfl HI8.out (fun _ _ => by go_simp; rw [IntWalk.i64_in _ (by omega)]) ?_
  simp only [Act.put, List.setIfInBounds_toArray, List.set_cons_succ, List.set_cons_zero]
  have hlc := HLC.out w8 _ _ g1 g2 A3 q3 c3 g4 HI8.out.2.2.1 HI8.out.2.2.2.1
  rw [HV2.out] at hlc
  have HLC8 := Lib.hid hlc
  clear hlc HLC
  refine Steps.call 56 #[.agg #[.slice (some ⟨g1, 0, none⟩) nA 286, .slice (some ⟨g2, 0, none⟩) nB 30, .slice A3 q3 c3, .slice (some ⟨g4, 0, none⟩) 19 19]] rfl (by kernel_rfl) (HLC8.out.mono ?_)
  rintro e w9 ⟨T3, T4, hi3, rfl, hc9, o9⟩
  have HI9 := Lib.hid (HSt.out _ w9 HI8.out o9)
  have hcs := HCS.out w9 _ _ _ _ _ _ hc9
  rw [HY.out] at hcs
  have HCS9 := Lib.hid hcs
  clear o9 HI8 HLC8 hcs hc9 HCS
  refine ⟨_, rfl, HI9.out, ?_⟩
  simp only [Act.put, List.setIfInBounds_toArray, List.set_cons_succ, List.set_cons_zero]
  refine Steps.call 54 #[.agg #[.pointer (some ⟨T3, 0, none⟩), .pointer (some ⟨T4, 0, none⟩)], .agg ks.toArray] rfl (by kernel_rfl) (HCS9.out.mono ?_)
  rintro e w10 ⟨rfl, o10⟩
  have HI10 := Lib.hid (HSt.out _ w10 HI9.out o10)
  clear o10 HI9 HCS9 HSt
  refine ⟨_, rfl, HI10.out, ?_⟩
  simp only [Act.put, List.setIfInBounds_toArray, List.set_cons_succ, List.set_cons_zero]
  refine Steps.take (.int .i64 ((3 + Z + Y : Nat) : Int)) rfl HI10.out (fun _ _ => by go_simp; first | done | (rw [IntWalk.i64_in _ (by omega)]; first | done | omega)) ?_
  simp only [Act.put, List.setIfInBounds_toArray, List.set_cons_succ, List.set_cons_zero]
  refine Steps.take (.int .i64 ((3 + Z + Y : Nat) : Int)) rfl HI10.out (fun _ _ => by kernel_rfl) ?_
  simp only [Act.put, List.setIfInBounds_toArray, List.set_cons_succ, List.set_cons_zero]
  show wpList _ _ _ _ _ _
  have HO := Lib.hid HI10.out.2.2.2.2
  clear HI10
  go_wp2
  refine bodyPost_ret (results_slots [2, 3, 4] (by decide) rfl) rfl ?_
  exact ⟨rfl, HO.out⟩
theorem sizes_bad (A : Option Addr) (n c B : Nat) (ts : List Tk) (w : World) (hs : See w B A (tks ts)) (hn : ts.length = n) (hb : n ≤ 1000) (hm : allB ts = false) :
    Calls Try.prog 34 #[.slice A n c] w fun e w' => e = .returned (.tuple #[.int .i64 0, .int .i64 0, .int .i64 1]) ∧ Only (fun _ => False) w w' := by
  have HM : Hid (Calls Try.prog 49 #[.slice A n c] w fun e w' => e = .returned (.bool false) ∧ Only (fun _ => False) w w') := Lib.hid (by
    have := allMay A n c B ts w hs hn hb
    rw [hm] at this
    exact this)
  clear hs hn hm
  go_enter Try.func34, Try.ntmps34
  go_wp2_with fail
  refine HM.out.mono ?_
  rintro e w1 ⟨rfl, o1⟩
  have HO1 := Lib.hid o1
  clear o1 HM
  go_wp2
  refine bodyPost_ret (results_slots [2, 3, 4] (by decide) rfl) rfl ?_
  exact ⟨rfl, HO1.out⟩
end Go.Proofs.Ytoclbodmibagpaa
