/- Layer 8: the walk of InflateTokens. -/
import Derived.Test.YtoclbodmibagpaaLaw8
import Derived.Test.YtoclbodmibagpaaDToks
import Derived.Test.YtoclbodmibagpaaTToks
import Derived.Test.YtoclbodmibagpaaEncMore
namespace Go.Proofs.Ytoclbodmibagpaa
open Go.RowKit

/-- What the law's text is. -/
structure Wr (ts : List Tk) (X want : List UInt8) (S W : ByteArray) : Prop where
  enc : EncIs ts X
  says : expandF 2000 ts [] = (want, 0)
  w : W = ⟨want.toArray⟩
  le_ : le S.data.toList = le2 (encE X)
  size : S.size = ((encE X).length + 7) / 8
section
variable {ts : List Tk} {X want : List UInt8} {S W : ByteArray} (h : Wr ts X want S W)
include h
theorem Wr.wsize : W.size = want.length := by rw [h.w]; rfl
theorem Wr.max : W.size ≤ 2000 := by
  have := expandF_max 2000 ts [] want h.says (by decide)
  rw [h.wsize]
  omega
theorem Wr.taken : (X.length + 10 + 7) / 8 = S.size := by rw [h.size, encE_length]
theorem Wr.grown (M : ByteArray) (most : Int) (hm : (W.size : Int) ≤ most) : mStream (bitsOf (S ++ M).data.toList) most = (0, X.length + 10, want, [1]) := by
  have e : (S ++ M).data.toList = S.data.toList ++ M.data.toList := by simp
  rw [e]
  exact tx_grown h.enc h.says h.le_ (by rw [← h.size]; rfl) _ most (by rw [← h.wsize]; exact hm)
theorem Wr.same (most : Int) (hm : (W.size : Int) ≤ most) : mStream (bitsOf S.data.toList) most = (0, X.length + 10, want, [1]) := by
  have := h.grown ByteArray.empty most hm
  rw [show (S ++ ByteArray.empty).data.toList = S.data.toList by simp] at this
  exact this
theorem Wr.filled (most : Int) (h0 : 0 ≤ most) (hm : most < W.size) : (mStream (bitsOf S.data.toList) most).1 = 7 :=
  tx_filled h.enc h.says h.le_ (by rw [← h.size]; rfl) most h0 (by rw [← h.wsize]; exact hm)
theorem Wr.clipped (k : Nat) (hk : k < S.size) : (mStream (bitsOf (S.extract 0 k).data.toList) 2000).1 = 3 := by
  have e : (S.extract 0 k).data.toList = S.data.toList.take k := by simp
  rw [e]
  have := h.max
  rw [h.wsize] at this
  exact tx_clipped h.enc h.says h.le_ (by rw [← h.size]; rfl) k hk 2000 (by omega)
end

set_option maxRecDepth 100000 in
set_option maxHeartbeats 4000000 in
theorem tokWalk (A : Option Addr) (n c : Nat) (ts : List Tk) (w : World) (hs : See w w.heap.size A (tks ts)) (hn : ts.length = n) : Calls Try.prog 4 #[.slice A n c] w (YesP w) := by
  have HAW := Lib.hid (awake w)
  by_cases h60 : 60 < n
  · clear hs hn
    go_enter Try.func4, Try.ntmps4
    go_wp2_with fail
    refine HAW.out.mono ?_
    rintro e w1 ⟨rfl, o1⟩
    have HO1 := Lib.hid o1
    clear o1 HAW
    go_wp2
    go_ret
    exact ⟨rfl, HO1.out⟩
  · have h60n : n ≤ 60 := by omega
    have HSE : Hid (∀ wx, Only (fun _ => False) w wx → See wx wx.heap.size A (tks ts)) := Lib.hid fun wx ho => (hs.new ho).more ho.size
    have HEX : Hid (∀ wx, Only (fun _ => False) w wx → Calls Try.prog 14 #[.slice A n c, .int .i64 2000] wx (ExPost wx (expandF 2000 ts []))) := Lib.hid fun wx ho => rexpand A n c _ ts 2000 wx (HSE.out wx ho) hn h60n (by decide) (by decide)
    obtain ⟨⟨want, er⟩, hr⟩ : ∃ r, expandF 2000 ts [] = r := ⟨_, rfl⟩
    rw [hr] at HEX
    unfold ExPost at HEX
    simp only at HEX
    have HNL := Lib.hid hn
    clear hs hn
    by_cases her : er = 0
    · subst her
      obtain ⟨X, hX, hXl⟩ := toks_exist 2000 ts [] want hr
      have hXl : X.length ≤ 3600 := by rw [HNL.out] at hXl; omega
      have HTK : Hid (∀ wx, Only (fun _ => False) w wx → Calls Try.prog 16 #[.slice A n c] wx (TokPost wx (encE X))) := Lib.hid fun wx ho => dtokens A n c ts X wx (HSE.out wx ho) HNL.out h60n hX (by omega)
      obtain ⟨W, hW⟩ : ∃ W : ByteArray, W = ⟨want.toArray⟩ := ⟨_, rfl⟩
      rw [← hW] at HEX
      have HWR : Hid (∀ S : ByteArray, le S.data.toList = le2 (encE X) → S.size = ((encE X).length + 7) / 8 → Wr ts X want S W) := Lib.hid fun S h1 h2 => ⟨hX, hr, hW, h1, h2⟩
      have HBE : Hid (Bits (encE X)) := Lib.hid (encE_bits hX)
      have HEL : Hid ((encE X).length ≤ 3610) := Lib.hid (by rw [encE_length]; omega)
      clear hX hr hW HSE HNL
      go_enter Try.func4, Try.ntmps4
      go_wp2_with fail
      refine HAW.out.mono ?_
      rintro e w1 ⟨rfl, o1⟩
      have HO1 := Lib.hid o1
      clear o1 HAW
      go_wp2_with fail
      refine (HEX.out w1 HO1.out).mono ?_
      rintro e w2 ⟨rfl, o2⟩
      have HO2 := Lib.hid (HO1.out.trans o2)
      clear o2 HEX HO1
      go_wp2_with fail
      refine (HTK.out w2 HO2.out).mono ?_
      rintro e w3 ⟨A3, c3, n3, rfl, hl3, s3, o3⟩
      have HO3 := Lib.hid (HO2.out.trans o3)
      have HTX := Lib.hid (rtext A3 n3 c3 (encE X) w3 (s3.sees hl3) HBE.out (by have := HEL.out; omega))
      have HL3 := Lib.hid hl3
      clear o3 hl3 s3 HTK HO2
      go_wp2_with fail
      refine HTX.out.mono ?_
      rintro e w4 ⟨t, rfl, t1, t2, o4⟩
      obtain ⟨S, hS⟩ : ∃ S : ByteArray, ⟨t.toArray⟩ = S := ⟨_, rfl⟩
      have hwr := HWR.out S (by rw [← hS]; simpa using t2) (by rw [← hS, HL3.out]; exact t1)
      rw [hS]
      have hsz : S.size ≤ 1000 := by have := HEL.out; have := hwr.size; omega
      have hwm := hwr.max
      have HO4 := Lib.hid (HO3.out.trans o4)
      have H9 : Hid (Calls Try.prog 10 #[.string S, .int .i64 (W.size : Nat)] w4 fun e w' => e = .returned (.tuple #[.string W, .int .i64 0]) ∧ Only (fun _ => False) w4 w') := Lib.hid (by
        have := pall S (W.size : Nat) w4 (by omega) (by omega) (by omega)
        rw [hwr.same _ (by omega)] at this
        unfold AllPost mAll mTaken mText at this
        simp only [ne_eq, not_true_eq_false, if_false, hwr.taken, Nat.lt_irrefl] at this
        rw [← hwr.w] at this
        exact this)
      have H7 : Hid (∀ wx, Only (fun _ => False) w wx → ∀ m : Int, 0 ≤ m → m < W.size → Calls Try.prog 8 #[.string S, .int .i64 m] wx fun e w' => e = .returned (.tuple #[.string ByteArray.empty, .int .i64 0, .int .i64 7]) ∧ Only (fun _ => False) wx w') := Lib.hid fun wx ho m m0 m1 => by
        have := pstream S m wx (by omega) (by omega) (by omega)
        have h7 := hwr.filled m m0 m1
        unfold StreamPost mTaken mText at this
        simp only [h7] at this
        exact this
      clear o4 t1 t2 hS HTX HL3 HO3 hwr HWR HBE HEL
      go_wp2_with fail
      refine H9.out.mono ?_
      rintro e w5 ⟨rfl, o5⟩
      have HO5 := Lib.hid (HO4.out.trans o5)
      clear o5 H9 HO4
      by_cases hz : W.size = 0
      · have hzi : (W.size : Int) = 0 := by omega
        clear H7
        go_wp2
        go_ret
        exact ⟨rfl, HO5.out⟩
      · have hzi : ¬ (W.size : Int) = 0 := by omega
        have hzb : ((W.size : Int) == 0) = false := by rw [beq_eq_false_iff_ne]; exact hzi
        have hz1 : 1 ≤ W.size := by omega
        have H77 := Lib.hid (H7.out w5 HO5.out ((W.size : Int) - 1) (by omega) (by omega))
        clear H7
        go_wp2_with fail
        refine H77.out.mono ?_
        rintro e w6 ⟨rfl, o6⟩
        have HO6 := Lib.hid (HO5.out.trans o6)
        clear o6 H77 HO5
        go_wp2
        go_ret
        exact ⟨rfl, HO6.out⟩
    · have herb : (er == 0) = false := by simpa using her
      clear HSE HNL hr
      go_enter Try.func4, Try.ntmps4
      go_wp2_with fail
      refine HAW.out.mono ?_
      rintro e w1 ⟨rfl, o1⟩
      have HO1 := Lib.hid o1
      clear o1 HAW
      go_wp2_with fail
      refine (HEX.out w1 HO1.out).mono ?_
      rintro e w2 ⟨rfl, o2⟩
      have HO2 := Lib.hid (HO1.out.trans o2)
      clear o2 HEX HO1
      go_wp2
      go_ret
      exact ⟨rfl, HO2.out⟩
end Go.Proofs.Ytoclbodmibagpaa
