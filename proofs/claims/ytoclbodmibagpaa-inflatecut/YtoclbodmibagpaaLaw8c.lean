/- Layer 8: the walk of InflateCut. -/
import Derived.Test.YtoclbodmibagpaaLaw8b
namespace Go.Proofs.Ytoclbodmibagpaa
open Go.RowKit

theorem loop_ne (bs : ByteArray) : ∀ (d i : Nat) (r : List UInt8), bs.size - i = d → ¬ r = [] → ¬ ByteArray.toList.loop bs i r = []
  | 0, i, r, h, hr => by
    rw [ByteArray.toList.loop, if_neg (by omega)]
    simpa using hr
  | d + 1, i, r, h, hr => by
    rw [ByteArray.toList.loop, if_pos (by omega)]
    exact loop_ne bs d (i + 1) _ (by omega) (by simp)
theorem toList_ne (M : ByteArray) (h : ¬ M.size = 0) : ¬ M.toList = [] := by
  unfold ByteArray.toList
  rw [ByteArray.toList.loop, if_pos (by omega)]
  exact loop_ne M _ _ _ rfl (by simp)

set_option maxRecDepth 100000 in
set_option maxHeartbeats 4000000 in
theorem cutWalk (A : Option Addr) (n c : Nat) (ts : List Tk) (M : ByteArray) (z : Int) (w : World) (hs : See w w.heap.size A (tks ts)) (hn : ts.length = n) (hz0 : 0 ≤ z) (hz1 : z ≤ 65535) : Calls Try.prog 5 #[.slice A n c, .string M, .int .u16 z] w (YesP w) := by
  have HAW := Lib.hid (awake w)
  by_cases h60 : 60 < n
  · have h60i : (60 : Int) < (n : Int) := by omega
    have h60d : decide ((60 : Int) < (n : Int)) = true := by simp; omega
    clear hs hn
    go_enter Try.func5, Try.ntmps5
    go_wp2_with fail
    refine HAW.out.mono ?_
    rintro e w1 ⟨rfl, o1⟩
    have HO1 := Lib.hid o1
    clear o1 HAW
    go_wp2
    go_ret
    exact ⟨rfl, HO1.out⟩
  · have h60n : n ≤ 60 := by omega
    have h60d : decide ((60 : Int) < (n : Int)) = false := by simp; omega
    by_cases h20 : 20 < M.size
    · have h20i : (20 : Int) < (M.size : Int) := by omega
      have h20d : decide ((20 : Int) < (M.size : Int)) = true := decide_eq_true h20i
      clear hs hn
      go_enter Try.func5, Try.ntmps5
      go_wp2_with fail
      refine HAW.out.mono ?_
      rintro e w1 ⟨rfl, o1⟩
      have HO1 := Lib.hid o1
      clear o1 HAW
      go_wp2
      go_ret
      exact ⟨rfl, HO1.out⟩
    have h20n : M.size ≤ 20 := by omega
    have h20d : decide ((20 : Int) < (M.size : Int)) = false := decide_eq_false (by omega)
    have HSE : Hid (∀ wx, Only (fun _ => False) w wx → See wx wx.heap.size A (tks ts)) := Lib.hid fun wx ho => (hs.new ho).more ho.size
    have HEX : Hid (∀ wx, Only (fun _ => False) w wx → Calls Try.prog 14 #[.slice A n c, .int .i64 2000] wx (ExPost wx (expandF 2000 ts []))) := Lib.hid fun wx ho => rexpand A n c _ ts 2000 wx (HSE.out wx ho) hn h60n (by decide) (by decide)
    obtain ⟨⟨want, er⟩, hr⟩ : ∃ r, expandF 2000 ts [] = r := ⟨_, rfl⟩
    rw [hr] at HEX
    unfold ExPost at HEX
    simp only at HEX
    have HNL := Lib.hid hn
    clear hs hn
    by_cases her : er = 0
    · subst her
      obtain ⟨X, hX, hXl⟩ := toks_exist 2000 ts [] want hr
      have hXl : X.length ≤ 3600 := by rw [HNL.out] at hXl; omega
      have HTK : Hid (∀ wx, Only (fun _ => False) w wx → Calls Try.prog 16 #[.slice A n c] wx (TokPost wx (encE X))) := Lib.hid fun wx ho => dtokens A n c ts X wx (HSE.out wx ho) HNL.out h60n hX (by omega)
      obtain ⟨W, hW⟩ : ∃ W : ByteArray, W = ⟨want.toArray⟩ := ⟨_, rfl⟩
      rw [← hW] at HEX
      have HWR : Hid (∀ S : ByteArray, le S.data.toList = le2 (encE X) → S.size = ((encE X).length + 7) / 8 → Wr ts X want S W) := Lib.hid fun S h1 h2 => ⟨hX, hr, hW, h1, h2⟩
      have HBE : Hid (Bits (encE X)) := Lib.hid (encE_bits hX)
      have HEL : Hid ((encE X).length ≤ 3610) := Lib.hid (by rw [encE_length]; omega)
      clear hX hr hW HSE HNL
      go_enter Try.func5, Try.ntmps5
      go_wp2_with fail
      refine HAW.out.mono ?_
      rintro e w1 ⟨rfl, o1⟩
      have HO1 := Lib.hid o1
      clear o1 HAW
      go_wp2_with fail
      refine (HEX.out w1 HO1.out).mono ?_
      rintro e w2 ⟨rfl, o2⟩
      have HO2 := Lib.hid (HO1.out.trans o2)
      clear o2 HEX HO1
      go_wp2_with fail
      refine (HTK.out w2 HO2.out).mono ?_
      rintro e w3 ⟨A3, c3, n3, rfl, hl3, s3, o3⟩
      have HO3 := Lib.hid (HO2.out.trans o3)
      have HTX := Lib.hid (rtext A3 n3 c3 (encE X) w3 (s3.sees hl3) HBE.out (by have := HEL.out; omega))
      have HL3 := Lib.hid hl3
      clear o3 hl3 s3 HTK HO2
      go_wp2_with fail
      refine HTX.out.mono ?_
      rintro e w4 ⟨t, rfl, t1, t2, o4⟩
      obtain ⟨S, hS⟩ : ∃ S : ByteArray, ⟨t.toArray⟩ = S := ⟨_, rfl⟩
      have hwr := HWR.out S (by rw [← hS]; simpa using t2) (by rw [← hS, HL3.out]; exact t1)
      rw [hS]
      have hsz : S.size ≤ 1000 := by have := HEL.out; have := hwr.size; omega
      have hwm := hwr.max
      have HO4 := Lib.hid (HO3.out.trans o4)
      have hsp : 1 ≤ S.size := by have := hwr.size; have := encE_length X; omega
      have H7a : Hid (Calls Try.prog 8 #[.string (S ++ M), .int .i64 2000] w4 fun e w' => e = .returned (.tuple #[.string W, .int .i64 (S.size : Nat), .int .i64 0]) ∧ Only (fun _ => False) w4 w') := Lib.hid (by
        have := pstream (S ++ M) 2000 w4 (by rw [ByteArray.size_append]; omega) (by omega) (by omega)
        rw [hwr.grown M _ (by omega)] at this
        unfold StreamPost mTaken mText at this
        simp only [ne_eq, not_true_eq_false, if_false, hwr.taken] at this
        rw [← hwr.w] at this
        exact this)
      have H7b : Hid (∀ wx, Only (fun _ => False) w wx → ∀ k : Nat, k < S.size → Calls Try.prog 8 #[.string (S.extract 0 k), .int .i64 2000] wx fun e w' => e = .returned (.tuple #[.string ByteArray.empty, .int .i64 0, .int .i64 3]) ∧ Only (fun _ => False) wx w') := Lib.hid fun wx ho k hk => by
        have := pstream (S.extract 0 k) 2000 wx (by rw [ByteArray.size_extract]; omega) (by omega) (by omega)
        have h3 := hwr.clipped k hk
        unfold StreamPost mTaken mText at this
        simp only [h3] at this
        exact this
      have H9 : Hid (∀ wx, Only (fun _ => False) w wx → Calls Try.prog 10 #[.string (S ++ M), .int .i64 2000] wx fun e w' => ∃ T, e = .returned (.tuple #[.string T, .int .i64 (if M.size = 0 then 0 else 2 : Nat)]) ∧ Only (fun _ => False) wx w') := Lib.hid fun wx ho => by
        have := pall (S ++ M) 2000 wx (by rw [ByteArray.size_append]; omega) (by omega) (by omega)
        rw [hwr.grown M _ (by omega)] at this
        unfold AllPost mAll mTaken mText at this
        simp only [ne_eq, not_true_eq_false, if_false, hwr.taken, ByteArray.size_append] at this
        refine this.mono ?_
        rintro e w' ⟨rfl, ho'⟩
        by_cases hm : M.size = 0
        · rw [if_neg (by omega), if_pos hm]
          exact ⟨_, rfl, ho'⟩
        · rw [if_pos (by omega), if_neg hm]
          exact ⟨_, rfl, ho'⟩
      obtain ⟨zn, rfl⟩ : ∃ zn : Nat, z = (zn : Nat) := ⟨z.toNat, by omega⟩
      obtain ⟨k, hk⟩ : ∃ k, zn % S.size = k := ⟨_, rfl⟩
      have hk1 : k < S.size := by rw [← hk]; exact Nat.mod_lt _ (by omega)
      have hk2 : (zn : Int) % (S.size : Int) = (k : Int) := by omega
      have hk3 : (zn : Int).tmod (S.size : Int) = (k : Int) := by rw [Int.tmod_eq_emod_of_nonneg (by omega)]; exact hk2
      have hsn : ¬ (S.size : Int) = 0 := by omega
      have hsnb : ((S.size : Int) == 0) = false := by rw [beq_eq_false_iff_ne]; exact hsn
      clear o4 t1 t2 hS HTX HL3 HO3 hwr HWR HBE HEL hk
      go_wp2_with fail
      refine H7a.out.mono ?_
      rintro e w5 ⟨rfl, o5⟩
      have HO5 := Lib.hid (HO4.out.trans o5)
      clear o5 H7a HO4
      have H77 := Lib.hid (H7b.out w5 HO5.out k hk1)
      clear H7b
      go_wp2_with fail
      refine H77.out.mono ?_
      rintro e w6 ⟨rfl, o6⟩
      have HO6 := Lib.hid (HO5.out.trans o6)
      clear o6 H77 HO5
      have H99 := Lib.hid (H9.out w6 HO6.out)
      clear H9
      go_wp2_with fail
      refine H99.out.mono ?_
      rintro e w7 ⟨T, rfl, o7⟩
      have HO7 := Lib.hid (HO6.out.trans o7)
      clear o7 H99 HO6
      by_cases hm : M.size = 0
      · obtain rfl : M = ByteArray.empty := ByteArray.size_eq_zero_iff.1 hm
        rw [if_pos hm]
        clear h20 h20n h20d
        go_wp2
        go_ret
        exact ⟨rfl, HO7.out⟩
      · rw [if_neg hm]
        have hmt := toList_ne M hm
        have hme : M.toList.isEmpty = false := by simpa using hmt
        go_wp2
        go_ret
        exact ⟨rfl, HO7.out⟩
    · have herb : (er == 0) = false := by simpa using her
      clear HSE HNL hr
      go_enter Try.func5, Try.ntmps5
      go_wp2_with fail
      refine HAW.out.mono ?_
      rintro e w1 ⟨rfl, o1⟩
      have HO1 := Lib.hid o1
      clear o1 HAW
      go_wp2_with fail
      refine (HEX.out w1 HO1.out).mono ?_
      rintro e w2 ⟨rfl, o2⟩
      have HO2 := Lib.hid (HO1.out.trans o2)
      clear o2 HEX HO1
      go_wp2
      go_ret
      exact ⟨rfl, HO2.out⟩
end Go.Proofs.Ytoclbodmibagpaa
