/- Layer 6: Free, in the program and in the document; the document's Check of layer 5 on lengths that fit. -/
import Derived.Test.YtjbohidkjlnalaaDepths
namespace Go.Proofs.Ytjbohidkjlnalaa
open Go.RowKit

set_option maxHeartbeats 4000000 in
theorem free_yes (A : Option Addr) (n k B : Nat) (c : List Nat) (w : World) (h : See w B A (ints c)) (hB : B ≤ w.heap.size) (hn : c.length = n) (h40 : n ≤ 40) (hl : Low c) :
    Calls Try.prog 13 #[.slice A n k] w (LensPost w c n 40 40 freeOf) := by
  have HAl := Lib.hid (allowed_yes A n k B c w h hn (by omega) hl)
  have HCo := Lib.hid (coming A n k B c w h hB hn (by omega))
  have HS := Lib.hid h
  have HN := Lib.hid hn
  have HL := Lib.hid hl
  clear h hn hl
  go_enter Try.func13, Try.ntmps13
  go_wp2_with fail
  refine HAl.out.mono ?_
  rintro e w1 ⟨rfl, rfl⟩
  go_wp2_with fail
  refine HCo.out.mono ?_
  rintro e w1 ⟨As, cap, ss, rfl, ho1, hperm, hsee, hrise⟩
  have hlt : ∀ x ∈ ss, x < n := fun x hx => by rw [← HN.out]; exact syms_lt c _ x (hperm.mem_iff.1 hx)
  have hmn : ss.length ≤ n := by rw [hperm.length_eq, ← HN.out]; exact syms_length c _
  obtain ⟨m, hm2⟩ : ∃ m, ss.length = m := ⟨_, rfl⟩
  rw [hm2] at hmn
  have HC2 := Lib.hid (countsOf A As n k m cap B _ c ss w1 (HS.out.new ho1) hsee HN.out hm2 hlt (by omega))
  have HO1 := Lib.hid ho1
  have HPm := Lib.hid hperm
  have HSe := Lib.hid hsee
  have HRi := Lib.hid hrise
  have HLt := Lib.hid hlt
  have HM2 := Lib.hid hm2
  rw [hm2]
  clear ho1 hperm hsee hrise hlt hm2 HAl HCo
  go_wp2_with fail
  refine HC2.out.mono ?_
  rintro e w2 ⟨g2, rfl, hm3⟩
  have hwl : (ss.map (ln c)).length = m := by rw [List.length_map, HM2.out]
  rw [hwl] at hm3 ⊢
  have HM3 := Lib.hid hm3
  have HD : Hid (Calls Try.prog 25 #[.slice (some ⟨g2, 0, none⟩) m m] w2 (DPost w2 (ss.map (ln c)) m)) := Lib.hid (by
    by_cases h2 : m < 2
    · exact depths_few _ m m _ w2 h2
    · exact depths _ m m _ (ss.map (ln c)) w2 hm3.see hwl (by omega) (by omega) HRi.out ((Wt.of HPm.out HRi.out).low HL.out))
  clear hm3 HC2 hwl
  go_wp2_with fail
  refine HD.out.mono ?_
  rintro e w3 ⟨A3, c3, dl, rfl, hm4, hdll, hcase⟩
  have HF := Lib.hid (fitted As A3 n m cap c3 _ _ ss dl w3 (HSe.out.new (HM3.out.2.1.trans hm4.2.1)) hm4.see HM2.out hdll HLt.out (by omega) (by omega))
  have HO4 := Lib.hid (HO1.out.trans (HM3.out.2.1.trans hm4.2.1))
  have HG : Hid (Good c (fit n ss dl m) 40 40 (freeOf (ss.map (ln c)))) := Lib.hid (by
    rcases hcase with ⟨h2, hd⟩ | ⟨h2, s, ab, D, q, hw, hq, hs, hd, hDl, hsm, hde⟩
    · have := few_good HPm.out (by rw [HM2.out]; exact h2)
      rw [HM2.out, HN.out, ← hd] at this
      exact this
    · have := tree_good (s := s) (ab := ab) (D := D) (q := q) HPm.out (by rw [HM2.out]; omega) (by rw [HM2.out]; exact h2) (by rw [HM2.out]; exact hw) hq (by rw [HM2.out]; exact hs) (by rw [HM2.out]; exact hd) (by rw [HM2.out]; exact hDl) (by rw [HM2.out]; exact hsm)
      rw [HM2.out, HN.out, ← hde] at this
      exact this)
  clear hm4 HD hdll hcase
  go_wp2_with fail
  refine HF.out.mono ?_
  rintro e w4 ⟨g4, rfl, hm5⟩
  have HZ : Hid (LensPost w c n 40 40 freeOf (.returned (.tuple #[.slice (some ⟨g4, 0, none⟩) n n, .int .i64 0])) w4) := Lib.hid ⟨g4, _, rfl, ⟨hm5.1, HO4.out.trans hm5.2.1, fun j hj => Nat.le_trans HO4.out.size (hm5.2.2 j hj)⟩, Good.same (least := freeOf) HPm.out HRi.out HG.out⟩
  clear hm5 HF HG
  go_wp2
  go_ret2
  exact HZ.out

theorem free_no (A : Option Addr) (n k : Nat) (w : World) (h : Calls Try.prog 16 #[.slice A n k] w fun e w' => e = .returned (.bool false) ∧ w = w') : Calls Try.prog 13 #[.slice A n k] w (Refused w) := by
  have HAl := Lib.hid h
  clear h
  go_enter Try.func13, Try.ntmps13
  go_wp2_with fail
  refine HAl.out.mono ?_
  rintro e w1 ⟨rfl, rfl⟩
  go_wp2
  go_ret2
  exact ⟨rfl, Only.refl _ _⟩
theorem rightX (A : Option Addr) (n k : Nat) (b : Bool) (w : World) (h : Calls Try.prog 21 #[.slice A n k] w fun e w' => e = .returned (.bool b) ∧ w = w') : Calls Try.prog 14 #[.slice A n k] w fun e w' => e = .returned (.bool b) ∧ w = w' := by
  have HAl := Lib.hid h
  clear h
  go_enter Try.func14, Try.ntmps14
  go_wp2_with fail
  refine HAl.out.mono ?_
  rintro e w1 ⟨rfl, rfl⟩
  go_wp2
  go_ret
  exact ⟨rfl, rfl⟩

theorem right5 (A : Option Addr) (n c B : Nat) (l : List Nat) (w : World) (h : See w B A (ints l)) (hn : l.length = n) (h288 : n ≤ 288) (hl : ∀ i, ln l i ≤ 15) :
    Calls Try.prog 23 #[.slice A n c] w fun e w' => e = .returned (.bool true) ∧ w = w' := by
  have HS := Lib.hid h
  have HL := Lib.hid hl
  have HN := Lib.hid hn
  clear h hl hn
  go_enter Try.func23, Try.ntmps23
  go_wp2_with fail
  go_loopg [3] n (fun gk i wx => ∃ k : Nat, i = .int .i64 k ∧ k + gk ≤ n ∧ n ≤ k + gk ∧ wx = w)
  case atStart => exact ⟨0, rfl, by omega, by omega, rfl⟩
  case round =>
    obtain ⟨k, rfl, hk, hk2, rfl⟩ := hrel
    by_cases hlt : k < n
    · obtain ⟨b, off, rfl, _, hc⟩ := HS.out k _ (ints_at l k (by rw [HN.out]; exact hlt))
      have hx := HL.out k
      obtain ⟨x, hx1⟩ : ∃ x, ln l k = x := ⟨_, rfl⟩
      rw [hx1] at hx hc
      have d1 : decide ((x : Int) < 0) = false := by simp
      have d2 : decide (15 < (x : Int)) = false := by simp; omega
      clear hx1
      go_wp2_with fail
      go_roundg (gk - 1)
      case measure => omega
      case rel => exact ⟨k + 1, by go_num, by omega, by omega, rfl⟩
    · go_wp2
      go_ret
      exact ⟨rfl, rfl⟩
/-- The last length that is none. -/
def lastNz (L : List Nat) : Nat → Nat
  | 0 => 0
  | k + 1 => if ln L k = 0 then lastNz L k else ln L k
def Kinds (c : List Nat) (w : World) (e : Ending) (w' : World) : Prop := ∃ kind : Nat, e = .returned (.tuple #[.int .i64 (kind : Nat), .int .i64 0]) ∧ (2 ≤ some_ c → kind = 0) ∧ (some_ c = 1 → kind = 1) ∧ w = w'
theorem pw_step (x d : Nat) (hx : 0 < x) (hd : x + d = 15) : pw 15 x = 2 ^ d := by
  unfold pw
  rw [if_neg (by omega), show 15 - x = d from by omega]

set_option maxRecDepth 10000 in
set_option maxHeartbeats 8000000 in
theorem checkRef (A : Option Addr) (n k B most cost : Nat) (c L : List Nat) (w : World) (h : See w B A (ints L)) (hn : c.length = n) (h288 : n ≤ 288) (hg : Good c L 15 most cost) (hm15 : most ≤ 15) :
    Calls Try.prog 9 #[.slice A n k] w (Kinds c w) := by
  have hLn : L.length = n := by rw [hg.len]; exact hn
  have hL15 : ∀ i, ln L i ≤ 15 := fun i => Nat.le_trans (hg.top i) hm15
  have HR := Lib.hid (right5 A n k B L w h hLn h288 hL15)
  have HS := Lib.hid h
  have HN := Lib.hid hn
  have HLn := Lib.hid hLn
  have HG := Lib.hid hg
  have HL := Lib.hid hL15
  clear h hn hLn hg hL15
  go_enter Try.func9, Try.ntmps9
  go_wp2_with fail
  refine HR.out.mono ?_
  rintro e w1 ⟨rfl, rfl⟩
  clear HR
  go_wp2_with fail
  go_loopg [4, 5, 6, 7] n (fun gk v4 v5 v6 i wx => ∃ j f m o : Nat, i = .int .i64 j ∧ v4 = .int .i64 f ∧ v5 = .int .i64 m ∧ v6 = .int .i64 o ∧ j + gk ≤ n ∧ n ≤ j + gk ∧ m ≤ j ∧ f ≤ j * 32768 ∧ Hid (sumTo j (fun s => pw 15 (ln L s)) = f) ∧ Hid (sumTo j (fun s => nz (ln L s)) = m) ∧ Hid (lastNz L j = o) ∧ wx = w)
  case atStart => exact ⟨0, 0, 0, 0, rfl, rfl, rfl, rfl, by omega, by omega, by omega, by omega, Lib.hid rfl, Lib.hid rfl, Lib.hid rfl, rfl⟩
  case round =>
    obtain ⟨j, f, m, o, rfl, rfl, rfl, rfl, hg1, hg2, hmj, hf, HP, HM, HO, rfl⟩ := hrel
    obtain ⟨gO, hgO⟩ : ∃ gO, gk = gO := ⟨_, rfl⟩
    by_cases hlt : j < n
    · obtain ⟨b, off, rfl, _, hc⟩ := HS.out j _ (ints_at L j (by rw [HLn.out]; exact hlt))
      have hx := HL.out j
      have s1 : sumTo (j + 1) (fun s => pw 15 (ln L s)) = f + pw 15 (ln L j) := by rw [sumTo, HP.out]
      have s2 : sumTo (j + 1) (fun s => nz (ln L s)) = m + nz (ln L j) := by rw [sumTo, HM.out]
      have s3 : lastNz L (j + 1) = if ln L j = 0 then o else ln L j := by rw [lastNz, HO.out]
      obtain ⟨x, hx1⟩ : ∃ x, ln L j = x := ⟨_, rfl⟩
      rw [hx1] at hc hx s1 s2 s3
      clear hx1
      by_cases h0 : x = 0
      · subst h0
        have S1 : Hid (sumTo (j + 1) (fun s => pw 15 (ln L s)) = f) := Lib.hid (by rw [s1]; simp [pw])
        have S2 : Hid (sumTo (j + 1) (fun s => nz (ln L s)) = m) := Lib.hid (by rw [s2]; simp [nz])
        have S3 : Hid (lastNz L (j + 1) = o) := Lib.hid (by rw [s3, if_pos rfl])
        clear s1 s2 s3
        have hf1 : f ≤ (j + 1) * 32768 := Nat.le_trans hf (Nat.mul_le_mul_right _ (Nat.le_succ j))
        go_wp2_with fail
        go_roundg (gk - 1)
        case measure => omega
        case rel => exact ⟨j + 1, f, m, o, by go_num, rfl, rfl, rfl, by omega, by omega, by omega, hf1, S1, S2, S3, rfl⟩
      · have hx0 : ¬ (x : Int) = 0 := by omega
        have S2 : Hid (sumTo (j + 1) (fun s => nz (ln L s)) = m + 1) := Lib.hid (by rw [s2]; unfold nz; rw [if_neg h0])
        have S3 : Hid (lastNz L (j + 1) = x) := Lib.hid (by rw [s3, if_neg h0])
        have S1 := Lib.hid s1
        clear s1 s2 s3
        go_wp2_with fail
        go_loopg [8, 9] (15 - x) (fun gk v8 v9 wx => ∃ d P : Nat, v8 = .int .i64 P ∧ v9 = .int .i64 (x + d : Nat) ∧ x + d + gk = 15 ∧ P ≤ 32768 ∧ Hid (2 ^ d = P) ∧ wx = wr)
        case atStart => exact ⟨0, 1, rfl, rfl, by omega, by omega, Lib.hid rfl, rfl⟩
        case round =>
          obtain ⟨d, P, rfl, rfl, hd, hP, HPd, rfl⟩ := hrel
          obtain ⟨y, hy⟩ : ∃ y, x + d = y := ⟨_, rfl⟩
          rw [hy]
          by_cases hy15 : y < 15
          · have hp1 : 2 ^ (d + 1) = 2 * P := by rw [Nat.pow_succ, HPd.out]; omega
            have hp2 : 2 ^ (d + 1) ≤ 2 ^ 15 := Nat.pow_le_pow_right (by decide) (by omega)
            rw [hp1] at hp2
            have HP1 := Lib.hid hp1
            clear hp1
            go_wp2_with fail
            go_roundg (gk - 1)
            case measure => omega
            case rel => exact ⟨d + 1, 2 * P, by go_num, by rw [show x + (d + 1) = y + 1 from by omega]; go_num, by omega, by omega, HP1, rfl⟩
          · have S4 : Hid (sumTo (j + 1) (fun s => pw 15 (ln L s)) = f + P) := Lib.hid (by rw [S1.out, pw_step x d (by omega) (by omega), HPd.out])
            go_wp2_with fail
            go_roundg (gO - 1)
            case measure => omega
            case rel => exact ⟨j + 1, f + P, m + 1, x, by go_num, by go_num, by go_num, rfl, by omega, by omega, by omega, by omega, S4, S2, S3, rfl⟩
    · obtain rfl : j = n := by omega
      have hnum := HG.out.num
      have hfull := HG.out.full
      have hlone := HG.out.lone
      rw [HN.out, HM.out] at hnum
      rw [HN.out, HP.out] at hfull
      have hs : some_ c = m := hnum.symm
      have ho1 : some_ c = 1 → o = 1 ∨ o = 0 := fun h1 => by
        have h2 := hlone h1
        have key : ∀ q, lastNz L q ≤ 1 := by
          intro q
          induction q with
          | zero => exact Nat.zero_le _
          | succ q ih =>
            rw [lastNz]
            split
            · exact ih
            · exact h2 q
        have := key j
        rw [HO.out] at this
        omega
      have ho0 : m ≠ 0 → o ≠ 0 := fun hm e => by
        have key : ∀ q, lastNz L q = 0 → sumTo q (fun s => nz (ln L s)) = 0 := by
          intro q
          induction q with
          | zero => intro _; rfl
          | succ q ih =>
            intro h1
            rw [lastNz] at h1
            split at h1
            · rename_i h2
              rw [sumTo, ih h1, h2]
              rfl
            · omega
        exact hm (by rw [← HM.out]; exact key j (by rw [HO.out]; exact e))
      rcases Nat.lt_trichotomy m 1 with h1 | h1 | h1
      · obtain rfl : m = 0 := by omega
        have HZ : Hid (Kinds c wr (.returned (.tuple #[.int .i64 2, .int .i64 0])) wr) := Lib.hid ⟨2, rfl, fun h => by omega, fun h => by omega, rfl⟩
        clear hnum hfull hlone ho1 ho0 hs
        go_wp2
        go_ret2
        exact HZ.out
      · subst h1
        obtain rfl : o = 1 := by
          have := ho0 (by omega)
          rcases ho1 hs with h | h <;> omega
        have HZ : Hid (Kinds c wr (.returned (.tuple #[.int .i64 1, .int .i64 0])) wr) := Lib.hid ⟨1, rfl, fun h => by omega, fun h => rfl, rfl⟩
        clear hnum hfull hlone ho1 ho0 hs
        go_wp2
        go_ret2
        exact HZ.out
      · have hf2 : f = 32768 := hfull (by unfold some_ at hs; omega)
        subst hf2
        have hm0 : ¬ (m : Int) = 0 := by omega
        have hm1 : ¬ (m : Int) = 1 := by omega
        have dm1 : ((m : Int) == 1) = false := by simpa using hm1
        have HZ : Hid (Kinds c wr (.returned (.tuple #[.int .i64 0, .int .i64 0])) wr) := Lib.hid ⟨0, rfl, fun h => rfl, fun h => by omega, rfl⟩
        clear hnum hfull hlone ho1 ho0 hs
        go_wp2
        go_ret2
        exact HZ.out
end Go.Proofs.Ytjbohidkjlnalaa
