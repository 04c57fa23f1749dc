/- Layer 8: what each law asks first; whether numbers are the same; the walk of InflateAny. -/
import Derived.Test.YtoclbodmibagpaaDStream
namespace Go.Proofs.Ytoclbodmibagpaa
open Go.RowKit

def YesP (w : World) (e : Ending) (w' : World) : Prop := e = .returned (.bool true) ∧ Only (fun _ => False) w w'
set_option maxHeartbeats 2000000 in
theorem lints (A1 A2 : Option Addr) (n c1 c2 B : Nat) (l : List Nat) (w : World) (h1 : See w B A1 (ints l)) (h2 : See w B A2 (ints l)) (hn : l.length = n) (hb : n ≤ 1000000) : Calls Try.prog 13 #[.slice A1 n c1, .slice A2 n c2] w (YesP w) := by
  have H1 := Lib.hid h1
  have H2 := Lib.hid h2
  have HN := Lib.hid hn
  clear h1 h2 hn
  go_enter Try.func13, Try.ntmps13
  go_wp2_with fail
  go_loopg [5, 13] n (fun gk u i wx => ∃ (k : Nat), i = .int .i64 k ∧ k + gk ≤ n ∧ n ≤ k + gk ∧ ∃ m, wx = w.drewN m)
  case atStart => exact ⟨0, rfl, by omega, by omega, 0, rfl⟩
  case round =>
    obtain ⟨k, rfl, hk, hk2, m, rfl⟩ := hrel
    by_cases hlt : k < n
    · obtain ⟨b1, o1, rfl, _, d1⟩ := H1.out k _ (ints_at l k (by rw [HN.out]; exact hlt))
      obtain ⟨b2, o2, rfl, _, d2⟩ := H2.out k _ (ints_at l k (by rw [HN.out]; exact hlt))
      obtain ⟨y, hy⟩ : ∃ y, ln l k = y := ⟨_, rfl⟩
      rw [hy] at d1 d2
      have hk3 : (k : Int) < (n : Int) := by omega
      go_wp2_with fail
      go_quiet (fail)
      go_wp2_with fail
      go_roundg (gk - 1)
      case measure => omega
      case rel => exact ⟨k + 1, by go_num, by omega, by omega, m + nq, by simp⟩
    · go_wp2
      go_ret
      exact ⟨rfl, (Only.refl _ w).drewN m⟩

theorem awake1 : mStream (bitsOf [3, 0]) 9 = (0, 10, [], [1]) := by kernel_rfl
theorem awake2 : mStream (bitsOf [1, 2, 0, 253, 255, 97, 98]) 2 = (0, 56, [97, 98], [0]) := by kernel_rfl
theorem awake3 : mStream (bitsOf [3, 0]) 0 = (0, 10, [], [1]) := by kernel_rfl
theorem awake4 : mStream (bitsOf []) 9 = (3, 0, [], []) := by kernel_rfl

def k30 : ByteArray := ⟨#[3, 0]⟩
def kab : ByteArray := ⟨#[1, 2, 0, 253, 255, 97, 98]⟩
def kno : ByteArray := ⟨#[]⟩
set_option maxRecDepth 100000 in
set_option maxHeartbeats 4000000 in
theorem awake (w : World) : Calls Try.prog 7 #[] w (YesP w) := by
  have H1 : Hid (Calls Try.prog 8 #[.string k30, .int .i64 9] w fun e w' => e = .returned (.tuple #[.string ⟨#[]⟩, .int .i64 2, .int .i64 0]) ∧ Only (fun _ => False) w w') := Lib.hid (by
    have := pstream k30 9 w (by decide) (by decide) (by decide)
    rw [show bitsOf k30.data.toList = bitsOf [3, 0] from rfl, awake1] at this
    exact this)
  have H2 : Hid (∀ wx, Only (fun _ => False) w wx → Calls Try.prog 10 #[.string kab, .int .i64 2] wx fun e w' => e = .returned (.tuple #[.string ⟨#[97, 98]⟩, .int .i64 0]) ∧ Only (fun _ => False) wx w') := Lib.hid fun wx ho => by
    have := pall kab 2 wx (by decide) (by decide) (by decide)
    rw [show bitsOf kab.data.toList = bitsOf [1, 2, 0, 253, 255, 97, 98] from rfl, awake2] at this
    exact this
  have H3 : Hid (∀ wx, Only (fun _ => False) w wx → Calls Try.prog 12 #[.string k30, .int .i64 0] wx fun e w' => ∃ g off c, e = .returned (.tuple #[.slice (some ⟨g, off, none⟩) 1 c, .int .i64 0]) ∧ w'.cell? ⟨g, off, none⟩ = some (.int .i64 1) ∧ Only (fun _ => False) wx w') := Lib.hid fun wx ho => by
    have := pblocks k30 0 wx (by decide) (by decide) (by decide)
    rw [show bitsOf k30.data.toList = bitsOf [3, 0] from rfl, awake3] at this
    refine this.mono ?_
    rintro e w' ⟨A, c, rfl, hs, ho'⟩
    obtain ⟨b, off, rfl, _, hc⟩ := hs 0 (.int .i64 1) rfl
    exact ⟨b, off, c, rfl, hc, ho'⟩
  have H4 : Hid (∀ wx, Only (fun _ => False) w wx → Calls Try.prog 8 #[.string kno, .int .i64 9] wx fun e w' => e = .returned (.tuple #[.string ByteArray.empty, .int .i64 0, .int .i64 3]) ∧ Only (fun _ => False) wx w') := Lib.hid fun wx ho => by
    have := pstream kno 9 wx (by decide) (by decide) (by decide)
    rw [show bitsOf kno.data.toList = bitsOf [] from rfl, awake4] at this
    exact this
  unfold k30 at H1 H3
  unfold kab at H2
  unfold kno at H4
  go_enter Try.func7, Try.ntmps7
  go_wp2_with fail
  refine H1.out.mono ?_
  rintro e w1 ⟨rfl, o1⟩
  have HO1 := Lib.hid o1
  clear o1 H1
  go_wp2_with fail
  refine (H2.out w1 HO1.out).mono ?_
  rintro e w2 ⟨rfl, o2⟩
  have HO2 := Lib.hid (HO1.out.trans o2)
  clear o2 H2 HO1
  go_wp2_with fail
  refine (H3.out w2 HO2.out).mono ?_
  rintro e w3 ⟨g, off, c, rfl, c3, o3⟩
  have HO3 := Lib.hid (HO2.out.trans o3)
  have HC3 : Hid (∀ wx, Only (fun _ => False) w3 wx → wx.cell? ⟨g, off, none⟩ = some (.int .i64 1)) := Lib.hid fun wx ho => ho.cell c3 fun f => f
  clear o3 H3 HO2 c3
  go_wp2_with fail
  refine (H4.out w3 HO3.out).mono ?_
  rintro e w4 ⟨rfl, o4⟩
  have c4 := HC3.out w4 o4
  have HO4 := Lib.hid (HO3.out.trans o4)
  clear o4 H4 HO3 HC3
  go_wp2
  go_ret
  exact ⟨rfl, HO4.out⟩

set_option maxRecDepth 100000 in
set_option maxHeartbeats 4000000 in
theorem anyWalk (s : ByteArray) (most : Int) (w : World) (hlow : -9223372036854775808 ≤ most) : Calls Try.prog 3 #[.string s, .int .i64 most] w (YesP w) := by
  have HAW := Lib.hid (awake w)
  by_cases hs : 200 < s.size
  · have hsi : (200 : Int) < (s.size : Int) := by omega
    go_enter Try.func3, Try.ntmps3
    go_wp2_with fail
    refine HAW.out.mono ?_
    rintro e w1 ⟨rfl, o1⟩
    have HO1 := Lib.hid o1
    clear o1 HAW
    go_wp2
    go_ret
    exact ⟨rfl, HO1.out⟩
  · have hsi : ¬ (200 : Int) < (s.size : Int) := by omega
    have hsd : decide ((200 : Int) < (s.size : Int)) = false := by simp; omega
    by_cases hm : 2000 < most
    · skip
      go_enter Try.func3, Try.ntmps3
      go_wp2_with fail
      refine HAW.out.mono ?_
      rintro e w1 ⟨rfl, o1⟩
      have HO1 := Lib.hid o1
      clear o1 HAW
      go_wp2
      go_ret
      exact ⟨rfl, HO1.out⟩
    · have hmd : decide ((2000 : Int) < most) = false := by simp; omega
      have hok := mStream_ok (bitsOf s.data.toList) most 100000 (by omega)
      rw [bits_len] at hok
      have H1 : Hid (∀ wx, Only (fun _ => False) w wx → Calls Try.prog 8 #[.string s, .int .i64 most] wx (StreamPost wx (mStream (bitsOf s.data.toList) most))) := Lib.hid fun wx ho => pstream s most wx (by omega) (by omega) hlow
      have H2 : Hid (∀ wx, Calls Try.prog 9 #[.string s, .int .i64 most] wx (DStrPost wx (mStream (bitsOf s.data.toList) most))) := Lib.hid fun wx => dstream s most wx (by omega) (by omega)
      have H3 : Hid (∀ wx, Only (fun _ => False) w wx → Calls Try.prog 10 #[.string s, .int .i64 most] wx (AllPost wx (mAll s.size (mStream (bitsOf s.data.toList) most)))) := Lib.hid fun wx ho => pall s most wx (by omega) (by omega) hlow
      have H4 : Hid (∀ wx, Calls Try.prog 11 #[.string s, .int .i64 most] wx (AllPost wx (mAll s.size (mStream (bitsOf s.data.toList) most)))) := Lib.hid fun wx => dall s most wx (by omega) (by omega)
      have H5 : Hid (∀ wx, Only (fun _ => False) w wx → Calls Try.prog 12 #[.string s, .int .i64 most] wx (KindsPost wx (mStream (bitsOf s.data.toList) most))) := Lib.hid fun wx ho => pblocks s most wx (by omega) (by omega) hlow
      obtain ⟨r, hr⟩ : ∃ r, mStream (bitsOf s.data.toList) most = r := ⟨_, rfl⟩
      rw [hr] at H1 H2 H3 H4 H5 hok
      have hkl : (mKinds r).length ≤ 1000000 := by
        unfold mKinds
        split
        · simp
        · rename_i h0
          have := (hok (by omega)).2.2
          omega
      unfold StreamPost at H1
      unfold DStrPost at H2
      unfold AllPost at H3 H4
      unfold KindsPost at H5
      obtain ⟨t, ht⟩ : ∃ t, mText r = t := ⟨_, rfl⟩
      obtain ⟨k, hk⟩ : ∃ k, mTaken r = k := ⟨_, rfl⟩
      obtain ⟨l, hl⟩ : ∃ l, mKinds r = l := ⟨_, rfl⟩
      obtain ⟨x, hx⟩ : ∃ x, r.1 = x := ⟨_, rfl⟩
      obtain ⟨⟨t2, x2⟩, hq⟩ : ∃ q, mAll s.size r = q := ⟨_, rfl⟩
      rw [ht, hk, hx] at H1
      rw [ht, hk, hl, hx] at H2
      rw [hq] at H3 H4
      rw [hl, hx] at H5
      rw [hl] at hkl
      simp only at H3 H4
      obtain ⟨n, hn⟩ : ∃ n, l.length = n := ⟨_, rfl⟩
      rw [hn] at H2 H5 hkl
      have HNN := Lib.hid hn
      clear hok hr ht hk hl hx hq hn
      go_enter Try.func3, Try.ntmps3
      go_wp2_with fail
      refine HAW.out.mono ?_
      rintro e w1 ⟨rfl, o1⟩
      have HO1 := Lib.hid o1
      clear o1 HAW
      go_wp2_with fail
      refine (H1.out w1 HO1.out).mono ?_
      rintro e w2 ⟨rfl, o2⟩
      have HO2 := Lib.hid (HO1.out.trans o2)
      clear o2 H1 HO1
      go_wp2_with fail
      refine (H2.out w2).mono ?_
      rintro e w3 ⟨Ak, ck, rfl, s3, o3⟩
      have HS3 := Lib.hid s3
      have HO3 := Lib.hid (HO2.out.trans o3)
      clear o3 s3 H2 HO2
      go_wp2_with fail
      refine (H3.out w3 HO3.out).mono ?_
      rintro e w4 ⟨rfl, o4⟩
      have HO34 := Lib.hid o4
      have HO4 := Lib.hid (HO3.out.trans o4)
      clear o4 H3
      go_wp2_with fail
      refine (H4.out w4).mono ?_
      rintro e w5 ⟨rfl, o5⟩
      have HO35 := Lib.hid (HO34.out.trans o5)
      have HO5 := Lib.hid (HO4.out.trans o5)
      clear o5 H4 HO34 HO4
      go_wp2_with fail
      refine (H5.out w5 HO5.out).mono ?_
      rintro e w6 ⟨A6, c6, rfl, s6, o6⟩
      have o36 := HO35.out.trans o6
      have HLI := Lib.hid (lints A6 Ak n c6 ck _ l w6 s6 ((HS3.out.new o36).more o36.size) HNN.out hkl)
      have HO6 := Lib.hid (HO5.out.trans o6)
      clear o6 H5 HO5 HO35 s6 o36 HS3 HO3
      go_wp2_with fail
      refine HLI.out.mono ?_
      rintro e w7 ⟨rfl, o7⟩
      have HO7 := Lib.hid (HO6.out.trans o7)
      clear o7 HLI HO6
      go_wp2
      go_ret
      exact ⟨rfl, HO7.out⟩
end Go.Proofs.Ytoclbodmibagpaa
