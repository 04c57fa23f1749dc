/- Layer 9, the program: how each level looks for matches. -/
import Derived.Test.YtgkplmjbjbikmaaSearch
namespace Go.Proofs.Ytgkplmjbjbikmaa
open Go.RowKit

theorem latest (T N O a wd W : Nat) (s : ByteArray) (t : St) (w : World) (h : Tr w T N O s wd W t) (ha : a ≤ s.size) (hk : t.kept ≤ a) :
    Calls Try.prog 20 #[.pointer (some ⟨T, 0, none⟩), .int .i64 a] w (SPost w T N O s wd W (look s.data.toList (markAt s.data.toList wd) 1 t a)) := by
  have HT := Lib.hid h
  obtain ⟨R, hR⟩ : ∃ R, search s.data.toList (markAt s.data.toList wd) 1 t a = R := ⟨_, rfl⟩
  have HR := Lib.hid hR
  have HL : Hid (look s.data.toList (markAt s.data.toList wd) 1 t a = R) := Lib.hid (by unfold look; rw [if_neg (by decide), if_pos rfl, hR])
  clear h hR
  go_enter Try.func20, Try.ntmps20
  go_wp2_with (go_at_call 26; refine (searched T N O a wd W 1 s t _ HT.out (by omega) hk (by omega)).mono ?_; rw [HR.out]; rintro e w1 ⟨rfl, h1, h2⟩; have H1 := Lib.hid h1; have H2 := Lib.hid h2; clear h1 h2)
  go_ret2
  rw [HL.out]
  exact ⟨rfl, H1.out, H2.out⟩
theorem longest (T N O a wd W : Nat) (s : ByteArray) (t : St) (w : World) (h : Tr w T N O s wd W t) (ha : a ≤ s.size) (hk : t.kept ≤ a) :
    Calls Try.prog 21 #[.pointer (some ⟨T, 0, none⟩), .int .i64 a] w (SPost w T N O s wd W (look s.data.toList (markAt s.data.toList wd) 2 t a)) := by
  have HT := Lib.hid h
  obtain ⟨R, hR⟩ : ∃ R, search s.data.toList (markAt s.data.toList wd) 8 t a = R := ⟨_, rfl⟩
  have HR := Lib.hid hR
  have HL : Hid (look s.data.toList (markAt s.data.toList wd) 2 t a = R) := Lib.hid (by unfold look; rw [if_neg (by decide), if_neg (by decide), if_pos rfl, hR])
  clear h hR
  go_enter Try.func21, Try.ntmps21
  go_wp2_with (go_at_call 26; refine (searched T N O a wd W 8 s t _ HT.out (by omega) hk (by omega)).mono ?_; rw [HR.out]; rintro e w1 ⟨rfl, h1, h2⟩; have H1 := Lib.hid h1; have H2 := Lib.hid h2; clear h1 h2)
  go_ret2
  rw [HL.out]
  exact ⟨rfl, H1.out, H2.out⟩
theorem noneC (T N O a wd W : Nat) (s : ByteArray) (t : St) (w : World) (h : Tr w T N O s wd W t) :
    Calls Try.prog 23 #[.pointer (some ⟨T, 0, none⟩), .int .i64 a] w (SPost w T N O s wd W (look s.data.toList (markAt s.data.toList wd) 0 t a)) := by
  have HT := Lib.hid h
  have HL : Hid (look s.data.toList (markAt s.data.toList wd) 0 t a = ((0, 0), t)) := Lib.hid (by unfold look; rw [if_pos rfl])
  clear h
  go_enter Try.func23, Try.ntmps23
  go_wp2
  go_ret2
  rw [HL.out]
  exact ⟨rfl, HT.out, Only.refl _ _⟩
set_option maxHeartbeats 2000000 in
theorem patientC (T N O a wd W : Nat) (s : ByteArray) (t : St) (w : World) (h : Tr w T N O s wd W t) (ha : a ≤ s.size) (hk : t.kept ≤ a) :
    Calls Try.prog 22 #[.pointer (some ⟨T, 0, none⟩), .int .i64 a] w (SPost w T N O s wd W (look s.data.toList (markAt s.data.toList wd) 3 t a)) := by
  have HT := Lib.hid h
  have hs := h.sz
  have b1 : (a : Int) ≤ 16777216 := by omega
  obtain ⟨R, hR⟩ : ∃ R, search s.data.toList (markAt s.data.toList wd) 128 t a = R := ⟨_, rfl⟩
  obtain ⟨v1, v2, v3⟩ := search_valid (markAt s.data.toList wd) 128 a h.good hk
  have v4 := v1.le
  rw [hR] at v3 v4
  obtain ⟨⟨l, b⟩, t1⟩ := R
  simp only at v3 v4
  obtain ⟨A1, hA1⟩ : ∃ A1, a + 1 = A1 := ⟨_, rfl⟩
  have eA : (a : Int) + 1 = (A1 : Int) := by omega
  obtain ⟨Q, hQ⟩ : ∃ Q, search s.data.toList (markAt s.data.toList wd) 128 t1 A1 = Q := ⟨_, rfl⟩
  obtain ⟨⟨l2, b2⟩, t2⟩ := Q
  have HR := Lib.hid hR
  have HQ := Lib.hid hQ
  have HL : Hid (look s.data.toList (markAt s.data.toList wd) 3 t a = if l = 0 ∨ 32 ≤ l then ((l, b), t1) else if l < l2 then ((0, 0), t2) else ((l, b), t2)) := Lib.hid (by
    unfold look
    rw [if_neg (by decide), if_neg (by decide), if_neg (by decide)]
    unfold patient
    simp only [hR, hA1, hQ])
  clear h hR hQ v1 v2
  by_cases h0 : l = 0 ∨ 32 ≤ l
  · have HX : Hid (look s.data.toList (markAt s.data.toList wd) 3 t a = ((l, b), t1)) := Lib.hid (by rw [HL.out, if_pos h0])
    rcases h0 with h0 | h0
    · have g0 : ((l : Int) == 0) = true := by simp [h0]
      go_enter Try.func22, Try.ntmps22
      clear h0
      go_wp2_with (go_at_call 26; refine (searched T N O a wd W 128 s t _ HT.out (by omega) hk (by omega)).mono ?_; rw [HR.out]; rintro e w1 ⟨rfl, h1, h2⟩; have H1 := Lib.hid h1; have H2 := Lib.hid h2; clear h1 h2)
      go_ret2
      rw [HX.out]
      exact ⟨rfl, H1.out, H2.out⟩
    · have g0 : ((l : Int) == 0) = false := by simp; omega
      have g1 : (32 : Int) ≤ (l : Int) := by omega
      go_enter Try.func22, Try.ntmps22
      go_wp2_with (go_at_call 26; refine (searched T N O a wd W 128 s t _ HT.out (by omega) hk (by omega)).mono ?_; rw [HR.out]; rintro e w1 ⟨rfl, h1, h2⟩; have H1 := Lib.hid h1; have H2 := Lib.hid h2; clear h1 h2)
      go_ret2
      rw [HX.out]
      exact ⟨rfl, H1.out, H2.out⟩
  · have g0 : ((l : Int) == 0) = false := by simp; omega
    have g1 : ¬ (32 : Int) ≤ (l : Int) := by omega
    have g2 : ¬ (l : Int) = 0 := by omega
    by_cases h2 : l < l2
    · have HX : Hid (look s.data.toList (markAt s.data.toList wd) 3 t a = ((0, 0), t2)) := Lib.hid (by rw [HL.out, if_neg h0, if_pos h2])
      have g3 : (l : Int) < (l2 : Int) := by omega
      clear h0
      go_enter Try.func22, Try.ntmps22
      go_upto_region 4 with (go_at_call 26; refine (searched T N O a wd W 128 s t _ HT.out (by omega) hk (by omega)).mono ?_; rw [HR.out]; rintro e w1 ⟨rfl, h1, h2⟩; have H1 := Lib.hid h1; have H2 := Lib.hid h2; clear h1 h2)
      go_wp2_with (go_at_call 26; refine (searched T N O A1 wd W 128 s t1 _ H1.out (by omega) (by omega) (by omega)).mono ?_; rw [HQ.out]; rintro e w2 ⟨rfl, h3, h4⟩; have H3 := Lib.hid h3; have H4 := Lib.hid h4; clear h3 h4)
      go_ret2
      rw [HX.out]
      exact ⟨rfl, H3.out, H2.out.trans H4.out⟩
    · have HX : Hid (look s.data.toList (markAt s.data.toList wd) 3 t a = ((l, b), t2)) := Lib.hid (by rw [HL.out, if_neg h0, if_neg h2])
      have g3 : ¬ (l : Int) < (l2 : Int) := by omega
      clear h0
      go_enter Try.func22, Try.ntmps22
      go_upto_region 4 with (go_at_call 26; refine (searched T N O a wd W 128 s t _ HT.out (by omega) hk (by omega)).mono ?_; rw [HR.out]; rintro e w1 ⟨rfl, h1, h2⟩; have H1 := Lib.hid h1; have H2 := Lib.hid h2; clear h1 h2)
      go_wp2_with (go_at_call 26; refine (searched T N O A1 wd W 128 s t1 _ H1.out (by omega) (by omega) (by omega)).mono ?_; rw [HQ.out]; rintro e w2 ⟨rfl, h3, h4⟩; have H3 := Lib.hid h3; have H4 := Lib.hid h4; clear h3 h4)
      go_ret2
      rw [HX.out]
      exact ⟨rfl, H3.out, H2.out.trans H4.out⟩
end Go.Proofs.Ytgkplmjbjbikmaa
