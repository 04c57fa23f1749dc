/- Layer 8, the program: numbers of the stream's reader; whether there is room. -/
import Derived.Test.YtackcgiokkbhdaaDoorM7
import Derived.Test.YtackcgiokkbhdaaDoorM8
import Derived.Test.YtackcgiokkbhdaaDoorM9
namespace Go.Proofs.YtackcgiokkbhdaaDoor
open Go.RowKit

theorem Only.cell {S : Nat → Prop} {w w' : World} {a : Addr} {v : Value} (k : Only S w w') (h : w.cell? a = some v) (hs : ¬ S a.block) : w'.cell? a = some v := (World.cell?_of_block (k.block _ (cell_lt h) hs)).trans h
theorem nm_of (s : ByteArray) (a n : Nat) : le s.data.toList / 2 ^ a % 2 ^ n = nm (bitsOf s.data.toList) a n := by unfold nm; rw [le2_bitsOf]

/-- A number that is read: its value, an error or 0; where the reader stands behind it. -/
def ValPost (w : World) (b : Nat) (s : ByteArray) (r : Nat × Nat × Nat) (e : Ending) (w' : World) : Prop :=
  e = .returned (.tuple #[.int .i64 r.2.2, .int .i64 r.1]) ∧ (r.1 = 0 → Rd w' b s r.2.1 false) ∧ Only (· = b) w w'
def mAbove (B : List UInt8) (a x v : Nat) : Nat × Nat × Nat := if B.length < a + v then (3, a, 0) else (0, a + v, x + nm B a v)

set_option maxRecDepth 20000 in
set_option maxHeartbeats 1000000 in
theorem above (b d : Nat) (s : ByteArray) (a x v : Nat) (w : World) (hc : w.cell? ⟨d, 0, none⟩ = some (.pointer (some ⟨b, 0, none⟩))) (hbd : d ≠ b) (hr : Rd w b s a false) (hs : s.size ≤ 1073741824) (ha : a ≤ 8 * s.size) (hv : v ≤ 16) (hx : x ≤ 100000) :
    Calls Tryd.prog 83 #[.pointer (some ⟨d, 0, none⟩), .int .i64 x, .int .i64 v] w (ValPost w b s (mAbove (bitsOf s.data.toList) a x v)) := by
  unfold mAbove
  rw [bits_len]
  by_cases hlt : 8 * s.size < a + v
  · rw [if_pos hlt]
    have HB := Lib.hid (bits_short b s a w v hr hs ha (.inr (.inr (by omega))))
    have HK : Hid (∀ w2, Only (· = b) w w2 → w2.cell? ⟨d, 0, none⟩ = some (.pointer (some ⟨b, 0, none⟩))) := Lib.hid fun w2 ho => ho.cell hc hbd
    clear hr hlt
    go_enter Tryd.func83, Tryd.ntmps83
    go_wp2_with fail
    refine HB.out.mono ?_
    rintro e w2 ⟨rfl, hi2, ho2⟩
    have c2 := HK.out w2 ho2
    have HI := Lib.hid hi2
    have HO := Lib.hid ho2
    clear hi2 ho2 hc
    go_wp2_with fail
    refine (err b s a true w2 HI.out).mono ?_
    rintro e w3 ⟨rfl, rfl⟩
    go_wp2
    go_ret2
    exact ⟨rfl, fun h => (by cases h), HO.out⟩
  · rw [if_neg hlt]
    have HB := Lib.hid (bits_ok b s a v w hr hs (by omega) (by omega))
    have HK : Hid (∀ w2, Only (· = b) w w2 → w2.cell? ⟨d, 0, none⟩ = some (.pointer (some ⟨b, 0, none⟩))) := Lib.hid fun w2 ho => ho.cell hc hbd
    have hy := nm_lt (bitsOf s.data.toList) a v
    have hp : 2 ^ v ≤ 2 ^ 16 := Nat.pow_le_pow_right (by decide) hv
    unfold BitsPost at HB
    rw [nm_of] at HB
    obtain ⟨y, hy2⟩ : ∃ y, nm (bitsOf s.data.toList) a v = y := ⟨_, rfl⟩
    rw [hy2] at HB hy ⊢
    have hy3 : y ≤ 65536 := by omega
    clear hr hlt hy hp hy2
    go_enter Tryd.func83, Tryd.ntmps83
    go_wp2_with fail
    refine HB.out.mono ?_
    rintro e w2 ⟨rfl, hi2, ho2⟩
    have c2 := HK.out w2 ho2
    have HI := Lib.hid hi2
    have HO := Lib.hid ho2
    clear hi2 ho2 hc
    go_wp2_with fail
    refine (err b s (a + v) false w2 HI.out).mono ?_
    rintro e w3 ⟨rfl, rfl⟩
    go_wp2
    go_ret2
    exact ⟨rfl, fun _ => HI.out, HO.out⟩

/-- How often a length is repeated. -/
theorem times (b d : Nat) (s : ByteArray) (a y : Nat) (w : World) (hc : w.cell? ⟨d, 0, none⟩ = some (.pointer (some ⟨b, 0, none⟩))) (hbd : d ≠ b) (hr : Rd w b s a false) (hs : s.size ≤ 1073741824) (ha : a ≤ 8 * s.size) (h16 : 16 ≤ y) (h18 : y ≤ 18) :
    Calls Tryd.prog 77 #[.pointer (some ⟨d, 0, none⟩), .int .i64 y] w (ValPost w b s (mAbove (bitsOf s.data.toList) a (tv y) (tw y))) := by
  have HA : Hid (∀ x v, v ≤ 16 → x ≤ 100000 → Calls Tryd.prog 83 #[.pointer (some ⟨d, 0, none⟩), .int .i64 (x : Nat), .int .i64 (v : Nat)] w (ValPost w b s (mAbove (bitsOf s.data.toList) a x v))) := Lib.hid fun x v hv hx => above b d s a x v w hc hbd hr hs ha hv hx
  clear hc hbd hr hs ha
  obtain h | h | h : y = 16 ∨ y = 17 ∨ y = 18 := by omega
  · subst h
    have h1 := HA.out 3 2 (by decide) (by decide)
    rw [show tv 16 = 3 from rfl, show tw 16 = 2 from rfl]
    obtain ⟨r, hr⟩ : ∃ r, mAbove (bitsOf s.data.toList) a 3 2 = r := ⟨_, rfl⟩
    rw [hr] at h1 ⊢
    have H1 := Lib.hid h1
    clear h1 hr HA
    go_enter Tryd.func77, Tryd.ntmps77
    go_wp2_with fail
    refine H1.out.mono ?_
    rintro e w2 ⟨rfl, h2⟩
    have H2 := Lib.hid h2
    clear h2
    go_wp2
    go_ret2
    exact ⟨rfl, H2.out⟩
  · subst h
    have h1 := HA.out 3 3 (by decide) (by decide)
    rw [show tv 17 = 3 from rfl, show tw 17 = 3 from rfl]
    obtain ⟨r, hr⟩ : ∃ r, mAbove (bitsOf s.data.toList) a 3 3 = r := ⟨_, rfl⟩
    rw [hr] at h1 ⊢
    have H1 := Lib.hid h1
    clear h1 hr HA
    go_enter Tryd.func77, Tryd.ntmps77
    go_wp2_with fail
    refine H1.out.mono ?_
    rintro e w2 ⟨rfl, h2⟩
    have H2 := Lib.hid h2
    clear h2
    go_wp2
    go_ret2
    exact ⟨rfl, H2.out⟩
  · subst h
    have h1 := HA.out 11 7 (by decide) (by decide)
    rw [show tv 18 = 11 from rfl, show tw 18 = 7 from rfl]
    obtain ⟨r, hr⟩ : ∃ r, mAbove (bitsOf s.data.toList) a 11 7 = r := ⟨_, rfl⟩
    rw [hr] at h1 ⊢
    have H1 := Lib.hid h1
    clear h1 hr HA
    go_enter Tryd.func77, Tryd.ntmps77
    go_wp2_with fail
    refine H1.out.mono ?_
    rintro e w2 ⟨rfl, h2⟩
    have H2 := Lib.hid h2
    clear h2
    go_wp2
    go_ret2
    exact ⟨rfl, H2.out⟩

set_option maxRecDepth 20000 in
/-- The bits behind a symbol of lengths. -/
theorem plen (b d : Nat) (s : ByteArray) (a y : Nat) (w : World) (hc : w.cell? ⟨d, 0, none⟩ = some (.pointer (some ⟨b, 0, none⟩))) (hbd : d ≠ b) (hr : Rd w b s a false) (hs : s.size ≤ 1073741824) (ha : a ≤ 8 * s.size) (h1 : 257 ≤ y) (h2 : y ≤ 1000) :
    Calls Tryd.prog 72 #[.pointer (some ⟨d, 0, none⟩), .int .i64 y] w (ValPost w b s (mLen (bitsOf s.data.toList) y a)) := by
  by_cases h3 : 285 < y
  · have hm : mLen (bitsOf s.data.toList) y a = (2, a, 0) := by unfold mLen; rw [if_pos h3]
    rw [hm]
    have H1 := Lib.hid (lengthOf y 0 0 false w (.out y 0 (by omega)))
    clear hc hbd hr hs ha h1 h2 h3 hm
    go_enter Tryd.func72, Tryd.ntmps72
    go_wp2_with fail
    refine H1.out.mono ?_
    rintro e w2 ⟨rfl, ho⟩
    have HO := Lib.hid ho
    clear ho
    go_wp2
    go_ret2
    exact ⟨rfl, fun h => (by cases h), HO.out.mono fun _ f => f.elim⟩
  · have hm : mLen (bitsOf s.data.toList) y a = mAbove (bitsOf s.data.toList) a (lv y) (lw y) := by unfold mLen mAbove; rw [if_neg h3]
    rw [hm]
    have hlv : lv y ≤ 258 ∧ lw y ≤ 5 ∧ LofIs y 0 (lv y : Nat) true ∧ ∃ s c, LenIs (lv y : Nat) s (lw y : Nat) c true := by
      unfold lv lw
      by_cases h4 : y = 285
      · rw [if_pos h4, if_pos h4]
        subst h4
        exact ⟨by decide, by decide, .last, _, _, .last⟩
      · rw [if_neg h4, if_neg h4]
        obtain ⟨t, rfl⟩ : ∃ t, y = 257 + t := ⟨y - 257, by omega⟩
        rw [Nat.add_sub_cancel_left]
        have ht : t < 28 := by omega
        have hp : 0 < 2 ^ lb t := Nat.pow_pos (by decide)
        rcases lrow_top ⟨t, ht⟩ with h5 | ⟨h5, h6, h7⟩
        · simp only at h5
          exact ⟨by omega, by unfold lb; split <;> omega, LofIs.row t 0 ht hp (by omega), _, _, LenIs.row t 0 ht hp (by omega)⟩
        · simp only at h5 h6 h7
          exact ⟨by omega, by omega, LofIs.row t 0 ht hp (by omega), _, _, LenIs.row t 0 ht hp (by omega)⟩
    obtain ⟨k1, k2, k3, q1, q3, k4⟩ := hlv
    have HA : Hid (∀ w2, Only (fun _ => False) w w2 → Calls Tryd.prog 83 #[.pointer (some ⟨d, 0, none⟩), .int .i64 (lv y : Nat), .int .i64 (lw y : Nat)] w2 (ValPost w2 b s (mAbove (bitsOf s.data.toList) a (lv y) (lw y)))) :=
      Lib.hid fun w2 ho => above b d s a (lv y) (lw y) w2 (ho.cell hc fun f => f) hbd (hr.only ho fun f => f) hs ha (by omega) (by omega)
    have H1 := Lib.hid (lengthOf y 0 (lv y : Nat) true w k3)
    have H2 : Hid (∀ w2, Calls Tryd.prog 82 #[.int .i64 (lv y : Nat)] w2 (FourPost w2 q1 (lw y : Nat) q3 true)) := Lib.hid fun w2 => length _ _ _ _ true w2 k4
    obtain ⟨x, hx⟩ : ∃ x, lv y = x := ⟨_, rfl⟩
    obtain ⟨v, hv⟩ : ∃ v, lw y = v := ⟨_, rfl⟩
    obtain ⟨r, hr⟩ : ∃ r, mAbove (bitsOf s.data.toList) a (lv y) (lw y) = r := ⟨_, rfl⟩
    rw [hr] at HA ⊢
    rw [hx, hv] at HA H2
    rw [hx] at H1
    clear hc hbd hr hs ha h1 h2 h3 hm hx hv k1 k2 k3 k4
    go_enter Tryd.func72, Tryd.ntmps72
    go_wp2_with fail
    refine H1.out.mono ?_
    rintro e w2 ⟨rfl, ho⟩
    have HO := Lib.hid ho
    clear ho
    go_wp2_with fail
    refine (H2.out w2).mono ?_
    rintro e w3 ⟨rfl, ho⟩
    have HO3 := Lib.hid (HO.out.trans ho)
    clear ho
    go_wp2_with fail
    refine (HA.out w3 HO3.out).mono ?_
    rintro e w4 ⟨rfl, hq, ho⟩
    have HQ := Lib.hid hq
    have HO4 := Lib.hid ((HO3.out.mono (T := (· = b)) fun _ f => f.elim).trans ho)
    clear hq ho
    go_wp2
    go_ret2
    exact ⟨rfl, HQ.out, HO4.out⟩

set_option maxRecDepth 20000 in
set_option maxHeartbeats 1000000 in
/-- A symbol of distances, and the bits behind it. -/
theorem pdist (b d lo T : Nat) (s : ByteArray) (l : List Nat) (a : Nat) (w : World) (hc : w.cell? ⟨d, 0, none⟩ = some (.pointer (some ⟨b, 0, none⟩))) (hbd : d ≠ b) (hr : Rd w b s a false) (hT : Tab w lo T l) (hbl : b < lo) (hl : Low l) (h288 : l.length ≤ 288)
    (hs : s.size ≤ 1073741824) (ha : a ≤ 8 * s.size) (hmv : (rdp l (bitsOf s.data.toList) a).2.2 = 0 → (rdp l (bitsOf s.data.toList) a).2.1 ≤ 8 * s.size ∧ (rdp l (bitsOf s.data.toList) a).1 < 288) :
    Calls Tryd.prog 73 #[.pointer (some ⟨d, 0, none⟩), .pointer (some ⟨T, 0, none⟩)] w (ValPost w b s (mDist (bitsOf s.data.toList) l a)) := by
  have HR := Lib.hid (tread lo T b s l a w hT hr hbl hl h288 hs ha)
  have HK : Hid (∀ w2, Only (· = b) w w2 → w2.cell? ⟨d, 0, none⟩ = some (.pointer (some ⟨b, 0, none⟩))) := Lib.hid fun w2 ho => ho.cell hc hbd
  unfold mDist
  obtain ⟨⟨y, a2, x⟩, hq⟩ : ∃ q, rdp l (bitsOf s.data.toList) a = q := ⟨_, rfl⟩
  rw [hq] at HR hmv ⊢
  simp only at hmv ⊢
  clear hq hr hT
  by_cases hx : x = 0
  · subst hx
    obtain ⟨ha2, hy⟩ := hmv rfl
    rw [if_neg (by simp)]
    by_cases h29 : 29 < y
    · rw [if_pos h29]
      have H1 : Hid (∀ w2, Calls Tryd.prog 84 #[.int .i64 y, .int .i64 0] w2 (TwoPost w2 0 false)) := Lib.hid fun w2 => distanceOf y 0 0 false w2 (.out y 0 (by omega))
      clear hl h288 ha2 hy hmv
      go_enter Tryd.func73, Tryd.ntmps73
      go_wp2_with fail
      refine HR.out.mono ?_
      rintro e w2 ⟨rfl, -, ho⟩
      have HO := Lib.hid ho
      clear ho HR
      go_wp2_with fail
      refine (H1.out w2).mono ?_
      rintro e w3 ⟨rfl, ho⟩
      have HO3 := Lib.hid (HO.out.trans (ho.mono fun _ f => f.elim))
      clear ho
      go_wp2
      go_ret2
      exact ⟨rfl, fun h => (by cases h), HO3.out⟩
    · rw [if_neg h29]
      have ht : y < 30 := by omega
      have hp : 0 < 2 ^ db y := Nat.pow_pos (by decide)
      have htop := df_top ⟨y, ht⟩
      simp only at htop
      have hdb : db y ≤ 13 := by unfold db; split <;> omega
      have k3 : DofIs (y : Nat) (0 : Nat) ((df y + 0 : Nat) : Int) true := DofIs.row y 0 ht hp
      have k4 : DistIs ((df y + 0 : Nat) : Int) (y : Nat) (db y : Nat) (0 : Nat) true := DistIs.row y 0 ht hp
      rw [Nat.add_zero] at k3 k4
      have hm : (if (bitsOf s.data.toList).length < a2 + db y then ((3 : Nat), a, (0 : Nat)) else (0, a2 + db y, df y + nm (bitsOf s.data.toList) a2 (db y))) = ((mAbove (bitsOf s.data.toList) a2 (df y) (db y)).1, (if (bitsOf s.data.toList).length < a2 + db y then a else a2 + db y), (mAbove (bitsOf s.data.toList) a2 (df y) (db y)).2.2) := by
        unfold mAbove
        split <;> rfl
      rw [hm]
      have hm2 : (mAbove (bitsOf s.data.toList) a2 (df y) (db y)).1 = 0 → (if (bitsOf s.data.toList).length < a2 + db y then a else a2 + db y) = (mAbove (bitsOf s.data.toList) a2 (df y) (db y)).2.1 := by
        unfold mAbove
        split <;> simp
      have HA : Hid (∀ w2, Only (· = b) w w2 → Rd w2 b s a2 false → Calls Tryd.prog 83 #[.pointer (some ⟨d, 0, none⟩), .int .i64 (df y : Nat), .int .i64 (db y : Nat)] w2 (ValPost w2 b s (mAbove (bitsOf s.data.toList) a2 (df y) (db y)))) :=
        Lib.hid fun w2 ho hr2 => above b d s a2 (df y) (db y) w2 (HK.out w2 ho) hbd hr2 hs ha2 (by omega) (by omega)
      have H1 : Hid (∀ w2, Calls Tryd.prog 84 #[.int .i64 y, .int .i64 0] w2 (TwoPost w2 (df y : Nat) true)) := Lib.hid fun w2 => distanceOf y 0 (df y : Nat) true w2 k3
      have H2 : Hid (∀ w2, Calls Tryd.prog 85 #[.int .i64 (df y : Nat)] w2 (FourPost w2 (y : Nat) (db y : Nat) (0 : Nat) true)) := Lib.hid fun w2 => distance _ _ _ _ true w2 k4
      obtain ⟨x, hx⟩ : ∃ x, df y = x := ⟨_, rfl⟩
      obtain ⟨v, hv⟩ : ∃ v, db y = v := ⟨_, rfl⟩
      obtain ⟨r, hr⟩ : ∃ r, mAbove (bitsOf s.data.toList) a2 (df y) (db y) = r := ⟨_, rfl⟩
      obtain ⟨z, hz⟩ : ∃ z, (if (bitsOf s.data.toList).length < a2 + db y then a else a2 + db y) = z := ⟨_, rfl⟩
      rw [hz, hr] at hm2 ⊢
      rw [hr, hx, hv] at HA
      rw [hx, hv] at H2
      rw [hx] at H1
      have HM := Lib.hid hm2
      clear hl h288 ha2 hy hmv hm hm2 k3 k4 hdb htop hp hx hv hr hz ha hs HK
      go_enter Tryd.func73, Tryd.ntmps73
      go_wp2_with fail
      refine HR.out.mono ?_
      rintro e w2 ⟨rfl, hr2, ho⟩
      have HO := Lib.hid ho
      have HR2 := Lib.hid (hr2 rfl)
      clear ho HR hr2
      go_wp2_with fail
      refine (H1.out w2).mono ?_
      rintro e w3 ⟨rfl, ho⟩
      have HO3 := Lib.hid (HO.out.trans (ho.mono fun _ f => f.elim))
      have HR3 := Lib.hid (HR2.out.only ho fun f => f)
      clear ho
      go_wp2_with fail
      refine (H2.out w3).mono ?_
      rintro e w4 ⟨rfl, ho⟩
      have HO4 := Lib.hid (HO3.out.trans (ho.mono fun _ f => f.elim))
      have HR4 := Lib.hid (HR3.out.only ho fun f => f)
      clear ho
      go_wp2_with fail
      refine (HA.out w4 HO4.out HR4.out).mono ?_
      rintro e w5 ⟨rfl, hq, ho⟩
      have HQ := Lib.hid hq
      have HO5 := Lib.hid (HO4.out.trans ho)
      clear hq ho
      go_wp2
      go_ret2
      exact ⟨rfl, fun h => by rw [HM.out h]; exact HQ.out h, HO5.out⟩
  · rw [if_pos hx]
    have hx2 : ¬ (x : Int) = 0 := by omega
    clear hmv hl h288 hx
    go_enter Tryd.func73, Tryd.ntmps73
    go_wp2_with fail
    refine HR.out.mono ?_
    rintro e w2 ⟨rfl, -, ho⟩
    have HO := Lib.hid ho
    clear ho HR
    go_wp2
    go_ret2
    exact ⟨rfl, fun h => absurd h (by omega), HO.out⟩
end Go.Proofs.YtackcgiokkbhdaaDoor
