/- Layer 8, the program: what is said, and copies of it. -/
import Derived.Test.YtoclbodmibagpaaM7
import Derived.Test.YtoclbodmibagpaaM8
import Derived.Test.YtoclbodmibagpaaM9
import Derived.Test.YtoclbodmibagpaaKOT
import Derived.Test.YtoclbodmibagpaaRTree
/- Layer 8, the program: numbers of the stream's reader; whether there is room. -/
namespace Go.Proofs.Ytoclbodmibagpaa
open Go.RowKit

theorem nm_of (s : ByteArray) (a n : Nat) : le s.data.toList / 2 ^ a % 2 ^ n = nm (bitsOf s.data.toList) a n := by unfold nm; rw [le2_bitsOf]

/-- A number that is read: its value, an error or 0; where the reader stands behind it. -/
def ValPost (w : World) (b : Nat) (s : ByteArray) (r : Nat × Nat × Nat) (e : Ending) (w' : World) : Prop :=
  e = .returned (.tuple #[.int .i64 r.2.2, .int .i64 r.1]) ∧ (r.1 = 0 → Rd w' b s r.2.1 false) ∧ Only (· = b) w w'
def mAbove (B : List UInt8) (a x v : Nat) : Nat × Nat × Nat := if B.length < a + v then (3, a, 0) else (0, a + v, x + nm B a v)

set_option maxRecDepth 20000 in
set_option maxHeartbeats 1000000 in
theorem above (b d : Nat) (s : ByteArray) (a x v : Nat) (w : World) (hc : w.cell? ⟨d, 0, none⟩ = some (.pointer (some ⟨b, 0, none⟩))) (hbd : d ≠ b) (hr : Rd w b s a false) (hs : s.size ≤ 1073741824) (ha : a ≤ 8 * s.size) (hv : v ≤ 16) (hx : x ≤ 100000) :
    Calls Try.prog 148 #[.pointer (some ⟨d, 0, none⟩), .int .i64 x, .int .i64 v] w (ValPost w b s (mAbove (bitsOf s.data.toList) a x v)) := by
  unfold mAbove
  rw [bits_len]
  by_cases hlt : 8 * s.size < a + v
  · rw [if_pos hlt]
    have HB := Lib.hid (bits_short b s a w v hr hs ha (.inr (.inr (by omega))))
    have HK : Hid (∀ w2, Only (· = b) w w2 → w2.cell? ⟨d, 0, none⟩ = some (.pointer (some ⟨b, 0, none⟩))) := Lib.hid fun w2 ho => ho.cell hc hbd
    clear hr hlt
    go_enter Try.func148, Try.ntmps148
    go_wp2_with fail
    refine HB.out.mono ?_
    rintro e w2 ⟨rfl, hi2, ho2⟩
    have c2 := HK.out w2 ho2
    have HI := Lib.hid hi2
    have HO := Lib.hid ho2
    clear hi2 ho2 hc
    go_wp2_with fail
    refine (err b s a true w2 HI.out).mono ?_
    rintro e w3 ⟨rfl, rfl⟩
    go_wp2
    go_ret2
    exact ⟨rfl, fun h => (by cases h), HO.out⟩
  · rw [if_neg hlt]
    have HB := Lib.hid (bits_ok b s a v w hr hs (by omega) (by omega))
    have HK : Hid (∀ w2, Only (· = b) w w2 → w2.cell? ⟨d, 0, none⟩ = some (.pointer (some ⟨b, 0, none⟩))) := Lib.hid fun w2 ho => ho.cell hc hbd
    have hy := nm_lt (bitsOf s.data.toList) a v
    have hp : 2 ^ v ≤ 2 ^ 16 := Nat.pow_le_pow_right (by decide) hv
    unfold BitsPost at HB
    rw [nm_of] at HB
    obtain ⟨y, hy2⟩ : ∃ y, nm (bitsOf s.data.toList) a v = y := ⟨_, rfl⟩
    rw [hy2] at HB hy ⊢
    have hy3 : y ≤ 65536 := by omega
    clear hr hlt hy hp hy2
    go_enter Try.func148, Try.ntmps148
    go_wp2_with fail
    refine HB.out.mono ?_
    rintro e w2 ⟨rfl, hi2, ho2⟩
    have c2 := HK.out w2 ho2
    have HI := Lib.hid hi2
    have HO := Lib.hid ho2
    clear hi2 ho2 hc
    go_wp2_with fail
    refine (err b s (a + v) false w2 HI.out).mono ?_
    rintro e w3 ⟨rfl, rfl⟩
    go_wp2
    go_ret2
    exact ⟨rfl, fun _ => HI.out, HO.out⟩

/-- How often a length is repeated. -/
theorem times (b d : Nat) (s : ByteArray) (a y : Nat) (w : World) (hc : w.cell? ⟨d, 0, none⟩ = some (.pointer (some ⟨b, 0, none⟩))) (hbd : d ≠ b) (hr : Rd w b s a false) (hs : s.size ≤ 1073741824) (ha : a ≤ 8 * s.size) (h16 : 16 ≤ y) (h18 : y ≤ 18) :
    Calls Try.prog 126 #[.pointer (some ⟨d, 0, none⟩), .int .i64 y] w (ValPost w b s (mAbove (bitsOf s.data.toList) a (tv y) (tw y))) := by
  have HA : Hid (∀ x v, v ≤ 16 → x ≤ 100000 → Calls Try.prog 148 #[.pointer (some ⟨d, 0, none⟩), .int .i64 (x : Nat), .int .i64 (v : Nat)] w (ValPost w b s (mAbove (bitsOf s.data.toList) a x v))) := Lib.hid fun x v hv hx => above b d s a x v w hc hbd hr hs ha hv hx
  clear hc hbd hr hs ha
  obtain h | h | h : y = 16 ∨ y = 17 ∨ y = 18 := by omega
  · subst h
    have h1 := HA.out 3 2 (by decide) (by decide)
    rw [show tv 16 = 3 from rfl, show tw 16 = 2 from rfl]
    obtain ⟨r, hr⟩ : ∃ r, mAbove (bitsOf s.data.toList) a 3 2 = r := ⟨_, rfl⟩
    rw [hr] at h1 ⊢
    have H1 := Lib.hid h1
    clear h1 hr HA
    go_enter Try.func126, Try.ntmps126
    go_wp2_with fail
    refine H1.out.mono ?_
    rintro e w2 ⟨rfl, h2⟩
    have H2 := Lib.hid h2
    clear h2
    go_wp2
    go_ret2
    exact ⟨rfl, H2.out⟩
  · subst h
    have h1 := HA.out 3 3 (by decide) (by decide)
    rw [show tv 17 = 3 from rfl, show tw 17 = 3 from rfl]
    obtain ⟨r, hr⟩ : ∃ r, mAbove (bitsOf s.data.toList) a 3 3 = r := ⟨_, rfl⟩
    rw [hr] at h1 ⊢
    have H1 := Lib.hid h1
    clear h1 hr HA
    go_enter Try.func126, Try.ntmps126
    go_wp2_with fail
    refine H1.out.mono ?_
    rintro e w2 ⟨rfl, h2⟩
    have H2 := Lib.hid h2
    clear h2
    go_wp2
    go_ret2
    exact ⟨rfl, H2.out⟩
  · subst h
    have h1 := HA.out 11 7 (by decide) (by decide)
    rw [show tv 18 = 11 from rfl, show tw 18 = 7 from rfl]
    obtain ⟨r, hr⟩ : ∃ r, mAbove (bitsOf s.data.toList) a 11 7 = r := ⟨_, rfl⟩
    rw [hr] at h1 ⊢
    have H1 := Lib.hid h1
    clear h1 hr HA
    go_enter Try.func126, Try.ntmps126
    go_wp2_with fail
    refine H1.out.mono ?_
    rintro e w2 ⟨rfl, h2⟩
    have H2 := Lib.hid h2
    clear h2
    go_wp2
    go_ret2
    exact ⟨rfl, H2.out⟩

set_option maxRecDepth 20000 in
/-- The bits behind a symbol of lengths. -/
theorem plen (b d : Nat) (s : ByteArray) (a y : Nat) (w : World) (hc : w.cell? ⟨d, 0, none⟩ = some (.pointer (some ⟨b, 0, none⟩))) (hbd : d ≠ b) (hr : Rd w b s a false) (hs : s.size ≤ 1073741824) (ha : a ≤ 8 * s.size) (h1 : 257 ≤ y) (h2 : y ≤ 1000) :
    Calls Try.prog 123 #[.pointer (some ⟨d, 0, none⟩), .int .i64 y] w (ValPost w b s (mLen (bitsOf s.data.toList) y a)) := by
  by_cases h3 : 285 < y
  · have hm : mLen (bitsOf s.data.toList) y a = (2, a, 0) := by unfold mLen; rw [if_pos h3]
    rw [hm]
    have H1 := Lib.hid (lengthOf y 0 0 false w (.out y 0 (by omega)))
    clear hc hbd hr hs ha h1 h2 h3 hm
    go_enter Try.func123, Try.ntmps123
    go_wp2_with fail
    refine H1.out.mono ?_
    rintro e w2 ⟨rfl, ho⟩
    have HO := Lib.hid ho
    clear ho
    go_wp2
    go_ret2
    exact ⟨rfl, fun h => (by cases h), HO.out.mono fun _ f => f.elim⟩
  · have hm : mLen (bitsOf s.data.toList) y a = mAbove (bitsOf s.data.toList) a (lv y) (lw y) := by unfold mLen mAbove; rw [if_neg h3]
    rw [hm]
    have hlv : lv y ≤ 258 ∧ lw y ≤ 5 ∧ LofIs y 0 (lv y : Nat) true ∧ ∃ s c, LenIs (lv y : Nat) s (lw y : Nat) c true := by
      unfold lv lw
      by_cases h4 : y = 285
      · rw [if_pos h4, if_pos h4]
        subst h4
        exact ⟨by decide, by decide, .last, _, _, .last⟩
      · rw [if_neg h4, if_neg h4]
        obtain ⟨t, rfl⟩ : ∃ t, y = 257 + t := ⟨y - 257, by omega⟩
        rw [Nat.add_sub_cancel_left]
        have ht : t < 28 := by omega
        have hp : 0 < 2 ^ lb t := Nat.pow_pos (by decide)
        rcases lrow_top ⟨t, ht⟩ with h5 | ⟨h5, h6, h7⟩
        · simp only at h5
          exact ⟨by omega, by unfold lb; split <;> omega, LofIs.row t 0 ht hp (by omega), _, _, LenIs.row t 0 ht hp (by omega)⟩
        · simp only at h5 h6 h7
          exact ⟨by omega, by omega, LofIs.row t 0 ht hp (by omega), _, _, LenIs.row t 0 ht hp (by omega)⟩
    obtain ⟨k1, k2, k3, q1, q3, k4⟩ := hlv
    have HA : Hid (∀ w2, Only (fun _ => False) w w2 → Calls Try.prog 148 #[.pointer (some ⟨d, 0, none⟩), .int .i64 (lv y : Nat), .int .i64 (lw y : Nat)] w2 (ValPost w2 b s (mAbove (bitsOf s.data.toList) a (lv y) (lw y)))) :=
      Lib.hid fun w2 ho => above b d s a (lv y) (lw y) w2 (ho.cell hc fun f => f) hbd (hr.only ho fun f => f) hs ha (by omega) (by omega)
    have H1 := Lib.hid (lengthOf y 0 (lv y : Nat) true w k3)
    have H2 : Hid (∀ w2, Calls Try.prog 109 #[.int .i64 (lv y : Nat)] w2 (FourPost w2 q1 (lw y : Nat) q3 true)) := Lib.hid fun w2 => length _ _ _ _ true w2 k4
    obtain ⟨x, hx⟩ : ∃ x, lv y = x := ⟨_, rfl⟩
    obtain ⟨v, hv⟩ : ∃ v, lw y = v := ⟨_, rfl⟩
    obtain ⟨r, hr⟩ : ∃ r, mAbove (bitsOf s.data.toList) a (lv y) (lw y) = r := ⟨_, rfl⟩
    rw [hr] at HA ⊢
    rw [hx, hv] at HA H2
    rw [hx] at H1
    clear hc hbd hr hs ha h1 h2 h3 hm hx hv k1 k2 k3 k4
    go_enter Try.func123, Try.ntmps123
    go_wp2_with fail
    refine H1.out.mono ?_
    rintro e w2 ⟨rfl, ho⟩
    have HO := Lib.hid ho
    clear ho
    go_wp2_with fail
    refine (H2.out w2).mono ?_
    rintro e w3 ⟨rfl, ho⟩
    have HO3 := Lib.hid (HO.out.trans ho)
    clear ho
    go_wp2_with fail
    refine (HA.out w3 HO3.out).mono ?_
    rintro e w4 ⟨rfl, hq, ho⟩
    have HQ := Lib.hid hq
    have HO4 := Lib.hid ((HO3.out.mono (T := (· = b)) fun _ f => f.elim).trans ho)
    clear hq ho
    go_wp2
    go_ret2
    exact ⟨rfl, HQ.out, HO4.out⟩

set_option maxRecDepth 20000 in
set_option maxHeartbeats 1000000 in
/-- A symbol of distances, and the bits behind it. -/
theorem pdist (b d lo T : Nat) (s : ByteArray) (l : List Nat) (a : Nat) (w : World) (hc : w.cell? ⟨d, 0, none⟩ = some (.pointer (some ⟨b, 0, none⟩))) (hbd : d ≠ b) (hr : Rd w b s a false) (hT : Tab w lo T l) (hbl : b < lo) (hl : Low l) (h288 : l.length ≤ 288)
    (hs : s.size ≤ 1073741824) (ha : a ≤ 8 * s.size) (hmv : (rdp l (bitsOf s.data.toList) a).2.2 = 0 → (rdp l (bitsOf s.data.toList) a).2.1 ≤ 8 * s.size ∧ (rdp l (bitsOf s.data.toList) a).1 < 288) :
    Calls Try.prog 124 #[.pointer (some ⟨d, 0, none⟩), .pointer (some ⟨T, 0, none⟩)] w (ValPost w b s (mDist (bitsOf s.data.toList) l a)) := by
  have HR := Lib.hid (tread lo T b s l a w hT hr hbl hl h288 hs ha)
  have HK : Hid (∀ w2, Only (· = b) w w2 → w2.cell? ⟨d, 0, none⟩ = some (.pointer (some ⟨b, 0, none⟩))) := Lib.hid fun w2 ho => ho.cell hc hbd
  unfold mDist
  obtain ⟨⟨y, a2, x⟩, hq⟩ : ∃ q, rdp l (bitsOf s.data.toList) a = q := ⟨_, rfl⟩
  rw [hq] at HR hmv ⊢
  simp only at hmv ⊢
  clear hq hr hT
  by_cases hx : x = 0
  · subst hx
    obtain ⟨ha2, hy⟩ := hmv rfl
    rw [if_neg (by simp)]
    by_cases h29 : 29 < y
    · rw [if_pos h29]
      have H1 : Hid (∀ w2, Calls Try.prog 149 #[.int .i64 y, .int .i64 0] w2 (TwoPost w2 0 false)) := Lib.hid fun w2 => distanceOf y 0 0 false w2 (.out y 0 (by omega))
      clear hl h288 ha2 hy hmv
      go_enter Try.func124, Try.ntmps124
      go_wp2_with fail
      refine HR.out.mono ?_
      rintro e w2 ⟨rfl, -, ho⟩
      have HO := Lib.hid ho
      clear ho HR
      go_wp2_with fail
      refine (H1.out w2).mono ?_
      rintro e w3 ⟨rfl, ho⟩
      have HO3 := Lib.hid (HO.out.trans (ho.mono fun _ f => f.elim))
      clear ho
      go_wp2
      go_ret2
      exact ⟨rfl, fun h => (by cases h), HO3.out⟩
    · rw [if_neg h29]
      have ht : y < 30 := by omega
      have hp : 0 < 2 ^ db y := Nat.pow_pos (by decide)
      have htop := df_top ⟨y, ht⟩
      simp only at htop
      have hdb : db y ≤ 13 := by unfold db; split <;> omega
      have k3 : DofIs (y : Nat) (0 : Nat) ((df y + 0 : Nat) : Int) true := DofIs.row y 0 ht hp
      have k4 : DistIs ((df y + 0 : Nat) : Int) (y : Nat) (db y : Nat) (0 : Nat) true := DistIs.row y 0 ht hp
      rw [Nat.add_zero] at k3 k4
      have hm : (if (bitsOf s.data.toList).length < a2 + db y then ((3 : Nat), a, (0 : Nat)) else (0, a2 + db y, df y + nm (bitsOf s.data.toList) a2 (db y))) = ((mAbove (bitsOf s.data.toList) a2 (df y) (db y)).1, (if (bitsOf s.data.toList).length < a2 + db y then a else a2 + db y), (mAbove (bitsOf s.data.toList) a2 (df y) (db y)).2.2) := by
        unfold mAbove
        split <;> rfl
      rw [hm]
      have hm2 : (mAbove (bitsOf s.data.toList) a2 (df y) (db y)).1 = 0 → (if (bitsOf s.data.toList).length < a2 + db y then a else a2 + db y) = (mAbove (bitsOf s.data.toList) a2 (df y) (db y)).2.1 := by
        unfold mAbove
        split <;> simp
      have HA : Hid (∀ w2, Only (· = b) w w2 → Rd w2 b s a2 false → Calls Try.prog 148 #[.pointer (some ⟨d, 0, none⟩), .int .i64 (df y : Nat), .int .i64 (db y : Nat)] w2 (ValPost w2 b s (mAbove (bitsOf s.data.toList) a2 (df y) (db y)))) :=
        Lib.hid fun w2 ho hr2 => above b d s a2 (df y) (db y) w2 (HK.out w2 ho) hbd hr2 hs ha2 (by omega) (by omega)
      have H1 : Hid (∀ w2, Calls Try.prog 149 #[.int .i64 y, .int .i64 0] w2 (TwoPost w2 (df y : Nat) true)) := Lib.hid fun w2 => distanceOf y 0 (df y : Nat) true w2 k3
      have H2 : Hid (∀ w2, Calls Try.prog 110 #[.int .i64 (df y : Nat)] w2 (FourPost w2 (y : Nat) (db y : Nat) (0 : Nat) true)) := Lib.hid fun w2 => distance _ _ _ _ true w2 k4
      obtain ⟨x, hx⟩ : ∃ x, df y = x := ⟨_, rfl⟩
      obtain ⟨v, hv⟩ : ∃ v, db y = v := ⟨_, rfl⟩
      obtain ⟨r, hr⟩ : ∃ r, mAbove (bitsOf s.data.toList) a2 (df y) (db y) = r := ⟨_, rfl⟩
      obtain ⟨z, hz⟩ : ∃ z, (if (bitsOf s.data.toList).length < a2 + db y then a else a2 + db y) = z := ⟨_, rfl⟩
      rw [hz, hr] at hm2 ⊢
      rw [hr, hx, hv] at HA
      rw [hx, hv] at H2
      rw [hx] at H1
      have HM := Lib.hid hm2
      clear hl h288 ha2 hy hmv hm hm2 k3 k4 hdb htop hp hx hv hr hz ha hs HK
      go_enter Try.func124, Try.ntmps124
      go_wp2_with fail
      refine HR.out.mono ?_
      rintro e w2 ⟨rfl, hr2, ho⟩
      have HO := Lib.hid ho
      have HR2 := Lib.hid (hr2 rfl)
      clear ho HR hr2
      go_wp2_with fail
      refine (H1.out w2).mono ?_
      rintro e w3 ⟨rfl, ho⟩
      have HO3 := Lib.hid (HO.out.trans (ho.mono fun _ f => f.elim))
      have HR3 := Lib.hid (HR2.out.only ho fun f => f)
      clear ho
      go_wp2_with fail
      refine (H2.out w3).mono ?_
      rintro e w4 ⟨rfl, ho⟩
      have HO4 := Lib.hid (HO3.out.trans (ho.mono fun _ f => f.elim))
      have HR4 := Lib.hid (HR3.out.only ho fun f => f)
      clear ho
      go_wp2_with fail
      refine (HA.out w4 HO4.out HR4.out).mono ?_
      rintro e w5 ⟨rfl, hq, ho⟩
      have HQ := Lib.hid hq
      have HO5 := Lib.hid (HO4.out.trans ho)
      clear hq ho
      go_wp2
      go_ret2
      exact ⟨rfl, fun h => by rw [HM.out h]; exact HQ.out h, HO5.out⟩
  · rw [if_pos hx]
    have hx2 : ¬ (x : Int) = 0 := by omega
    clear hmv hl h288 hx
    go_enter Try.func124, Try.ntmps124
    go_wp2_with fail
    refine HR.out.mono ?_
    rintro e w2 ⟨rfl, -, ho⟩
    have HO := Lib.hid ho
    clear ho HR
    go_wp2
    go_ret2
    exact ⟨rfl, fun h => absurd h (by omega), HO.out⟩
end Go.Proofs.Ytoclbodmibagpaa

/- Layer 8, the program: the stream in memory; whether there is room; a byte said. -/
namespace Go.Proofs.Ytoclbodmibagpaa
open Go.RowKit

/-- The stream's own block, and the row of what it has said. -/
structure Str (w : World) (b d : Nat) (most : Int) (A : Option Addr) (n c : Nat) (kv p1 p2 : Value) (out : List UInt8) : Prop where
  is : Is w d 59 [.pointer (some ⟨b, 0, none⟩), .int .i64 most, .slice A n c, kv, p1, p2]
  row : Row 5 w A n c (bcells out)
  len : out.length = n
  ne : d ≠ b
  nb : ¬ Lies A b
  nd : ¬ Lies A d
/-- What the stream turns. -/
def Mine (b d : Nat) (A : Option Addr) (j : Nat) : Prop := j = b ∨ j = d ∨ Lies A j

section
variable {w w' wx w2 : World} {b d : Nat} {most : Int} {A A2 : Option Addr} {n c c2 m : Nat} {kv p1 p2 : Value} {out r : List UInt8} {S : Nat → Prop}
theorem Str.keep (h : Str w b d most A n c kv p1 p2 out) (k : Only S w w') (hd : ¬ S d) (hA : ∀ j, Lies A j → ¬ S j) : Str w' b d most A n c kv p1 p2 out :=
  ⟨h.is.only k hd, h.row.only k hA, h.len, h.ne, h.nb, h.nd⟩
theorem Str.read (h : Str w b d most A n c kv p1 p2 out) (k : Only (· = b) w w') : Str w' b d most A n c kv p1 p2 out := h.keep k h.ne fun _ hj e => h.nb (e ▸ hj)
theorem Str.new (h : Str w b d most A n c kv p1 p2 out) (k : Only (fun _ => False) w w') : Str w' b d most A n c kv p1 p2 out := h.keep k (fun f => f) fun _ _ f => f
theorem Str.c0 (h : Str w b d most A n c kv p1 p2 out) : w.cell? ⟨d, 0, none⟩ = some (.pointer (some ⟨b, 0, none⟩)) := h.is.cell 0 rfl
/-- Bytes laid behind what is said, and the row laid into the stream. -/
theorem Str.append (h : Str wx b d most A n c kv p1 p2 out) (hb : b < wx.heap.size) (hr : Row 5 w2 A2 (n + m) c2 (bcells (out ++ r))) (hl : r.length = m) (ho : Only (Lies A) wx w2) (ha : A2 = A ∨ A2 = some ⟨wx.heap.size, 0, none⟩) :
    Str (w2.setCell ⟨d, 2, none⟩ (.slice A2 (n + m) c2)) b d most A2 (n + m) c2 kv p1 p2 (out ++ r) ∧ Only (fun j => j = d ∨ Lies A j) wx (w2.setCell ⟨d, 2, none⟩ (.slice A2 (n + m) c2)) ∧ ∀ j, Lies A2 j → Lies A j ∨ wx.heap.size ≤ j := by
  have hlies : ∀ j, Lies A2 j → Lies A j ∨ wx.heap.size ≤ j := by
    intro j hj
    rcases ha with e | e
    · exact .inl (e ▸ hj)
    · obtain ⟨ad, e1, e2⟩ := hj
      rw [e] at e1
      obtain rfl := Option.some.inj e1
      exact .inr (Nat.le_of_eq e2)
  have hdl := h.is.lt
  have hnd : ¬ Lies A2 d := fun hj => (hlies d hj).elim h.nd (fun x => by omega)
  refine ⟨⟨(h.is.only ho h.nd).set 2 _, hr.only (Only.one w2 d 2 _) (fun j hj e => hnd (e ▸ hj)), by rw [List.length_append, h.len, hl], h.ne, fun hj => (hlies b hj).elim h.nb (fun x => by omega), hnd⟩, ?_, hlies⟩
  exact (ho.mono fun j hj => .inr hj).trans ((Only.one w2 d 2 _).mono fun j hj => .inl hj)
end

/-- What comes of a call that may say bytes. -/
def Done (w : World) (b d : Nat) (s : ByteArray) (most : Int) (A : Option Addr) (kv p1 p2 : Value) (r : Ans) (e : Ending) (w' : World) : Prop :=
  e = .returned (.int .i64 r.1) ∧ Only (Mine b d A) w w' ∧ (r.1 = 0 → ∃ A' c', Str w' b d most A' r.2.2.length c' kv p1 p2 r.2.2 ∧ Rd w' b s r.2.1 false ∧ ∀ j, Lies A' j → Lies A j ∨ w.heap.size ≤ j)

def RoomPost (w : World) (q : Bool) (e : Ending) (w' : World) : Prop := e = .returned (.bool q) ∧ ∃ k, w' = w.drewN k

set_option maxHeartbeats 1000000 in
theorem tooMany (b d : Nat) (most : Int) (A : Option Addr) (n c : Nat) (kv p1 p2 : Value) (out : List UInt8) (x : Nat) (w : World) (q : Bool) (h : Str w b d most A n c kv p1 p2 out) (hn : n ≤ 1000000) (hx : x ≤ 1000000) (hq : decide (most < (n : Int) + x) = q) :
    Calls Try.prog 90 #[.pointer (some ⟨d, 0, none⟩), .int .i64 x] w (RoomPost w q) := by
  have c1 := h.is.cell 1 rfl
  have c2 := h.is.cell 2 rfl
  have e1 : IntKind.i64.wrap ((n : Int) + x) = (n : Int) + x := IntWalk.i64_in _ (by omega)
  have HQ := Lib.hid hq
  clear h hq
  go_enter Try.func90, Try.ntmps90
  go_wp2
  go_quiet (fail)
  go_wp2
  go_ret
  refine ⟨?_, _, rfl⟩
  rw [← HQ.out]
  rfl

def mOne (most : Int) (a : Nat) (y : UInt8) (out : List UInt8) : Ans := if most < out.length + 1 then (7, a, out) else (0, a, out ++ [y])

set_option maxRecDepth 20000 in
set_option maxHeartbeats 1000000 in
theorem one (b d : Nat) (s : ByteArray) (a : Nat) (most : Int) (A : Option Addr) (n c : Nat) (kv p1 p2 : Value) (out : List UInt8) (y : UInt8) (w : World) (h : Str w b d most A n c kv p1 p2 out) (hr : Rd w b s a false) (hn : n ≤ 1000000) :
    Calls Try.prog 93 #[.pointer (some ⟨d, 0, none⟩), .int .u8 y.toNat] w (Done w b d s most A kv p1 p2 (mOne most a y out)) := by
  unfold mOne
  rw [h.len]
  by_cases hlt : most < (n : Int) + 1
  · rw [if_pos hlt]
    have HT := Lib.hid (tooMany b d most A n c kv p1 p2 out 1 w true h hn (by decide) (by simpa using hlt))
    clear h hr hlt
    go_enter Try.func93, Try.ntmps93
    go_wp2_with fail
    refine HT.out.mono ?_
    rintro e w2 ⟨rfl, k, rfl⟩
    go_wp2
    go_ret
    exact ⟨rfl, (Only.refl _ w).drewN k, fun h => by cases h⟩
  · rw [if_neg hlt]
    have HT := Lib.hid (tooMany b d most A n c kv p1 p2 out 1 w false h hn (by decide) (by simpa using hlt))
    have c2 : ∀ k, (w.drewN k).cell? ⟨d, 2, none⟩ = some (.slice A n c) := fun k => (h.is.drewN k).cell 2 rfl
    have H := Lib.hid h
    have HR := Lib.hid hr
    have hbl := hr.lt
    obtain ⟨z, hz⟩ : ∃ z, y.toNat = z := ⟨_, rfl⟩
    rw [hz]
    clear h hr hlt
    go_enter Try.func93, Try.ntmps93
    go_wp2_with fail
    refine HT.out.mono ?_
    rintro e w2 ⟨rfl, k, rfl⟩
    have c22 := c2 k
    have HX : Hid (Str (w.drewN k) b d most A n c kv p1 p2 out) := Lib.hid (H.out.new ((Only.refl _ w).drewN k))
    have HRX : Hid (Rd (w.drewN k) b s a false) := Lib.hid (HR.out.drewN k)
    have HOX : Hid (Only (fun _ => False) w (w.drewN k)) := Lib.hid ((Only.refl _ w).drewN k)
    have hbx : b < (w.drewN k).heap.size := hbl
    obtain ⟨wx, hwx⟩ : ∃ wx, w.drewN k = wx := ⟨_, rfl⟩
    rw [hwx] at c22 HX HRX HOX hbx ⊢
    clear c2 HT H HR hwx hbl
    have HY : Hid (Str (wx.alloc (.cells #[.int .u8 (z : Nat)] 5)) b d most A n c kv p1 p2 out) := Lib.hid (HX.out.new ((Only.refl _ wx).alloc _))
    have hwy : ∃ wy, wx.alloc (.cells #[.int .u8 (z : Nat)] 5) = wy := ⟨_, rfl⟩
    obtain ⟨wy, hwy⟩ := hwy
    have hby : b < wy.heap.size := by rw [← hwy]; simp; omega
    have HS := Lib.hid (Src.oneInt Try.underlying40 wx .u8 z 1 5)
    have HOY : Hid (Only (fun _ => False) wx wy) := Lib.hid (hwy ▸ (Only.refl _ wx).alloc _)
    rw [hwy] at HY HS
    go_upto_region 3 with fail
    go_wp2_with (at_builtin
                 refine wpList_append_row rfl (.tmp 11) (.tmp 13) 40 40 5 rfl Try.underlying40 info5 A n c 1 (bcells out) [.int .u8 (z : Nat)] (.slice (some ⟨wx.heap.size, 0, none⟩) 1 1) (by rfl) (by rfl) HY.out.row rfl HS.out (by omega) (by omega) ?_
                 intro A2 c2 w2 hrow2 honly2 hlies2
                 have hrow3 := hrow2
                 rw [← hz, bcells_snoc] at hrow3
                 have HF := Lib.hid (HY.out.append hby hrow3 rfl honly2 hlies2)
                 have HO2 := Lib.hid honly2
                 have i2 := HY.out.is.only honly2 HY.out.nd
                 have f2 := i2.frozen 2
                 have g2 := i2.cell 2 rfl
                 clear hrow2 honly2 hlies2 hrow3 i2)
    go_ret
    obtain ⟨f1, f2, f3⟩ := HF.out
    have hrd := HRX.out.only HOY.out fun f => f
    refine ⟨rfl, ?_, fun _ => ⟨A2, c2, ?_, hrd.only f2 ?_, fun j hj => (f3 j hj).imp id fun x => Nat.le_trans (HOX.out.trans HOY.out).size x⟩⟩
    · exact ((HOX.out.trans HOY.out).mono fun _ f => f.elim).trans (f2.mono fun j hj => .inr hj)
    · have e : (out ++ [y]).length = n + 1 := by rw [List.length_append, HX.out.len]; rfl
      rw [e]
      exact f1
    · rintro (e | e)
      · exact HX.out.ne e.symm
      · exact HX.out.nb e
end Go.Proofs.Ytoclbodmibagpaa

/- A symbol that is read takes a bit at least, and is one of the code's. -/
namespace Go.Proofs.Ytoclbodmibagpaa

theorem scan_step (l : List Nat) (b : List UInt8) (f K n p : Nat) : scan l b (f + 1) K n p = if b.length ≤ p then (0, p, 3) else if 2 * n + bt b p < fi l K + cn l K then (sy l (st l K + (2 * n + bt b p - fi l K)), p + 1, 0) else scan l b f (K + 1) (2 * n + bt b p) (p + 1) := rfl
theorem scan_moves (l : List Nat) (b : List UInt8) : ∀ (f K n p : Nat), (scan l b f K n p).2.2 = 0 → p < (scan l b f K n p).2.1 ∧ (scan l b f K n p).2.1 ≤ b.length
  | 0, K, n, p, h => by simp [scan] at h
  | f + 1, K, n, p, h => by
    rw [scan_step] at h ⊢
    by_cases h1 : b.length ≤ p
    · rw [if_pos h1] at h
      simp at h
    · rw [if_neg h1] at h ⊢
      by_cases h2 : 2 * n + bt b p < fi l K + cn l K
      · rw [if_pos h2]
        exact ⟨Nat.lt_succ_self _, by simp; omega⟩
      · rw [if_neg h2] at h ⊢
        have := scan_moves l b f (K + 1) (2 * n + bt b p) (p + 1) h
        omega
theorem sy_lt (l : List Nat) (p : Nat) : sy l p < l.length ∨ sy l p = 0 := by
  unfold sy
  cases h : (List.range l.length).find? fun s => decide (0 < ln l s) && decide (ps l s = p) with
  | none => exact .inr rfl
  | some x => exact .inl (by simpa using List.mem_of_find?_eq_some h)
theorem scan_symbol (l : List Nat) (b : List UInt8) : ∀ (f K n p : Nat), (scan l b f K n p).1 < l.length ∨ (scan l b f K n p).1 = 0
  | 0, K, n, p => .inr (by simp [scan])
  | f + 1, K, n, p => by
    rw [scan_step]
    split
    · exact .inr rfl
    · split
      · exact sy_lt _ _
      · exact scan_symbol l b f _ _ _
theorem rdp_moves (l : List Nat) (b : List UInt8) (a : Nat) (h : (rdp l b a).2.2 = 0) : a < (rdp l b a).2.1 ∧ (rdp l b a).2.1 ≤ b.length := scan_moves l b _ _ _ _ h
theorem rdp_symbol (l : List Nat) (b : List UInt8) (a : Nat) (h : l.length ≤ 288) : (rdp l b a).1 < 288 := by
  rcases scan_symbol l b (lg l) 1 0 a with h1 | h1
  · exact Nat.lt_of_lt_of_le h1 h
  · show (scan l b (lg l) 1 0 a).1 < 288
    omega
/-- The error of a symbol is one that the walk tells. -/
theorem scan_err (l : List Nat) (b : List UInt8) : ∀ (f K n p : Nat), (scan l b f K n p).2.2 ≤ 10
  | 0, K, n, p => by simp [scan]
  | f + 1, K, n, p => by
    rw [scan_step]
    split
    · simp
    · split
      · simp
      · exact scan_err l b f _ _ _
theorem rdp_err (l : List Nat) (b : List UInt8) (a : Nat) : (rdp l b a).2.2 ≤ 10 := scan_err l b _ _ _ _

theorem mLen_ok (B : List UInt8) (s a : Nat) (h : (mLen B s a).1 = 0) : a ≤ (mLen B s a).2.1 ∧ (mLen B s a).2.1 ≤ B.length ∧ s ≤ 285 ∧ (mLen B s a).2.2 = lv s + nm B a (lw s) := by
  unfold mLen at h ⊢
  split at h
  · cases h
  · split at h
    · cases h
    · rename_i h1 h2
      rw [if_neg h1, if_neg h2]
      exact ⟨Nat.le_add_right _ _, by simp; omega, by omega, rfl⟩
theorem mDist_ok (B : List UInt8) (l : List Nat) (a : Nat) (h : (mDist B l a).1 = 0) : a ≤ (mDist B l a).2.1 ∧ (mDist B l a).2.1 ≤ B.length ∧ 1 ≤ (mDist B l a).2.2 ∧ (mDist B l a).2.2 ≤ 40000 := by
  unfold mDist at h ⊢
  split at h
  · rename_i h1
    exact absurd h h1
  · rename_i h1
    have hm := rdp_moves l B a (by omega)
    split at h
    · cases h
    · rename_i h2
      split at h
      · cases h
      · rename_i h3
        rw [if_neg h1, if_neg h2, if_neg h3]
        have ht : (rdp l B a).1 < 30 := by omega
        generalize (rdp l B a).1 = y at h3 ht ⊢
        generalize (rdp l B a).2.1 = a2 at h3 hm ⊢
        have hy := nm_lt B a2 (db y)
        have hd : ∀ s : Fin 30, 1 ≤ df s.val ∧ df s.val + 2 ^ db s.val ≤ 32769 := by decide +kernel
        have := hd ⟨y, ht⟩
        simp only at this ⊢
        omega
theorem mBack_ok (B : List UInt8) (l : List Nat) (most : Int) (s a : Nat) (out : List UInt8) (h : (mBack B l most s a out).1 = 0) :
    a ≤ (mBack B l most s a out).2.1 ∧ (mBack B l most s a out).2.1 ≤ B.length ∧ ((mBack B l most s a out).2.2.length : Int) ≤ most := by
  unfold mBack at h ⊢
  split at h
  · rename_i h1; exact absurd h h1
  · rename_i h1
    split at h
    · rename_i h2; exact absurd h h2
    · rename_i h2
      split at h
      · cases h
      · rename_i h3
        split at h
        · cases h
        · rename_i h4
          rw [if_neg h1, if_neg h2, if_neg h3, if_neg h4]
          have q1 := mLen_ok B s a (by omega)
          have q2 := mDist_ok B l (mLen B s a).2.1 (by omega)
          refine ⟨Nat.le_trans q1.1 q2.1, q2.2.1, ?_⟩
          simp only [copyF_length]
          omega
end Go.Proofs.Ytoclbodmibagpaa

/- Layer 8, the program: bytes said once more. -/
namespace Go.Proofs.Ytoclbodmibagpaa
open Go.RowKit

theorem step_append_row {P : Program} {k : IntKind} {B : Nat} {w : World} {ops : Array Oper} {o : Oper} {a : Act} {K : Act → World → Prop} {Q : Exit → Act → World → Prop} {E : Prop} (hgd : o.guard = none) (s x : Operand) (t tx e : TypeId)
    (ho : o.op = .call { callee := .builtin .append, args := #[s, x], argTypes := #[t, tx] }) (ht : P.underlying t = some (.slice e))
    (hi : (P.info? e).map (fun i => (i.zero, i.size, i.bytes)) = some (some (.int k 0), 1, B)) (A : Option Addr) (n c m : Nat) (l r : List Value) (y : Value) (hsv : a.eval s = .slice A n c) (hxv : a.eval x = y)
    (h : Row e w A n c l) (hr : r.length = m) (hs : Src P 1 tx y m r w) (hB : B ≤ 8) (hb : n + m ≤ 1099511627776)
    (hk : ∀ A' c' w', Row e w' A' (n + m) c' (l ++ r) → Only (Lies A) w w' → (A' = A ∨ A' = some ⟨w.heap.size, 0, none⟩) → K (a.put o.dst (.slice A' (n + m) c')) w') :
    if Region.wanted o (yielded ops a.tmps) = true then Oper.wp P o a w K Q else E := by
  have hw : Region.wanted o (yielded ops a.tmps) = true := by simp [Region.wanted, hgd]
  rw [if_pos hw]
  obtain ⟨A', c', w', hrun, h2, h3, h4⟩ := run_append_row (ty := o.type) ht hi h hr hs hB hb
  unfold Oper.wp execOp
  simp only [ho, resolve, invoke, builtin, Sem.run_bind, Sem.run_pure, Result.andThen_ok, List.map_toArray, List.map_cons, List.map_nil, hsv, hxv, hrun]
  exact hk A' c' w' h2 h3 h4

/-- Where saying once more stands. -/
def Cop (w : World) (b d : Nat) (s : ByteArray) (most : Int) (A : Option Addr) (kv p1 p2 : Value) (a3 far n k : Nat) (out : List UInt8) (wx : World) : Prop :=
  ∃ A' c', Str wx b d most A' (n + k) c' kv p1 p2 (copyF far k out) ∧ Rd wx b s a3 false ∧ Only (Mine b d A) w wx ∧ ∀ j, Lies A' j → Lies A j ∨ w.heap.size ≤ j

set_option maxRecDepth 100000 in
set_option maxHeartbeats 4000000 in
theorem several (b d lo T : Nat) (s : ByteArray) (a : Nat) (most : Int) (A : Option Addr) (n c : Nat) (kv p1 p2 : Value) (out : List UInt8) (l : List Nat) (y : Nat) (w : World) (h : Str w b d most A n c kv p1 p2 out) (hr : Rd w b s a false) (hT : Tab w lo T l) (hbl : b < lo)
    (hl : Low l) (h288 : l.length ≤ 288) (hs : s.size ≤ 1073741824) (ha : a ≤ 8 * s.size) (hn : n ≤ 100000) (hmost : most ≤ 100000) (hy1 : 257 ≤ y) (hy2 : y ≤ 1000) :
    Calls Try.prog 94 #[.pointer (some ⟨d, 0, none⟩), .int .i64 y, .pointer (some ⟨T, 0, none⟩)] w (Done w b d s most A kv p1 p2 (mBack (bitsOf s.data.toList) l most y a out)) := by
  have HL := Lib.hid (plen b d s a y w h.c0 h.ne hr hs ha hy1 hy2)
  have q1 := mLen_ok (bitsOf s.data.toList) y a
  have HD : Hid (∀ w2 a2, Only (· = b) w w2 → Rd w2 b s a2 false → a2 ≤ 8 * s.size → Calls Try.prog 124 #[.pointer (some ⟨d, 0, none⟩), .pointer (some ⟨T, 0, none⟩)] w2 (ValPost w2 b s (mDist (bitsOf s.data.toList) l a2))) :=
    Lib.hid fun w2 a2 ho hr2 ha2 => pdist b d lo T s l a2 w2 (h.read ho).c0 h.ne hr2 (hT.keep ho fun j h1 _ e => by omega) hbl hl h288 hs ha2 fun h0 => ⟨by have := (rdp_moves l _ a2 h0).2; rw [bits_len] at this; exact this, rdp_symbol l _ a2 h288⟩
  unfold mBack
  obtain ⟨⟨x1, a2, N⟩, hq1⟩ : ∃ q, mLen (bitsOf s.data.toList) y a = q := ⟨_, rfl⟩
  rw [hq1] at HL q1 ⊢
  simp only at q1 ⊢
  have H := Lib.hid h
  have HR := Lib.hid hr
  have hlen := h.len
  rw [hlen]
  clear hq1 h hr hT hl h288
  by_cases hx1 : x1 = 0
  · subst hx1
    rw [if_neg (by simp)]
    obtain ⟨k1, k2, k3, k4⟩ := q1 rfl
    rw [bits_len] at k2
    have hN : N ≤ 100000 := by
      have e1 : ∀ t : Fin 29, lv (257 + t.val) ≤ 258 ∧ lw (257 + t.val) ≤ 5 := by decide +kernel
      have e2 := e1 ⟨y - 257, by omega⟩
      rw [show 257 + (y - 257) = y from by omega] at e2
      have e3 := nm_lt (bitsOf s.data.toList) a (lw y)
      have e4 : 2 ^ lw y ≤ 2 ^ 5 := Nat.pow_le_pow_right (by decide) e2.2
      omega
    have q2 := mDist_ok (bitsOf s.data.toList) l a2
    have HD2 : Hid (∀ w2, Only (· = b) w w2 → Rd w2 b s a2 false → Calls Try.prog 124 #[.pointer (some ⟨d, 0, none⟩), .pointer (some ⟨T, 0, none⟩)] w2 (ValPost w2 b s (mDist (bitsOf s.data.toList) l a2))) := Lib.hid fun w2 ho hr2 => HD.out w2 a2 ho hr2 k2
    obtain ⟨⟨x2, a3, far⟩, hq2⟩ : ∃ q, mDist (bitsOf s.data.toList) l a2 = q := ⟨_, rfl⟩
    rw [hq2] at HD2 q2 ⊢
    simp only at q2 ⊢
    clear hq2 HD k1 k2 k3 k4 q1
    by_cases hx2 : x2 = 0
    · subst hx2
      rw [if_neg (by simp)]
      obtain ⟨k1, k2, k3, k4⟩ := q2 rfl
      clear q2
      have HX : Hid (∀ w2, Only (· = b) w w2 → Str w2 b d most A n c kv p1 p2 out) := Lib.hid fun w2 ho => H.out.read ho
      by_cases hfar : n < far
      · rw [if_pos hfar]
        have hf2 : (n : Int) < far := by omega
        clear k1 k2 k3 k4
        go_enter Try.func94, Try.ntmps94
        go_wp2_with fail
        refine HL.out.mono ?_
        rintro e w2 ⟨rfl, hr2, ho2⟩
        have HR2 := Lib.hid (hr2 rfl)
        have HO2 := Lib.hid ho2
        clear hr2 ho2 HL
        go_wp2_with fail
        refine (HD2.out w2 HO2.out HR2.out).mono ?_
        rintro e w3 ⟨rfl, hr3, ho3⟩
        have HO3 := Lib.hid (HO2.out.trans ho3)
        have c2 := (HX.out w3 HO3.out).is.cell 2 rfl
        clear hr3 ho3 HD2
        go_wp2
        go_ret
        exact ⟨rfl, HO3.out.mono fun _ e => .inl e, fun h => by cases h⟩
      · rw [if_neg hfar]
        have hf2 : ¬ (n : Int) < far := by omega
        by_cases hroom : most < (n : Int) + N
        · rw [if_pos hroom]
          have HT : Hid (∀ w2, Only (· = b) w w2 → Calls Try.prog 90 #[.pointer (some ⟨d, 0, none⟩), .int .i64 N] w2 (RoomPost w2 true)) := Lib.hid fun w2 ho => tooMany b d most A n c kv p1 p2 out N w2 true (HX.out w2 ho) (by omega) (by omega) (by simpa using hroom)
          clear k1 k2 k3 k4 hroom
          go_enter Try.func94, Try.ntmps94
          go_wp2_with fail
          refine HL.out.mono ?_
          rintro e w2 ⟨rfl, hr2, ho2⟩
          have HR2 := Lib.hid (hr2 rfl)
          have HO2 := Lib.hid ho2
          clear hr2 ho2 HL
          go_wp2_with fail
          refine (HD2.out w2 HO2.out HR2.out).mono ?_
          rintro e w3 ⟨rfl, hr3, ho3⟩
          have HO3 := Lib.hid (HO2.out.trans ho3)
          have c2 := (HX.out w3 HO3.out).is.cell 2 rfl
          clear hr3 ho3 HD2
          go_wp2_with fail
          refine (HT.out w3 HO3.out).mono ?_
          rintro e w4 ⟨rfl, k, rfl⟩
          go_wp2
          go_ret
          exact ⟨rfl, (HO3.out.mono fun _ e => .inl e).drewN k, fun h => by cases h⟩
        · rw [if_neg hroom]
          have HT : Hid (∀ w2, Only (· = b) w w2 → Calls Try.prog 90 #[.pointer (some ⟨d, 0, none⟩), .int .i64 N] w2 (RoomPost w2 false)) := Lib.hid fun w2 ho => tooMany b d most A n c kv p1 p2 out N w2 false (HX.out w2 ho) (by omega) (by omega) (by simpa using hroom)
          have HN : Hid (n + N ≤ 100000) := Lib.hid (by omega)
          have HDN : Hid (∀ wx, Cop w b d s most A kv p1 p2 a3 far n N out wx → Done w b d s most A kv p1 p2 (0, a3, copyF far N out) (.returned (.int .i64 0)) wx) := Lib.hid fun wx hc => by
            obtain ⟨A', c', g1, g2, g3, g4⟩ := hc
            refine ⟨rfl, g3, fun _ => ⟨A', c', ?_, g2, g4⟩⟩
            rw [copyF_length, hlen]
            exact g1
          clear hroom
          go_enter Try.func94, Try.ntmps94
          go_wp2_with fail
          refine HL.out.mono ?_
          rintro e w2 ⟨rfl, hr2, ho2⟩
          have HR2 := Lib.hid (hr2 rfl)
          have HO2 := Lib.hid ho2
          clear hr2 ho2 HL
          go_wp2_with fail
          refine (HD2.out w2 HO2.out HR2.out).mono ?_
          rintro e w3 ⟨rfl, hr3, ho3⟩
          have HO3 := Lib.hid (HO2.out.trans ho3)
          have HR3 := Lib.hid (hr3 rfl)
          have c2 := (HX.out w3 HO3.out).is.cell 2 rfl
          clear hr3 ho3 HD2
          go_wp2_with fail
          refine (HT.out w3 HO3.out).mono ?_
          rintro e w4 ⟨rfl, k, rfl⟩
          have HC : Hid (Cop w b d s most A kv p1 p2 a3 far n 0 out (w3.drewN k)) := Lib.hid ⟨A, c, (HX.out w3 HO3.out).new ((Only.refl _ w3).drewN k), HR3.out.drewN k, (HO3.out.mono fun _ e => .inl e).drewN k, fun j hj => .inl hj⟩
          clear HT HX HR3 HO3 c2 HR2 HO2 H HR
          go_wp2_with fail
          go_loopg [39] N (fun gk v wx => ∃ k : Nat, v = .int .i64 k ∧ k + gk ≤ N ∧ N ≤ k + gk ∧ Hid (Cop w b d s most A kv p1 p2 a3 far n k out wx))
          case atStart => exact ⟨0, rfl, by omega, by omega, HC⟩
          case round =>
            clear HC
            obtain ⟨k, rfl, hk, hk2, HC⟩ := hrel
            by_cases hlt : k < N
            · obtain ⟨A', c', g1, g2, g3, g4⟩ := HC.out
              have hl1 := copyF_length far k out
              obtain ⟨L, hL⟩ : ∃ L, n + k = L := ⟨_, rfl⟩
              rw [hL] at g1
              have hsn := copyF_snoc far k out
              have hl2 := g1.len
              rw [hl2] at hsn
              obtain ⟨g, e1, e2, _⟩ := g1.row.cell (bcells_at (copyF far k out) (L - far) (by omega))
              subst e1
              obtain ⟨yb, hyb⟩ : ∃ yb, (copyF far k out).getD (L - far) 0 = yb := ⟨_, rfl⟩
              rw [hyb] at hsn e2
              obtain ⟨z, hz⟩ : ∃ z, yb.toNat = z := ⟨_, rfl⟩
              rw [hz] at e2
              have d2 := g1.is.cell 2 rfl
              have eI : (L : Int) - (far : Int) = ((L - far : Nat) : Int) := by omega
              obtain ⟨i, hi⟩ : ∃ i, L - far = i := ⟨_, rfl⟩
              have hiL : i < L := by omega
              rw [hi] at eI e2
              have eW : IntKind.i64.wrap (i : Int) = (i : Int) := IntWalk.i64_in _ (by omega)
              have iL : (i : Int) < (L : Int) := by omega
              have i0 : 0 ≤ (i : Int) := by omega
              obtain ⟨wy, hwy⟩ : ∃ wy, wr.drew.alloc (.cells #[.int .u8 (z : Nat)] 5) = wy := ⟨_, rfl⟩
              have hoy : Only (fun _ => False) wr wy := by rw [← hwy]; exact ((Only.refl _ wr).drew).alloc _
              have hby : b < wy.heap.size := Nat.lt_of_lt_of_le g2.lt hoy.size
              have hS := Src.oneInt Try.underlying40 wr.drew .u8 z 1 5
              rw [hwy] at hS
              have gy := g1.new hoy
              have FIN : Hid (∀ A9 c9 w9, Row 5 w9 A9 (L + 1) c9 (bcells (copyF far k out) ++ [.int .u8 (z : Nat)]) → Only (Lies (some ⟨g, 0, none⟩)) wy w9 → (A9 = some ⟨g, 0, none⟩ ∨ A9 = some ⟨wy.heap.size, 0, none⟩) →
                  Cop w b d s most A kv p1 p2 a3 far n (k + 1) out (w9.setCell ⟨d, 2, none⟩ (.slice A9 (L + 1) c9)) ∧ w9.cell? ⟨d, 2, none⟩ = some (.slice (some ⟨g, 0, none⟩) L c') ∧ w9.frozen? ⟨d, 2, none⟩ = false) := Lib.hid fun A9 c9 w9 r1 r2 r3 => by
                rw [← hz, bcells_snoc] at r1
                obtain ⟨f1, f2, f3⟩ := gy.append hby r1 rfl r2 r3
                have i9 := gy.is.only r2 gy.nd
                refine ⟨⟨A9, c9, ?_, (g2.only hoy fun f => f).only f2 ?_, ?_, fun j hj => ?_⟩, i9.cell 2 rfl, i9.frozen 2⟩
                · rw [hsn, show n + (k + 1) = L + 1 from by omega]
                  exact f1
                · rintro (e | e)
                  · exact gy.ne e.symm
                  · exact gy.nb e
                · refine (g3.trans (hoy.mono fun _ f => f.elim)).andThen f2 ?_
                  rintro j (e | e)
                  · exact .inl (.inr (.inl e))
                  · exact (g4 j e).imp (fun x => .inr (.inr x)) id
                · rcases f3 j hj with e | e
                  · exact g4 j e
                  · exact .inr (Nat.le_trans (g3.trans (hoy.mono fun _ f => f.elim)).size e)
              have HRW := Lib.hid gy.row
              have d2y := gy.is.cell 2 rfl
              have HS := Lib.hid hS
              have B1 : (1 : Nat) ≤ 8 := by decide
              have B2 : L + 1 ≤ 1099511627776 := by have := HN.out; omega
              have hfz := g1.is.frozen 2
              clear g1 g2 g3 g4 gy hsn hl1 hl2 hyb hz hS hoy hby
              go_wp2_with fail
              go_region_law (first
                | (refine step_append_row (by rfl) (.tmp 45) (.tmp 59) 40 40 5 (by rfl) Try.underlying40 info5 (some ⟨g, 0, none⟩) L c' 1 (bcells (copyF far k out)) [.int .u8 (z : Nat)] (.slice (some ⟨wr.heap.size, 0, none⟩) 1 1) (by rfl) (by rfl) (by first | exact HRW.out | (rw [hwy]; exact HRW.out)) rfl (by first | exact HS.out | (rw [hwy]; exact HS.out)) B1 B2 ?_
                   intro A9 c9 w9 hrow9 honly9 hlies9
                   try rw [hwy] at honly9 hlies9
                   obtain ⟨H9, k1', k2'⟩ := FIN.out A9 c9 w9 hrow9 honly9 hlies9
                   have H9 := Lib.hid H9
                   clear hrow9 honly9 hlies9))
              all_goals
                go_wp2_with fail
                go_roundg (gk - 1)
                case measure => omega
                case rel => exact ⟨k + 1, by go_num, by omega, by omega, H9⟩
            · obtain rfl : k = N := by omega
              have HF := Lib.hid (HDN.out wr HC.out)
              clear HC HDN
              go_wp2
              go_ret
              exact HF.out
    · rw [if_pos hx2]
      have hx3 : ¬ (x2 : Int) = 0 := by omega
      clear q2 hx2
      go_enter Try.func94, Try.ntmps94
      go_wp2_with fail
      refine HL.out.mono ?_
      rintro e w2 ⟨rfl, hr2, ho2⟩
      have HR2 := Lib.hid (hr2 rfl)
      have HO2 := Lib.hid ho2
      clear hr2 ho2 HL
      go_wp2_with fail
      refine (HD2.out w2 HO2.out HR2.out).mono ?_
      rintro e w3 ⟨rfl, hr3, ho3⟩
      have HO3 := Lib.hid (HO2.out.trans ho3)
      clear hr3 ho3 HD2
      go_wp2
      go_ret
      exact ⟨rfl, HO3.out.mono fun _ e => .inl e, fun h => absurd h (by simp; omega)⟩
  · rw [if_pos hx1]
    have hx3 : ¬ (x1 : Int) = 0 := by omega
    clear q1 hx1 HD
    go_enter Try.func94, Try.ntmps94
    go_wp2_with fail
    refine HL.out.mono ?_
    rintro e w2 ⟨rfl, hr2, ho2⟩
    have HO2 := Lib.hid ho2
    clear hr2 ho2 HL
    go_wp2
    go_ret
    exact ⟨rfl, HO2.out.mono fun _ e => .inl e, fun h => absurd h (by simp; omega)⟩
end Go.Proofs.Ytoclbodmibagpaa
