/- Layer 5: the walk of PrefixReads. -/
import Derived.Test.YtfobkknbhflnbaaRefRead
import Derived.Test.YtfobkknbhflnbaaChecks
namespace Go.Proofs.Ytfobkknbhflnbaa
open Go.RowKit

theorem rread (A A2 : Option Addr) (n c m c2 B a : Nat) (l : List Nat) (bl : List UInt8) (w : World) (h : See w B A (ints l)) (hb : Sees w A2 m bl) (hbits : Bits bl) (hn : l.length = n) (h288 : n ≤ 288) (hl : Low l) (hk : (kd l).2 = 0) (hm : m ≤ 1073741824) (ha : a ≤ m) :
    Calls Try.prog 16 #[.slice A n c, .slice A2 m c2, .int .i64 a] w (RdPost w (rdp l bl a)) := by
  rcases kd_cases l hl with ⟨h1, h2, h3⟩ | ⟨h1, h2, h3⟩ | ⟨h1, h2, h3⟩ | ⟨h1, h2, h4, h3⟩
  · exact rread_some A A2 n c m c2 B a 0 15 l bl w h hb hbits hn h288 hl h3 (.inl ⟨rfl, rfl⟩) (rdp_full l bl hbits a h1 h2).symm hm ha
  · refine rread_some A A2 n c m c2 B a 1 1 l bl w h hb hbits hn h288 hl h3 (.inr ⟨rfl, rfl⟩) ?_ hm ha
    unfold rdp
    rw [(lone_lg l h2 h1).1]
  · exact rread_empty A A2 n c m c2 B a l bl w h hn h288 hl h3 h2
  · rw [h3] at hk
    cases hk

theorem scan_moves (l : List Nat) (b : List UInt8) : ∀ (f K n p : Nat), (scan l b f K n p).2.2 = 0 → p < (scan l b f K n p).2.1 ∧ (scan l b f K n p).2.1 ≤ b.length
  | 0, K, n, p, h => by simp [scan] at h
  | f + 1, K, n, p, h => by
    rw [scan_unfold1] at h ⊢
    by_cases h1 : b.length ≤ p
    · rw [if_pos h1] at h
      simp at h
    · rw [if_neg h1] at h ⊢
      by_cases h2 : 2 * n + bt b p < fi l K + cn l K
      · rw [if_pos h2]
        exact ⟨Nat.lt_succ_self _, by simp; omega⟩
      · rw [if_neg h2] at h ⊢
        have := scan_moves l b f (K + 1) (2 * n + bt b p) (p + 1) h
        omega

/-- The reader stands at a; all else is as it was laid. -/
def LoopAt (wb : World) (R : Nat) (s : ByteArray) (a : Nat) (wx : World) : Prop := Rd wx R s a false ∧ Only (· = R) wb wx

set_option maxRecDepth 100000 in
set_option maxHeartbeats 2000000 in
theorem reads_good (A : Option Addr) (n c : Nat) (l : List Nat) (s : ByteArray) (w : World) (h : See w w.heap.size A (ints l)) (hn : l.length = n) (h60 : n ≤ 60) (hs : s.size ≤ 40) (hl : Low l) (hk : (kd l).2 = 0) : Calls Try.prog 4 #[.slice A n c, .string s] w (Yes w) := by
  have HS := Lib.hid h
  have HL := Lib.hid hl
  have HN := Lib.hid hn
  have HK := Lib.hid hk
  obtain ⟨k, hk1⟩ : ∃ k, (kd l).1 = k := ⟨_, rfl⟩
  have H8 : Hid (∀ w', Only (fun _ => False) w w' → Calls Try.prog 8 #[.slice A n c] w' fun e w'' => e = .returned (.tuple #[.int .i64 k, .int .i64 0]) ∧ w' = w'') := Lib.hid fun w' ho => by
    have := rcheck_yes A n c _ l w' (h.new ho) hn (by omega) hl
    rw [hk, hk1] at this
    exact this
  clear h hl hn hk hk1
  go_enter Try.func4, Try.ntmps4
  go_wp2_with fail
  refine (awake w).mono ?_
  rintro e w1 ⟨rfl, ho1⟩
  have HO1 := Lib.hid ho1
  clear ho1
  go_wp2_with fail
  refine (H8.out w1 HO1.out).mono ?_
  rintro e w2 ⟨rfl, rfl⟩
  clear H8
  go_wp2_with fail
  refine (new_yes A n c _ l w1 (HS.out.new HO1.out) HO1.out.size HN.out (by omega) HL.out HK.out).mono ?_
  rintro e w2 ⟨T, rfl, ht2, ho2, hT2⟩
  have HO2 := Lib.hid (HO1.out.trans ho2)
  have HT2 := Lib.hid ht2
  have hTl := ht2.lt
  clear ho2 ht2
  go_wp2_with fail
  refine (newReader s w2).mono ?_
  rintro e w3 ⟨rfl, rfl⟩
  have HR3 : Hid (Rd (w2.alloc (.cells #[.string s, .int .i64 0, .bool false] 64)) w2.heap.size s 0 false) := Lib.hid (Is.new w2 64 _)
  have HO3 : Hid (Only (fun _ => False) w2 (w2.alloc (.cells #[.string s, .int .i64 0, .bool false] 64))) := Lib.hid ((Only.refl _ w2).alloc _)
  obtain ⟨w3, hw3⟩ : ∃ w3, w2.alloc (.cells #[.string s, .int .i64 0, .bool false] 64) = w3 := ⟨_, rfl⟩
  have hR3 : w2.heap.size < w3.heap.size := by rw [← hw3]; simp
  rw [hw3] at HR3 HO3
  try rw [hw3]
  obtain ⟨R, hR⟩ : ∃ R, w2.heap.size = R := ⟨_, rfl⟩
  have hwR : w.heap.size ≤ R := by rw [← hR]; exact HO2.out.size
  rw [hR] at HR3 hR3 hTl
  try rw [hR]
  have HRR := Lib.hid hR
  clear hw3 hR
  go_wp2_with fail
  refine (of s w3 (by omega)).mono ?_
  rintro e wb ⟨A2, c2, rfl, hM⟩
  have HM := Lib.hid hM
  have HOb : Hid (Only (fun _ => False) w wb) := Lib.hid (HO2.out.trans (HO3.out.trans hM.2.1))
  have HTb : Hid (Tab wb T l) := Lib.hid (HT2.out.new (HO3.out.trans hM.2.1))
  have HSb : Hid (See wb w.heap.size A (ints l)) := Lib.hid (HS.out.new HOb.out)
  have HRb : Hid (Rd wb R s 0 false) := Lib.hid (Is.only HR3.out hM.2.1 id)
  have HBb : Hid (∀ j, Lies A2 j → ¬ j = R) := Lib.hid fun j hj e => by have := hM.2.2 j hj; omega
  clear hM
  obtain ⟨m, hm⟩ : ∃ m, 8 * s.size = m := ⟨_, rfl⟩
  have hm2 : m ≤ 320 := by omega
  have HMs := Lib.hid hm
  rw [hm] at HM ⊢
  clear hm
  go_wp2_with fail
  go_loopg [11] m (fun gk p wx => ∃ a : Nat, p = .int .i64 a ∧ a + gk ≤ m ∧ m ≤ a + gk ∧ LoopAt wb R s a wx)
  case atStart => exact ⟨0, rfl, by omega, by omega, HRb.out, Only.refl _ _⟩
  case round =>
    obtain ⟨a, rfl, ha, ha2, hrd, hon⟩ := hrel
    have ht : Tab wr T l := HTb.out.keep (hon.keep _ fun j hj => by rw [hj]; omega)
    have HS' : Hid (See wr w.heap.size A (ints l)) := Lib.hid (HSb.out.keep (hon.keep _ fun j hj => by rw [hj]; exact hwR))
    have HRow : Hid (BRow 5 wr A2 m c2 (bitsOf s.data.toList)) := Lib.hid (HM.out.1.only hon HBb.out)
    have HRD := Lib.hid (tread T R s l a wr ht hrd hTl HL.out (by rw [HN.out]; omega) (by omega) (by rw [HMs.out]; omega))
    have hmv := scan_moves l (bitsOf s.data.toList) (lg l) 1 0 a
    rw [bits_len, HMs.out] at hmv
    have hrr : rdp l (bitsOf s.data.toList) a = scan l (bitsOf s.data.toList) (lg l) 1 0 a := rfl
    rw [← hrr] at hmv
    obtain ⟨r, hr⟩ : ∃ r, rdp l (bitsOf s.data.toList) a = r := ⟨_, rfl⟩
    rw [hr] at HRD hmv
    have HRR2 := Lib.hid hr
    obtain ⟨y, nx, er⟩ := r
    simp only at hmv
    have HMV := Lib.hid hmv
    have HO := Lib.hid hon
    clear ht hrd hon hmv hrr hr
    go_wp2_with fail
    refine HRD.out.mono ?_
    rintro e w4 ⟨rfl, hrd4, ho4⟩
    simp only at hrd4
    have HRD4 := Lib.hid hrd4
    have HO4 := Lib.hid (HO.out.trans ho4)
    have HO44 := Lib.hid ho4
    clear hrd4 ho4 HRD
    go_wp2_with fail
    have HRF := Lib.hid (rread A A2 n c m c2 w.heap.size a l (bitsOf s.data.toList) w4 (HS'.out.keep (HO44.out.keep _ fun j hj => by rw [hj]; exact hwR)) (Sees.of_row (HRow.out.only HO44.out HBb.out)) (bitsOf_bits _) HN.out (by omega) HL.out HK.out (by omega) (by omega))
    rw [HRR2.out] at HRF
    refine HRF.out.mono ?_
    rintro e w5 ⟨rfl, ho5⟩
    simp only
    have HO5 := Lib.hid ho5
    clear ho5 HRF
    by_cases he : er = 0
    · subst he
      obtain ⟨v1, v2⟩ := HMV.out rfl
      have HRD5 : Hid (Rd w5 R s nx false) := Lib.hid (Is.only (HRD4.out rfl) HO5.out id)
      go_wp2_with fail
      refine (at_ R s nx false w5 HRD5.out).mono ?_
      rintro e w6 ⟨rfl, rfl⟩
      go_wp2_with fail
      go_roundg (m - nx)
      case measure => omega
      case rel => exact ⟨nx, rfl, by omega, by omega, HRD5.out, HO4.out.trans (HO5.out.mono fun _ f => f.elim)⟩
    · have he2 : ¬ (er : Int) = 0 := by omega
      go_wp2
      go_ret
      refine ⟨rfl, HOb.out.andThen (HO4.out.trans (HO5.out.mono fun _ f => f.elim)) fun j hj => .inr (by rw [hj]; exact hwR)⟩

set_option maxRecDepth 100000 in
set_option maxHeartbeats 2000000 in
theorem reads_none (A : Option Addr) (n c k x : Nat) (s : ByteArray) (w : World) (h60 : n ≤ 60) (hs : s.size ≤ 40) (hx : x ≠ 0)
    (h8 : ∀ w', Only (fun _ => False) w w' → Calls Try.prog 8 #[.slice A n c] w' fun e w'' => e = .returned (.tuple #[.int .i64 k, .int .i64 x]) ∧ w' = w'') : Calls Try.prog 4 #[.slice A n c, .string s] w (Yes w) := by
  have H8 := Lib.hid h8
  have hx2 : ¬ (x : Int) = 0 := by omega
  clear h8
  go_enter Try.func4, Try.ntmps4
  go_wp2_with fail
  refine (awake w).mono ?_
  rintro e w1 ⟨rfl, ho1⟩
  have HO1 := Lib.hid ho1
  clear ho1
  go_wp2_with fail
  refine (H8.out w1 HO1.out).mono ?_
  rintro e w2 ⟨rfl, rfl⟩
  clear H8
  go_wp2
  go_ret
  exact ⟨rfl, HO1.out⟩

set_option maxRecDepth 100000 in
set_option maxHeartbeats 2000000 in
theorem reads (A : Option Addr) (n c : Nat) (z : List Int) (s : ByteArray) (w : World) (h : See w w.heap.size A (zints z)) (hn : z.length = n) (hm : n ≤ maxLen) (hsm : s.size ≤ maxLen) : Calls Try.prog 4 #[.slice A n c, .string s] w (Yes w) := by
  unfold maxLen at hm hsm
  by_cases h60 : n ≤ 60
  · by_cases hs : s.size ≤ 40
    · by_cases hz : Okay z
      · obtain ⟨l, e, hl1, hl2, hl3⟩ := hz.nat
        rw [e] at h
        rw [hn] at hl1
        rw [hl1] at hl2
        by_cases hk : (kd l).2 = 0
        · exact reads_good A n c l s w h hl1 h60 hs hl3 hk
        · exact reads_none A n c (kd l).1 (kd l).2 s w h60 hs hk (fun w' ho => rcheck_yes A n c _ l w' (h.new ho) hl1 hl2 hl3)
      · exact reads_none A n c 0 1 s w h60 hs (by decide) (fun w' ho => rcheck_no A n c _ z w' (h.new ho) hn (by omega) hz)
    · clear h hn
      go_enter Try.func4, Try.ntmps4
      go_wp2_with fail
      refine (awake w).mono ?_
      rintro e w1 ⟨rfl, ho1⟩
      have HO1 := Lib.hid ho1
      clear ho1
      go_wp2
      go_ret
      exact ⟨rfl, HO1.out⟩
  · clear h hn
    go_enter Try.func4, Try.ntmps4
    go_wp2_with fail
    refine (awake w).mono ?_
    rintro e w1 ⟨rfl, ho1⟩
    have HO1 := Lib.hid ho1
    clear ho1
    go_wp2
    go_ret
    exact ⟨rfl, HO1.out⟩
end Go.Proofs.Ytfobkknbhflnbaa
