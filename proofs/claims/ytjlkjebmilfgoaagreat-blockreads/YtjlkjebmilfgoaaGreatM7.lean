/- Layer 5: a symbol read, by the program and by the document. -/
import Derived.Test.YtjlkjebmilfgoaaGreatM6
/- Layer 5: a symbol read by a table: the program's Read. -/
namespace Go.Proofs.YtjlkjebmilfgoaaGreat
open Go.RowKit

theorem bv64 (x : Nat) (h : x < 9223372036854775808) : (BitVec.ofInt 64 (x : Int)).toNat = x := by simp; omega
theorem or_i64 (x y : Nat) (hx : x < 4611686018427387904) (hy : y < 4611686018427387904) : bits .or .i64 (x : Int) (y : Int) = ((x ||| y : Nat) : Int) := by
  have h : x ||| y < 2 ^ 62 := Nat.or_lt_two_pow (by omega) (by omega)
  unfold bits
  show IntKind.i64.wrap (((BitVec.ofInt 64 (x : Int) ||| BitVec.ofInt 64 (y : Int)).toNat : Nat) : Int) = _
  rw [BitVec.toNat_or, bv64 x (by omega), bv64 y (by omega)]
  exact IntWalk.i64_in ((x ||| y : Nat) : Int) (by omega)
theorem or_bit (x y : Nat) (hx : x < 1000000) (hy : y < 2) : bits .or .i64 ((x : Int) * 2) (y : Int) = ((2 * x + y : Nat) : Int) := by
  have h := or_i64 (2 * x) y (by omega) (by omega)
  have h2 : 2 * x ||| y = 2 * x + y := by
    rw [Nat.or_comm, show 2 * x = 2 ^ 1 * x from rfl, or_add y x 1 (by omega)]
    omega
  rw [h2] at h
  rw [← h]
  simp [Int.mul_comm]
theorem bit_of (s : ByteArray) (a : Nat) : le s.data.toList / 2 ^ a % 2 ^ 1 = bt (bitsOf s.data.toList) a := by
  rw [bt_le2 _ (bitsOf_bits _), le2_bitsOf]
theorem bits_len (s : ByteArray) : (bitsOf s.data.toList).length = 8 * s.size := by rw [bitsOf_length]; rfl

theorem scan_unfold (l : List Nat) (b : List UInt8) (k n p : Nat) (h : k < lg l) : scan l b (lg l - k) (k + 1) n p = if b.length ≤ p then (0, p, 3) else if 2 * n + bt b p < fi l (k + 1) + cn l (k + 1) then (sy l (st l (k + 1) + (2 * n + bt b p - fi l (k + 1))), p + 1, 0) else scan l b (lg l - (k + 1)) (k + 1 + 1) (2 * n + bt b p) (p + 1) := by
  rw [show lg l - k = (lg l - (k + 1)) + 1 by omega]
  rfl
end Go.Proofs.YtjlkjebmilfgoaaGreat

/- Layer 5: the document's Read. -/
namespace Go.Proofs.YtjlkjebmilfgoaaGreat
open Go.RowKit

/-- The symbol whose code of length K is the number N. -/
theorem find_yes (l : List Nat) (K N : Nat) (hK : 1 ≤ K) (hK2 : K ≤ 15) (h1 : fi l K ≤ N) (h2 : N < fi l K + cn l K) :
    sy l (st l K + (N - fi l K)) < l.length ∧ ln l (sy l (st l K + (N - fi l K))) = K ∧ cd l (sy l (st l K + (N - fi l K))) = N ∧ ∀ i, i < l.length → ln l i = K → cd l i = N → i = sy l (st l K + (N - fi l K)) := by
  obtain ⟨p, hp⟩ : ∃ p, st l K + (N - fi l K) = p := ⟨_, rfl⟩
  rw [hp]
  have h3 : st l (K + 1) = st l K + cn l K := rfl
  have h4 := st_mono l (K + 1) 16 (by omega)
  obtain ⟨s1, s2⟩ := sy_of l p (by omega)
  have h5 := ps_lt l (sy l p) s1
  have h6 : ps l (sy l p) = st l (ln l (sy l p)) + rk l (sy l p) := rfl
  have h7 : ln l (sy l p) = K := by
    rcases Nat.lt_trichotomy (ln l (sy l p)) K with h | h | h
    · have := st_mono l (ln l (sy l p) + 1) K h
      omega
    · exact h
    · have := st_mono l (K + 1) (ln l (sy l p)) h
      omega
  have h8 := cd_has l (sy l p) s1
  rw [h7] at h6 h8
  refine ⟨s1.1, h7, by omega, fun i hi hi1 hi2 => ?_⟩
  have h9 : Has l i := ⟨hi, by omega⟩
  have h10 := cd_has l i h9
  rw [hi1] at h10
  refine ps_inj l i (sy l p) h9 s1 ?_
  unfold ps
  rw [hi1, h7]
  omega
theorem find_no (l : List Nat) (K N : Nat) (hK : 1 ≤ K) (h : fi l K + cn l K ≤ N) (i : Nat) (hi : i < l.length) (hi1 : ln l i = K) : cd l i ≠ N := by
  have h9 : Has l i := ⟨hi, by omega⟩
  have h10 := cd_has l i h9
  have h11 := rk_lt l i h9
  rw [hi1] at h10 h11
  omega
theorem scan_unfold1 (l : List Nat) (b : List UInt8) (f K n p : Nat) : scan l b (f + 1) K n p = if b.length ≤ p then (0, p, 3) else if 2 * n + bt b p < fi l K + cn l K then (sy l (st l K + (2 * n + bt b p - fi l K)), p + 1, 0) else scan l b f (K + 1) (2 * n + bt b p) (p + 1) := rfl

def RdPost (w : World) (r : Nat × Nat × Nat) (e : Ending) (w' : World) : Prop := e = .returned (.tuple #[.int .i64 r.1, .int .i64 r.2.1, .int .i64 r.2.2]) ∧ Only (fun _ => False) w w'

theorem rread_empty (A A2 : Option Addr) (n c m c2 B a : Nat) (l : List Nat) (bl : List UInt8) (w : World) (h : See w B A (ints l)) (hn : l.length = n) (h288 : n ≤ 288) (hl : Low l) (hk : kd l = (2, 0)) (h0 : st l 16 = 0) :
    Calls Tryz.prog 115 #[.slice A n c, .slice A2 m c2, .int .i64 a] w (RdPost w (rdp l bl a)) := by
  have HC := Lib.hid (rcheck_yes A n c B l w h hn h288 hl)
  rw [hk] at HC
  have HR : Hid (rdp l bl a = (0, a, 10)) := Lib.hid (by unfold rdp; rw [lg_zero l h0]; rfl)
  clear h hn hl hk h0
  go_enter Tryz.func115, Tryz.ntmps115
  go_wp2_with fail
  refine HC.out.mono ?_
  rintro e w' ⟨rfl, rfl⟩
  go_wp2
  go_ret3
  exact ⟨by rw [HR.out]; rfl, Only.refl _ _⟩

def ScanAt (l : List Nat) (bl : List UInt8) (r : Nat × Nat × Nat) (F k K N P : Nat) : Prop := fi l k + cn l k ≤ N ∧ N < 2 ^ k ∧ r = scan l bl (F - k) K N P ∧ (F = 1 → k = 0)

set_option maxRecDepth 100000 in
set_option maxHeartbeats 2000000 in
theorem rread_some (A A2 : Option Addr) (n c m c2 B a Z F : Nat) (l : List Nat) (bl : List UInt8) (w : World) (h : See w B A (ints l)) (hb : Sees w A2 m bl) (hbits : Bits bl) (hn : l.length = n) (h288 : n ≤ 288) (hl : Low l) (hk : kd l = (Z, 0)) (hZ : (Z = 0 ∧ F = 15) ∨ (Z = 1 ∧ F = 1))
    (hr : rdp l bl a = scan l bl F 1 0 a) (hm : m ≤ 1073741824) (ha : a ≤ m) :
    Calls Tryz.prog 115 #[.slice A n c, .slice A2 m c2, .int .i64 a] w (RdPost w (rdp l bl a)) := by
  have HC := Lib.hid (rcheck_yes A n c B l w h hn h288 hl)
  rw [hk] at HC
  have HS := Lib.hid h
  have HB := Lib.hid hb
  have HBt := Lib.hid hbits
  have HL := Lib.hid hl
  have HN := Lib.hid hn
  have HZ := Lib.hid hZ
  have hZ2 : ¬ (Z : Int) = 2 := by omega
  obtain ⟨r, hr1⟩ : ∃ r, rdp l bl a = r := ⟨_, rfl⟩
  rw [hr1] at hr ⊢
  have HST : Hid (ScanAt l bl r F 0 1 0 a) := Lib.hid ⟨by simp [fi, cn], by decide, hr, fun _ => rfl⟩
  clear h hb hbits hn hl hk hZ hr hr1
  go_enter Tryz.func115, Tryz.ntmps115
  go_wp2_with fail
  refine HC.out.mono ?_
  rintro e w' ⟨rfl, rfl⟩
  clear HC
  go_wp2_with fail
  refine (rcodes A n c B l w HS.out HN.out h288 HL.out).mono ?_
  rintro e w1 ⟨g, rfl, hM⟩
  have HM := Lib.hid hM
  have HS1 : Hid (See w1 B A (ints l)) := Lib.hid (HS.out.new hM.2.1)
  clear hM
  go_wp2_with fail
  go_loopg [2, 12, 13] 15 (fun gk p x i wx => ∃ k K N P : Nat, i = .int .i64 K ∧ x = .int .i64 N ∧ p = .int .i64 P ∧ K + gk ≤ 16 ∧ 16 ≤ K + gk ∧ K = k + 1 ∧ P ≤ m ∧ N ≤ 65536 ∧ Hid (ScanAt l bl r F k K N P) ∧ wx = w1)
  case atStart => exact ⟨0, 1, 0, a, rfl, rfl, rfl, by omega, by omega, rfl, ha, by omega, HST, rfl⟩
  case round =>
    clear HST
    obtain ⟨k, K, N, P, rfl, rfl, rfl, hk, hk2, hK, hP, hN, HI, rfl⟩ := hrel
    by_cases hlt : K ≤ 15
    · obtain ⟨i1, i2, i3, i4⟩ := HI.out
      have hkF : k < F := by have := HZ.out; omega
      rw [show F - k = (F - (k + 1)) + 1 by omega, scan_unfold1, HB.out.1] at i3
      have hfi : fi l K = 2 * (fi l k + cn l k) := by rw [hK]; rfl
      have hK1 : 1 ≤ K := by omega
      have dK : decide ((K : Int) ≤ 15) = true := by simp; omega
      have hK15 : (K : Int) ≤ 15 := by omega
      by_cases hPm : P < m
      · rw [if_neg (by omega)] at i3
        have dP : decide ((m : Int) ≤ P) = false := by simp; omega
        have dP2 : ¬ (m : Int) ≤ P := by omega
        obtain ⟨b2, off2, rfl, hc2⟩ := HB.out.at_ HM.out.2.1 hPm
        have hbt := bt_lt bl HBt.out P
        have e1 : (bl[P]?.getD 0).toNat = bt bl P := by unfold bt; rw [List.getD_eq_getElem?_getD]
        rw [e1] at hc2
        obtain ⟨t, ht⟩ : ∃ t, bt bl P = t := ⟨_, rfl⟩
        rw [ht] at hc2 hbt i3
        have hps : 2 ^ (k + 1) = 2 * 2 ^ k := by rw [Nat.pow_succ, Nat.mul_comm]
        have hp15 : 2 ^ k ≤ 2 ^ 14 := Nat.pow_le_pow_right (by decide) (by omega)
        obtain ⟨V, hV⟩ : ∃ V, 2 * N + t = V := ⟨_, rfl⟩
        rw [hV] at i3
        have hVfi : fi l K ≤ V := by omega
        have hV2 : V < 2 ^ (k + 1) := by omega
        have hV3 : V ≤ 65536 := by omega
        have hVi : 2 * (N : Int) + (t : Int) = (V : Int) := by omega
        have HV2 := Lib.hid hV2
        have hN2 : N ≤ 32768 := by omega
        clear ht hV hps hp15 e1 i1 i2 HI hV2
        by_cases hf : V < fi l K + cn l K
        · obtain ⟨f1, f2, f3, f4⟩ := find_yes l K V hK1 hlt hVfi hf
          rw [if_pos hf] at i3
          obtain ⟨s0, hs0⟩ : ∃ s0, sy l (st l K + (V - fi l K)) = s0 := ⟨_, rfl⟩
          rw [hs0] at f1 f2 f3 f4 i3
          rw [HN.out] at f1
          have F2 := Lib.hid f2
          have F3 := Lib.hid f3
          have F4 := Lib.hid f4
          have HR := Lib.hid i3
          have HK := Lib.hid hK
          clear hs0 f2 f3 f4 i3 i4 hf hVfi hfi hK hkF
          go_wp2_with fail
          go_loopg [14] n (fun gj i wx => ∃ j : Nat, i = .int .i64 j ∧ j + gj ≤ n ∧ n ≤ j + gj ∧ j ≤ s0 ∧ wx = wr)
          case atStart => exact ⟨0, rfl, by omega, by omega, by omega, rfl⟩
          case round =>
            obtain ⟨j, rfl, hj, hj2, hjs, rfl⟩ := hrel
            have hjn : j < n := by omega
            obtain ⟨b1, off1, rfl, _, q1⟩ := HS1.out j _ (ints_at l j (by rw [HN.out]; exact hjn))
            obtain ⟨g', eg, q2, _⟩ := HM.out.1.cell (ints_at (cds l) j (by rw [cds_length, HN.out]; exact hjn))
            simp only [Option.some.injEq, Addr.mk.injEq, and_true] at eg
            subst eg
            rw [show ln (cds l) j = cd l j from map_at _ _ j (by rw [HN.out]; exact hjn)] at q2
            have h4 := F4.out j (by rw [HN.out]; exact hjn)
            have h2 := F2.out
            have h3 := F3.out
            by_cases hjs2 : j = s0
            · subst hjs2
              rw [h2] at q1
              rw [h3] at q2
              clear h2 h3 h4
              go_wp2
              go_ret3
              exact ⟨by rw [HR.out]; rfl, HM.out.2.1⟩
            · obtain ⟨x, hx⟩ : ∃ x, ln l j = x := ⟨_, rfl⟩
              obtain ⟨y, hy⟩ : ∃ y, cd l j = y := ⟨_, rfl⟩
              rw [hx] at q1 h4
              rw [hy] at q2 h4
              clear hx hy h2 h3
              by_cases hxK : x = K
              · have hyV : ¬ y = V := fun e => hjs2 (h4 hxK e)
                have hyV2 : ¬ (y : Int) = (V : Int) := by omega
                subst hxK
                clear h4
                go_wp2_with fail
                go_roundg (gk - 1)
                case measure => omega
                case rel => exact ⟨j + 1, by go_num, by omega, by omega, by omega, rfl⟩
              · have hxK2 : ¬ (x : Int) = (K : Int) := by omega
                clear h4
                go_wp2_with fail
                go_roundg (gk - 1)
                case measure => omega
                case rel => exact ⟨j + 1, by go_num, by omega, by omega, by omega, rfl⟩
        · rw [if_neg hf] at i3
          have FN := Lib.hid (find_no l K V hK1 (by omega))
          have HR := Lib.hid i3
          have HK := Lib.hid hK
          have HF := Lib.hid hf
          have H4 := Lib.hid i4
          clear i3 i4 hf hVfi hfi hK hkF
          go_wp2_with fail
          go_loopg [14] n (fun gj i wx => ∃ j : Nat, i = .int .i64 j ∧ j + gj ≤ n ∧ n ≤ j + gj ∧ wx = wr)
          case atStart => exact ⟨0, rfl, by omega, by omega, rfl⟩
          case round =>
            obtain ⟨j, rfl, hj, hj2, rfl⟩ := hrel
            by_cases hjn : j < n
            · obtain ⟨b1, off1, rfl, _, q1⟩ := HS1.out j _ (ints_at l j (by rw [HN.out]; exact hjn))
              obtain ⟨g', eg, q2, _⟩ := HM.out.1.cell (ints_at (cds l) j (by rw [cds_length, HN.out]; exact hjn))
              simp only [Option.some.injEq, Addr.mk.injEq, and_true] at eg
              subst eg
              rw [show ln (cds l) j = cd l j from map_at _ _ j (by rw [HN.out]; exact hjn)] at q2
              have h4 := FN.out j (by rw [HN.out]; exact hjn)
              obtain ⟨x, hx⟩ : ∃ x, ln l j = x := ⟨_, rfl⟩
              obtain ⟨y, hy⟩ : ∃ y, cd l j = y := ⟨_, rfl⟩
              rw [hx] at q1 h4
              rw [hy] at q2 h4
              clear hx hy
              by_cases hxK : x = K
              · have hyV : ¬ y = V := h4 hxK
                have hyV2 : ¬ (y : Int) = (V : Int) := by omega
                subst hxK
                clear h4
                go_wp2_with fail
                go_roundg (gk - 1)
                case measure => omega
                case rel => exact ⟨j + 1, by go_num, by omega, by omega, rfl⟩
              · have hxK2 : ¬ (x : Int) = (K : Int) := by omega
                clear h4
                go_wp2_with fail
                go_roundg (gk - 1)
                case measure => omega
                case rel => exact ⟨j + 1, by go_num, by omega, by omega, rfl⟩
            · by_cases hZ1 : Z = 1
              · have hF1 : F - (k + 1) = 0 := by have := HZ.out; omega
                have HR2 : Hid (r = (0, P + 1, 10)) := Lib.hid (by rw [HR.out, hF1]; rfl)
                subst hZ1
                clear hF1
                go_wp2
                go_ret3
                exact ⟨by rw [HR2.out]; rfl, HM.out.2.1⟩
              · have hZ3 : ¬ (Z : Int) = 1 := by omega
                have HF1 : Hid (F = 15) := Lib.hid (by have := HZ.out; omega)
                go_wp2_with fail
                go_roundg (15 - K)
                case measure => omega
                case rel =>
                  refine ⟨k + 1, K + 1, V, P + 1, by go_num, by go_num, by go_num, by omega, by omega, by have := HK.out; omega, by omega, hV3, Lib.hid ⟨?_, HV2.out, HR.out, fun e => ?_⟩, rfl⟩
                  · have := HF.out
                    have := HK.out
                    rw [← HK.out]
                    omega
                  · have := HF1.out
                    omega
      · rw [if_pos (by omega)] at i3
        have HR := Lib.hid i3
        have dP : (m : Int) ≤ P := by omega
        clear i1 i2 i3 i4 HI hfi
        go_wp2
        go_ret3
        exact ⟨by rw [HR.out]; rfl, HM.out.2.1⟩
    · obtain rfl : K = 16 := by omega
      have hF : F - k = 0 := by have := HZ.out; have := HI.out.2.2.2; omega
      have HR : Hid (r = (0, P, 10)) := Lib.hid (by have := HI.out.2.2.1; rw [hF] at this; exact this)
      clear hF
      go_wp2
      go_ret3
      exact ⟨by rw [HR.out]; rfl, HM.out.2.1⟩
end Go.Proofs.YtjlkjebmilfgoaaGreat
