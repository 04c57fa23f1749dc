/- Layer 12: the laws. -/
import Derived.Test.YtaicihghndoclaaGreatDfD
/- Layer 12: the laws on single texts. -/
namespace Go.Proofs.YtaicihghndoclaaGreat
open Go.RowKit

theorem dmost_few (n : Nat) (h : n ≤ 60000) : dmostF (n : Nat) = (n + 5 : Nat) := by unfold dmostF; omega
set_option maxRecDepth 100000 in
set_option maxHeartbeats 8000000 in
theorem backWalk (s : ByteArray) (lvl : Int) (w : World) (hl1 : -9223372036854775808 ≤ lvl) (hl2 : lvl ≤ 9223372036854775807) : Calls Tryz.prog 3 #[.string s, .int .i64 lvl] w fun e w' => e = .returned (.bool true) ∧ Only (fun _ => False) w w' := by
  obtain ⟨n, hn⟩ : ∃ n, s.size = n := ⟨_, rfl⟩
  have HN := Lib.hid hn
  go_enter Tryz.func3, Tryz.ntmps3
  go_wp2_with fail
  refine (awake12 _).mono ?_
  rintro e w1 ⟨rfl, o1⟩
  have HO1 := Lib.hid o1
  clear o1
  by_cases h6 : 600 < n
  · have h62 : (600 : Int) < (n : Int) := by omega
    go_wp2
    go_ret
    exact ⟨rfl, HO1.out⟩
  · have h62 : ¬ (600 : Int) < (n : Int) := by omega
    by_cases hlv : lvl < 0 ∨ 3 < lvl
    · have HC := Lib.hid (stream_no s lvl w1 hlv)
      go_wp2_with fail
      refine HC.out.mono ?_
      rintro e w2 ⟨rfl, o2⟩
      have HO2 := Lib.hid (HO1.out.trans o2)
      clear o2 HC HO1
      by_cases hlt : lvl < 0
      · clear hlv
        go_wp2
        go_ret
        exact ⟨rfl, HO2.out⟩
      · have hgt : 3 < lvl := by omega
        clear hlv
        go_wp2
        go_ret
        exact ⟨rfl, HO2.out⟩
    · obtain ⟨l, rfl⟩ : ∃ l : Nat, lvl = l := ⟨lvl.toNat, by omega⟩
      have hl0 : ¬ (l : Int) < 0 := by omega
      have hl3 : ¬ (3 : Int) < (l : Int) := by omega
      have HC := Lib.hid (stream s l w1 (by omega) (by omega))
      clear hlv
      go_wp2_with fail
      refine HC.out.mono ?_
      rintro e w2 ⟨⟨t, rfl, ht, o2⟩, ks, hks, hk0⟩
      have HR := Lib.hid (sread s t _ ks n hks ht (by omega) (by omega) (by omega) w2)
      have HT := Lib.hid ht
      have HO2 := Lib.hid (HO1.out.trans o2)
      have HK0 := Lib.hid hk0
      have HKB := Lib.hid hks.2.2.2
      clear o2 HC HO1 ht hks hk0
      obtain ⟨z, hz⟩ : ∃ z, t.size = z := ⟨_, rfl⟩
      have hzn : z ≤ n + 5 := by
        have h1 := outB_le s l
        have h2 := HT.out.1
        unfold byN at h1
        omega
      rw [hz] at HR
      go_wp2_with fail
      refine HR.out.mono ?_
      rintro e w3 ⟨Ak, ck, rfl, hse, o3⟩
      have HSE := Lib.hid hse
      have HO3 := Lib.hid (HO2.out.trans o3)
      clear hse o3 HR HO2
      have HM : Hid (Calls Tryz.prog 9 #[.int .i64 n] w3 fun e w' => e = .returned (.int .i64 (n + 5 : Nat)) ∧ w3 = w') := Lib.hid (by
        have := rmost n w3
        rw [dmost_few n (by omega)] at this
        exact this)
      obtain ⟨m, hm⟩ : ∃ m, ks.length = m := ⟨_, rfl⟩
      have HML := Lib.hid hm
      have hm2 : m ≤ 2 := by rw [← hm]; exact HKB.out
      rw [hm]
      clear hm
      go_wp2_with fail
      refine HM.out.mono ?_
      rintro e _ ⟨rfl, rfl⟩
      have hzn2 : ¬ ((n + 5 : Nat) : Int) < (z : Int) := by omega
      go_wp2_with fail
      go_loopg [72] m (fun gk i wx => ∃ k : Nat, i = .int .i64 k ∧ k + gk = m ∧ ∃ q, wx = w3.drewN q)
      case atStart => exact ⟨0, rfl, by omega, 0, rfl⟩
      case round =>
        obtain ⟨k, rfl, hk, q, rfl⟩ := hrel
        by_cases hlt : k < m
        · have hlt2 : (k : Int) < (m : Int) := by omega
          obtain ⟨b1, o1, rfl, _, d1⟩ := HSE.out k _ (ints_at ks k (by rw [HML.out]; exact hlt))
          obtain ⟨y, hy⟩ : ∃ y, ln ks k = y := ⟨_, rfl⟩
          rw [hy] at d1
          by_cases h0 : l = 0
          · have hy0 : y = 0 := by
              have h1 := HK0.out h0
              have h2 := HML.out
              rw [h1] at h2
              have h3 : m = 1 := h2.symm
              obtain rfl : k = 0 := by omega
              rw [← hy, h1]
              rfl
            subst h0 hy0
            go_wp2_with fail
            go_roundg (gk - 1)
            case measure => omega
            case rel => exact ⟨k + 1, by go_num, by omega, _, rfl⟩
          · have hl1 : ¬ (l : Int) = 0 := by omega
            go_wp2_with fail
            go_roundg (gk - 1)
            case measure => omega
            case rel => exact ⟨k + 1, by go_num, by omega, _, rfl⟩
        · have hlt2 : ¬ (k : Int) < (m : Int) := by omega
          go_wp2
          go_ret
          exact ⟨rfl, HO3.out.drewN q⟩

set_option maxRecDepth 100000 in
set_option maxHeartbeats 8000000 in
theorem bestWalk (s : ByteArray) (x : Int) (w : World) : Calls Tryz.prog 5 #[.string s, .int .i64 x] w fun e w' => e = .returned (.bool true) ∧ Only (fun _ => False) w w' := by
  obtain ⟨n, hn⟩ : ∃ n, s.size = n := ⟨_, rfl⟩
  have HN := Lib.hid hn
  go_enter Tryz.func5, Tryz.ntmps5
  go_wp2_with fail
  refine (awake12 _).mono ?_
  rintro e w1 ⟨rfl, o1⟩
  have HO1 := Lib.hid o1
  clear o1
  by_cases h6 : 300 < n
  · have h62 : (300 : Int) < (n : Int) := by omega
    go_wp2
    go_ret
    exact ⟨rfl, HO1.out⟩
  · have h62 : ¬ (300 : Int) < (n : Int) := by omega
    have HS : Hid (∀ (k : Nat) (w2 : World), k ≤ 3 → Calls Tryz.prog 7 #[.string s, .int .i64 k] w2 (StreamP s k w2)) := Lib.hid fun k w2 h => stream s k w2 (by omega) h
    have HC := Lib.hid (bestC s w1 (by omega))
    go_wp2_with fail
    refine HC.out.mono ?_
    rintro e w2 ⟨⟨t, rfl, ht, o2⟩, ks, hks⟩
    have HR := Lib.hid (sread s t _ ks n hks ht (by omega) (by omega) (by omega) w2)
    have HT := Lib.hid ht
    have HO2 := Lib.hid (HO1.out.trans o2)
    clear o2 HC HO1 ht hks
    obtain ⟨z, hz⟩ : ∃ z, t.size = z := ⟨_, rfl⟩
    have HZ : Hid (byN (outB s (bst s 3)) = z) := Lib.hid (by rw [← hz, HT.out.1]; rfl)
    rw [hz] at HR
    go_wp2_with fail
    refine HR.out.mono ?_
    rintro e w3 ⟨Ak, ck, rfl, _, o3⟩
    have HO3 := Lib.hid (HO2.out.trans o3)
    clear o3 HR HO2
    have HM := Lib.hid (most x w3)
    have HM2 := Lib.hid (rmost x w3)
    obtain ⟨D, hD⟩ : ∃ D, dmostF x = D := ⟨_, rfl⟩
    rw [hD] at HM HM2
    clear hD
    go_wp2_with fail
    refine HM.out.mono ?_
    rintro e _ ⟨rfl, rfl⟩
    go_wp2_with fail
    refine HM2.out.mono ?_
    rintro e _ ⟨rfl, rfl⟩
    clear HM HM2
    go_wp2_with fail
    go_loopg [49] 4 (fun gk i wx => ∃ k : Nat, i = .int .i64 k ∧ k + gk = 4 ∧ k ≤ bst s 3 ∧ Hid (Only (fun _ => False) w wx))
    case atStart => exact ⟨0, rfl, rfl, Nat.zero_le _, HO3⟩
    case round =>
      obtain ⟨k, rfl, hk, hkb, HO⟩ := hrel
      have hb3 := bst_le s 3
      have hlt2 : (k : Int) < 4 := by omega
      have HC := Lib.hid (HS.out k wr (by omega))
      have HBB := Lib.hid (bst_best s 3 k (by omega))
      clear HO3
      go_wp2_with fail
      refine HC.out.mono ?_
      rintro e w4 ⟨⟨t4, rfl, ht4, o4⟩, ks4, _, _⟩
      have HO4 := Lib.hid (HO.out.trans o4)
      have HT4 := Lib.hid ht4
      clear ht4 o4 HC
      obtain ⟨z4, hz4⟩ : ∃ z, t4.size = z := ⟨_, rfl⟩
      have e4 : byN (outB s k) = z4 := by rw [← hz4, HT4.out.1]; rfl
      have hle : ¬ (z4 : Int) < (z : Int) := by
        have h1 := HBB.out.1
        have h2 := HZ.out
        omega
      by_cases hz5 : z4 = z
      · have hkk : k = bst s 3 := by
          rcases Nat.lt_or_ge k (bst s 3) with g | g
          · have h1 := HBB.out.2 g
            have h2 := HZ.out
            omega
          · omega
        have ht5 : t4 = t := by
          have h1 := HT4.out
          rw [hkk] at h1
          exact TextIs.one h1 HT.out
        subst ht5 hz5
        clear hz4 e4 hkk
        go_wp2
        go_ret
        exact ⟨rfl, HO4.out⟩
      · have hz6 : ¬ (z4 : Int) = (z : Int) := by omega
        have hkk : k + 1 ≤ bst s 3 := by
          rcases Nat.lt_or_ge k (bst s 3) with g | g
          · exact g
          · exfalso
            have g2 : k = bst s 3 := by omega
            rw [g2, HZ.out] at e4
            exact hz5 e4.symm
        go_wp2_with fail
        go_roundg (gk - 1)
        case measure => omega
        case rel => exact ⟨k + 1, by go_num, by omega, hkk, HO4⟩
end Go.Proofs.YtaicihghndoclaaGreat

/- Layer 12: the law on long texts. -/
namespace Go.Proofs.YtaicihghndoclaaGreat
open Go.RowKit

theorem BMade.text {w wx wy : World} {A A' : Option Addr} {n c n' c' : Nat} {l l' : List UInt8} (h : BMade w A n c l wx) (hr : BRow 5 wy A' n' c' l') (ho : Only (Lies A) wx wy) (ha : A' = A ∨ A' = some ⟨wx.heap.size, 0, none⟩) : BMade w A' n' c' l' wy := by
  refine ⟨hr, h.2.1.andThen ho fun j hj => .inr (h.2.2 j hj), fun j hj => ?_⟩
  rcases ha with e | e
  · exact h.2.2 j (e ▸ hj)
  · obtain ⟨ad, e1, e2⟩ := hj
    rw [e] at e1
    obtain rfl := Option.some.inj e1
    rw [← e2]
    exact h.2.1.size
set_option maxRecDepth 100000 in
set_option maxHeartbeats 8000000 in
theorem longWalk (s : ByteArray) (x y : Int) (w : World) (hx1 : 0 ≤ x) (hx2 : x ≤ 65535) (hy1 : 0 ≤ y) : Calls Tryz.prog 4 #[.string s, .int .u16 x, .int .u8 y] w fun e w' => e = .returned (.bool true) ∧ Only (fun _ => False) w w' := by
  obtain ⟨z, hz⟩ : ∃ z, s.size = z := ⟨_, rfl⟩
  have HZS := Lib.hid hz
  obtain ⟨N, hN⟩ : ∃ N : Nat, x % 20001 = N := ⟨(x % 20001).toNat, by omega⟩
  have hN2 : Int.tmod x 20001 = (N : Int) := by rw [Int.tmod_eq_emod_of_nonneg hx1]; exact hN
  have hNb : N ≤ 20000 := by omega
  obtain ⟨v, hv⟩ : ∃ v : Nat, y % 4 = v := ⟨(y % 4).toNat, by omega⟩
  have hv2 : Int.tmod y 4 = (v : Int) := by rw [Int.tmod_eq_emod_of_nonneg hy1]; exact hv
  have hv3 : v ≤ 3 := by omega
  go_enter Tryz.func4, Tryz.ntmps4
  go_wp2_with fail
  refine (awake12 _).mono ?_
  rintro e w1 ⟨rfl, o1⟩
  have HO1 := Lib.hid o1
  clear o1
  by_cases h4 : 40 < z
  · have h42 : (40 : Int) < (z : Int) := by omega
    go_wp2
    go_ret
    exact ⟨rfl, HO1.out⟩
  · have h42 : ¬ (40 : Int) < (z : Int) := by omega
    by_cases h0 : z = 0
    · subst h0
      go_wp2
      go_ret
      exact ⟨rfl, HO1.out⟩
    · have h02 : ¬ (z : Int) = 0 := by omega
      have hb1 : decide ((40 : Int) < (z : Int)) = false := decide_eq_false h42
      have hb2 : ((z : Int) == 0) = false := by rw [beq_eq_false_iff_ne]; exact h02
      have HM0 : Hid (BMade w none 0 0 [] w1) := Lib.hid ⟨BRow.nil 5 _, HO1.out, by rintro j ⟨ad, e, _⟩; cases e⟩
      clear HO1
      go_wp2_with fail
      go_loopg [7] (N + 41) (fun gk u wx => ∃ (A : Option Addr) (m c : Nat) (l : List UInt8), u = .slice A m c ∧ m + gk = N + 41 ∧ 1 ≤ gk ∧ Hid (BMade w A m c l wx))
      case atStart => exact ⟨none, 0, 0, [], rfl, by omega, by omega, HM0⟩
      case round =>
        obtain ⟨A, m, c, l, rfl, hm, hgk, HM⟩ := hrel
        clear HM0
        by_cases hlt : m < N
        · have hlt2 : (m : Int) < (N : Int) := by omega
          have Hl : Hid (s.data.toList.length = s.size) := Lib.hid rfl
          go_wp2_with (at_builtin
                       refine wpList_append_brow rfl (.tmp 30) (.tmp 31) 32 9 5 rfl Tryz.underlying32 (by kernel_rfl) A m c s.size l s.data.toList (.string s) rfl rfl HM.out.1 Hl.out (Src.text Tryz.underlying9 _ s) (by omega) ?_
                       intro A2 c2 w2 hrow2 honly2 hlies2
                       have HM2 : Hid (BMade w A2 (m + s.size) c2 (l ++ s.data.toList) w2) := Lib.hid (HM.out.text hrow2 honly2 hlies2)
                       clear hrow2 honly2 hlies2)
          go_roundg (gk - z)
          case measure => omega
          case rel => exact ⟨A2, m + s.size, c2, _, by rw [HZS.out], by omega, by omega, HM2⟩
        · have hlt2 : ¬ (m : Int) < (N : Int) := by omega
          have hml := HM.out.1.1
          obtain ⟨S, hS⟩ : ∃ S : ByteArray, (⟨l.toArray⟩ : ByteArray) = S := ⟨_, rfl⟩
          have hSz : S.size = m := by rw [← hS, ← hml]; simp [ByteArray.size]
          have hc := HM.out.1.toText Tryz.underlying32 Tryz.underlying5 Tryz.underlying9
          rw [hS] at hc
          have HC := Lib.hid (stream S v wr (by omega) hv3)
          have HSZ := Lib.hid hSz
          clear hml
          go_wp2_with fail
          refine HC.out.mono ?_
          rintro e w2 ⟨⟨t, rfl, ht, o2⟩, ks, hks, _⟩
          have HR := Lib.hid (sread S t _ ks m hks ht (by omega) (by omega) (by omega) w2)
          have HO2 := Lib.hid (HM.out.2.1.trans o2)
          have HT := Lib.hid ht
          have hr2 := HM.out.1.only o2 fun _ _ f => f
          have HR2 := Lib.hid hr2
          clear o2 HC ht hks hc hr2
          obtain ⟨q, hq⟩ : ∃ q, t.size = q := ⟨_, rfl⟩
          have hqm : q ≤ m + 5 := by
            have h1 := outB_le S v
            have h2 := HT.out.1
            unfold byN at h1
            omega
          rw [hq] at HR
          go_wp2_with fail
          refine HR.out.mono ?_
          rintro e w3 ⟨Ak, ck, rfl, _, o3⟩
          have HO3 := Lib.hid (HO2.out.trans o3)
          have hc3 := (HR2.out.only o3 fun _ _ f => f).toText Tryz.underlying32 Tryz.underlying5 Tryz.underlying9
          rw [hS] at hc3
          clear o3 HR HO2
          have HMo : Hid (Calls Tryz.prog 9 #[.int .i64 m] w3 fun e w' => e = .returned (.int .i64 (m + 5 : Nat)) ∧ w3 = w') := Lib.hid (by
            have := rmost m w3
            rw [dmost_few m (by omega)] at this
            exact this)
          go_wp2_with fail
          refine HMo.out.mono ?_
          rintro e _ ⟨rfl, rfl⟩
          have hq2 : decide ((q : Int) ≤ (m : Int) + 5) = true := decide_eq_true (by omega)
          go_wp2
          go_ret
          exact ⟨rfl, HO3.out⟩
end Go.Proofs.YtaicihghndoclaaGreat
