/- Layer 9, the document: the longest match at a place. -/
import Derived.Test.YtgkplmjbjbikmaaBest
namespace Go.Proofs.Ytgkplmjbjbikmaa
open Go.RowKit

set_option maxRecDepth 20000 in
set_option maxHeartbeats 4000000 in
theorem rbest_in (s : ByteArray) (a : Nat) (w : World) (hs : s.size ≤ 32768) (ha : a < s.size) : Calls Try.prog 8 #[.string s, .int .i64 a] w (BestPost w (best s.data.toList a)) := by
  have b1 : (s.size : Int) ≤ 32768 := by omega
  have b2 : (a : Int) < s.size := by omega
  have hL : s.data.toList.length = s.size := rfl
  obtain ⟨most, hm⟩ : ∃ m, mostAt s.data.toList a = m := ⟨_, rfl⟩
  have hm1 : most ≤ 258 ∧ a + most ≤ s.size := by unfold mostAt at hm; omega
  have hm2 : most = 258 ∨ a + most = s.size := by unfold mostAt at hm; omega
  have HM2 := Lib.hid hm2
  have HB : Hid (best s.data.toList a = bestTo s.data.toList a most a) := Lib.hid (by unfold best; rw [hm, Nat.min_eq_left (by omega)])
  obtain ⟨m1, m2⟩ := hm1
  have e0 : ¬ (a : Int) < 0 := by omega
  have e1 : ¬ s.size ≤ a := by omega
  have e2 : ¬ (s.size : Int) ≤ (a : Int) := by omega
  have d0 : decide ((a : Int) < 0) = false := by simp
  have d1 : decide (s.size ≤ a) = false := by simp; omega
  have d2 : decide ((s.size : Int) ≤ (a : Int)) = false := by simp; omega
  clear hm hm2 hs ha
  go_enter Try.func8, Try.ntmps8
  go_wp2_with fail
  go_loopg [6, 7, 8] a (fun gO v6 v7 i wx => ∃ (k K : Nat), i = .int .i64 K ∧ k + 1 = K ∧ K + gO ≤ a + 1 ∧ a + 1 ≤ K + gO ∧ v6 = .int .i64 (bestTo s.data.toList a most k).1 ∧ v7 = .int .i64 (bestTo s.data.toList a most k).2 ∧ Hid (Only (fun _ => False) w wx))
  case atStart => exact ⟨0, 1, rfl, rfl, by omega, by omega, rfl, rfl, Lib.hid (Only.refl _ w)⟩
  case round =>
    obtain ⟨k, K, rfl, hkK, hk1, hk2, rfl, rfl, HO⟩ := hrel
    obtain ⟨q, hq⟩ : ∃ q, bestTo s.data.toList a most k = q := ⟨_, rfl⟩
    have hq1 := bestTo_le s.data.toList a most k
    have HQ := Lib.hid hq
    rw [hq] at hq1 ⊢
    clear hq
    obtain ⟨l, b⟩ := q
    simp only at hq1 ⊢
    by_cases hlt : K ≤ a
    · obtain ⟨f, hf⟩ : ∃ f, f + K = a := ⟨a - K, by omega⟩
      have hK2 : (K : Int) ≤ (a : Int) := by omega
      have hK3 : (K : Int) ≤ 32768 := by omega
      go_upto_region 8 with fail
      go_wp2_with fail
      go_loopg [9] most (fun gk i wx => ∃ n : Nat, i = .int .i64 n ∧ n + gk ≤ most ∧ most ≤ n + gk ∧ Hid (Only (fun _ => False) w wx) ∧ Hid (runN s.data.toList a f n = n))
      case atStart => exact ⟨0, rfl, by omega, by omega, HO, Lib.hid rfl⟩
      case round =>
        clear HO
        obtain ⟨n, rfl, hn1, hn2, HO, HR⟩ := hrel
        by_cases hlt2 : n < most
        · obtain ⟨F, hF⟩ : ∃ F, f + n = F := ⟨_, rfl⟩
          obtain ⟨G, hG⟩ : ∃ G, a + n = G := ⟨_, rfl⟩
          have bF : (F : Int) < (s.size : Int) := by omega
          have bG : (G : Int) < (s.size : Int) := by omega
          have wG : IntKind.i64.wrap ((a : Int) + (n : Int)) = (G : Int) := by rw [IntWalk.i64_in _ (by omega)]; omega
          have wF : IntKind.i64.wrap ((G : Int) - (K : Int)) = (F : Int) := by rw [IntWalk.i64_in _ (by omega)]; omega
          have g1 : decide ((n : Int) < 258) = true := by simp; omega
          have g2 : decide ((G : Int) < (s.size : Int)) = true := by simp; omega
          obtain ⟨x, hx⟩ : ∃ x, s[F]'(by omega) = x := ⟨_, rfl⟩
          obtain ⟨y, hy⟩ : ∃ y, s[G]'(by omega) = y := ⟨_, rfl⟩
          have ex : s.data.toList.getD (f + n) 0 = x := by rw [← hx, byte_at, hF]
          have ey : s.data.toList.getD (a + n) 0 = y := by rw [← hy, byte_at, hG]
          by_cases hxy : x = y
          · subst hxy
            have HR2 : Hid (runN s.data.toList a f (n + 1) = n + 1) := Lib.hid (runN_on HR.out (by rw [ex, ey]))
            clear ex ey HR
            go_upto_region 9 with fail
            go_quiet (fail)
            go_wp2
            go_roundg (gk - 1)
            case measure => omega
            case rel => exact ⟨n + 1, by go_num, by omega, by omega, Lib.hid (HO.out.drewN _), HR2⟩
          · have hne : ¬ ((y.toNat : Int) = (x.toNat : Int)) := fun e => hxy (UInt8.toNat_inj.1 (by omega))
            have hne2 : ((y.toNat : Int) == (x.toNat : Int)) = false := by simpa using hne
            have HR2 : Hid (runN s.data.toList a (a - K) most = n) := Lib.hid (by
              have := runN_stop HR.out (by rw [ex, ey]; exact hxy) (most - (n + 1))
              rw [show n + 1 + (most - (n + 1)) = most from by omega] at this
              rw [show a - K = f from by omega]
              exact this)
            clear ex ey HR
            go_upto_region 9 with fail
            go_quiet (fail)
            have HO2 : Hid (Only (fun _ => False) w (wr.drewN nq)) := Lib.hid (HO.out.drewN _)
            obtain ⟨w2, hw2⟩ : ∃ w2, wr.drewN nq = w2 := ⟨_, rfl⟩
            rw [hw2] at HO2 ⊢
            clear hw2 HO
            by_cases h3 : 3 ≤ n
            · by_cases h4 : l < n
              · have HP : Hid (bestTo s.data.toList a most K = (n, K)) := Lib.hid (by rw [← hkK, bestTo, HQ.out, hkK]; unfold pstep; rw [HR2.out, if_pos ⟨h3, h4⟩])
                have g3 : (3 : Int) ≤ (n : Int) := by omega
                have g4 : (l : Int) < (n : Int) := by omega
                clear hne hx hy wF wG bF bG g1 g2
                go_wp2_with fail
                go_roundg (a - K)
                case measure => omega
                case rel => exact ⟨K, K + 1, by go_num, rfl, by omega, by omega, by rw [HP.out], by rw [HP.out], HO2⟩
              · have HP : Hid (bestTo s.data.toList a most K = (l, b)) := Lib.hid (by rw [← hkK, bestTo, HQ.out, hkK]; unfold pstep; rw [HR2.out, if_neg (fun x => h4 x.2)])
                have g3 : (3 : Int) ≤ (n : Int) := by omega
                have g4 : ¬ (l : Int) < (n : Int) := by omega
                clear hne hx hy wF wG bF bG g1 g2
                go_wp2_with fail
                go_roundg (a - K)
                case measure => omega
                case rel => exact ⟨K, K + 1, by go_num, rfl, by omega, by omega, by rw [HP.out], by rw [HP.out], HO2⟩
            · have HP : Hid (bestTo s.data.toList a most K = (l, b)) := Lib.hid (by rw [← hkK, bestTo, HQ.out, hkK]; unfold pstep; rw [HR2.out, if_neg (fun x => h3 x.1)])
              have g3 : ¬ (3 : Int) ≤ (n : Int) := by omega
              clear hne hx hy wF wG bF bG g1 g2
              go_wp2_with fail
              go_roundg (a - K)
              case measure => omega
              case rel => exact ⟨K, K + 1, by go_num, rfl, by omega, by omega, by rw [HP.out], by rw [HP.out], HO2⟩
        · obtain rfl : n = most := by omega
          have HR2 : Hid (runN s.data.toList a (a - K) n = n) := Lib.hid (by
            rw [show a - K = f from by omega]
            exact HR.out)
          clear HR
          by_cases h258 : n = 258
          · have g1 : decide ((n : Int) < 258) = false := by simp; omega
            clear h258
            go_upto_region 9 with fail
            go_quiet (fail)
            have HO2 : Hid (Only (fun _ => False) w (wr.drewN nq)) := Lib.hid (HO.out.drewN _)
            obtain ⟨w2, hw2⟩ : ∃ w2, wr.drewN nq = w2 := ⟨_, rfl⟩
            rw [hw2] at HO2 ⊢
            clear hw2 HO
            by_cases h3 : 3 ≤ n
            · by_cases h4 : l < n
              · have HP : Hid (bestTo s.data.toList a n K = (n, K)) := Lib.hid (by rw [← hkK, bestTo, HQ.out, hkK]; unfold pstep; rw [HR2.out, if_pos ⟨h3, h4⟩])
                have g3 : (3 : Int) ≤ (n : Int) := by omega
                have g4 : (l : Int) < (n : Int) := by omega
                clear g1
                go_wp2_with fail
                go_roundg (a - K)
                case measure => omega
                case rel => exact ⟨K, K + 1, by go_num, rfl, by omega, by omega, by rw [HP.out], by rw [HP.out], HO2⟩
              · have HP : Hid (bestTo s.data.toList a n K = (l, b)) := Lib.hid (by rw [← hkK, bestTo, HQ.out, hkK]; unfold pstep; rw [HR2.out, if_neg (fun x => h4 x.2)])
                have g3 : (3 : Int) ≤ (n : Int) := by omega
                have g4 : ¬ (l : Int) < (n : Int) := by omega
                clear g1
                go_wp2_with fail
                go_roundg (a - K)
                case measure => omega
                case rel => exact ⟨K, K + 1, by go_num, rfl, by omega, by omega, by rw [HP.out], by rw [HP.out], HO2⟩
            · have HP : Hid (bestTo s.data.toList a n K = (l, b)) := Lib.hid (by rw [← hkK, bestTo, HQ.out, hkK]; unfold pstep; rw [HR2.out, if_neg (fun x => h3 x.1)])
              have g3 : ¬ (3 : Int) ≤ (n : Int) := by omega
              clear g1
              go_wp2_with fail
              go_roundg (a - K)
              case measure => omega
              case rel => exact ⟨K, K + 1, by go_num, rfl, by omega, by omega, by rw [HP.out], by rw [HP.out], HO2⟩
          · have g1 : decide ((n : Int) < 258) = true := by simp; omega
            have wG : IntKind.i64.wrap ((a : Int) + (n : Int)) = (s.size : Int) := by rw [IntWalk.i64_in _ (by omega)]; have := HM2.out; omega
            go_upto_region 9 with fail
            go_quiet (fail)
            have HO2 : Hid (Only (fun _ => False) w (wr.drewN nq)) := Lib.hid (HO.out.drewN _)
            obtain ⟨w2, hw2⟩ : ∃ w2, wr.drewN nq = w2 := ⟨_, rfl⟩
            rw [hw2] at HO2 ⊢
            clear hw2 HO
            by_cases h3 : 3 ≤ n
            · by_cases h4 : l < n
              · have HP : Hid (bestTo s.data.toList a n K = (n, K)) := Lib.hid (by rw [← hkK, bestTo, HQ.out, hkK]; unfold pstep; rw [HR2.out, if_pos ⟨h3, h4⟩])
                have g3 : (3 : Int) ≤ (n : Int) := by omega
                have g4 : (l : Int) < (n : Int) := by omega
                clear g1 wG
                go_wp2_with fail
                go_roundg (a - K)
                case measure => omega
                case rel => exact ⟨K, K + 1, by go_num, rfl, by omega, by omega, by rw [HP.out], by rw [HP.out], HO2⟩
              · have HP : Hid (bestTo s.data.toList a n K = (l, b)) := Lib.hid (by rw [← hkK, bestTo, HQ.out, hkK]; unfold pstep; rw [HR2.out, if_neg (fun x => h4 x.2)])
                have g3 : (3 : Int) ≤ (n : Int) := by omega
                have g4 : ¬ (l : Int) < (n : Int) := by omega
                clear g1 wG
                go_wp2_with fail
                go_roundg (a - K)
                case measure => omega
                case rel => exact ⟨K, K + 1, by go_num, rfl, by omega, by omega, by rw [HP.out], by rw [HP.out], HO2⟩
            · have HP : Hid (bestTo s.data.toList a n K = (l, b)) := Lib.hid (by rw [← hkK, bestTo, HQ.out, hkK]; unfold pstep; rw [HR2.out, if_neg (fun x => h3 x.1)])
              have g3 : ¬ (3 : Int) ≤ (n : Int) := by omega
              clear g1 wG
              go_wp2_with fail
              go_roundg (a - K)
              case measure => omega
              case rel => exact ⟨K, K + 1, by go_num, rfl, by omega, by omega, by rw [HP.out], by rw [HP.out], HO2⟩
    · obtain rfl : k = a := by omega
      have HX : Hid (best s.data.toList k = (l, b)) := Lib.hid (by rw [HB.out, HQ.out])
      have hK1 : ¬ (K : Int) ≤ (k : Int) := by omega
      clear hq1
      go_wp2
      go_ret2
      rw [HX.out]
      exact ⟨rfl, HO.out⟩

theorem rbest_out (s : ByteArray) (a : Int) (w : World) (hs : s.size ≤ 32768) (ha : a < 0 ∨ (s.size : Int) ≤ a) : Calls Try.prog 8 #[.string s, .int .i64 a] w (BestPost w (0, 0)) := by
  have b1 : (s.size : Int) ≤ 32768 := by omega
  by_cases h : a < 0
  · clear ha
    go_enter Try.func8, Try.ntmps8
    go_wp2
    go_ret2
    exact ⟨rfl, Only.refl _ w⟩
  · have h2 : (s.size : Int) ≤ a := by omega
    clear ha
    go_enter Try.func8, Try.ntmps8
    go_wp2
    go_ret2
    exact ⟨rfl, Only.refl _ w⟩
theorem rbestOf (s : ByteArray) (a : Int) (w : World) (hs : s.size ≤ 32768) : Calls Try.prog 8 #[.string s, .int .i64 a] w (BestPost w (bestI s.data.toList a)) := by
  have hL : s.data.toList.length = s.size := rfl
  unfold bestI
  rw [hL]
  split
  · rename_i h
    exact rbest_out s a w hs h
  · rename_i h
    obtain ⟨n, rfl⟩ : ∃ n : Nat, a = n := ⟨a.toNat, by omega⟩
    exact rbest_in s n w hs (by omega)
end Go.Proofs.Ytgkplmjbjbikmaa
