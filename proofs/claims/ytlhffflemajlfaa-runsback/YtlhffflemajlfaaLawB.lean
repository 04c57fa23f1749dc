/- Layer 10: RunsBack, the law's own walk. -/
import Derived.Test.YtlhffflemajlfaaInts
namespace Go.Proofs.Ytlhffflemajlfaa
open Go.RowKit

set_option maxHeartbeats 2000000 in
theorem back_early (A : Option Addr) (n c : Nat) (w : World) (h : (400 < n ∧ n ≤ 1000) ∨ 1100 < n) (hm : n ≤ maxLen) : Calls Try.prog 3 #[.slice A n c] w (Yes w) := by
  unfold maxLen at hm
  rcases h with ⟨h1, h2⟩ | h1
  · have g1 : (400 : Int) < (n : Int) := by omega
    have g2 : (n : Int) ≤ 1000 := by omega
    go_enter Try.func3, Try.ntmps3
    go_wp2_with (go_at_call 6; refine (awake _).mono ?_; rintro e w1 ⟨rfl, ho⟩; have HO1 := Lib.hid ho; clear ho)
    go_ret
    exact ⟨rfl, HO1.out⟩
  · have g1 : (400 : Int) < (n : Int) := by omega
    have g2 : ¬ (n : Int) ≤ 1000 := by omega
    have g3 : (1100 : Int) < (n : Int) := by omega
    go_enter Try.func3, Try.ntmps3
    go_wp2_with (go_at_call 6; refine (awake _).mono ?_; rintro e w1 ⟨rfl, ho⟩; have HO1 := Lib.hid ho; clear ho)
    go_ret
    exact ⟨rfl, HO1.out⟩

/-- Rows of which the law asks something. -/
def Asked (n : Nat) : Prop := n ≤ 400 ∨ (1000 < n ∧ n ≤ 1100)

set_option maxRecDepth 100000 in
set_option maxHeartbeats 4000000 in
theorem back_bad (A : Option Addr) (n c : Nat) (z : List Int) (w : World) (h : See w w.heap.size A (zints z)) (hn : z.length = n) (ha : Asked n) (hf : ¬ Fine z n) : Calls Try.prog 3 #[.slice A n c] w (Yes w) := by
  have hb : n ≤ 1100 := by unfold Asked at ha; omega
  have HS := Lib.hid h
  have HN := Lib.hid hn
  have HF := Lib.hid hf
  have HA := Lib.hid ha
  clear h hn hf ha
  go_enter Try.func3, Try.ntmps3
  go_upto_region 3 with (go_at_call 6; refine (awake _).mono ?_; rintro e w1 ⟨rfl, ho⟩; have HO1 := Lib.hid ho; clear ho)
  go_cut [25] (fun v wx => v = .bool false ∧ wx = w1)
  case first =>
    rcases HA.out with h1 | ⟨h1, h2⟩
    · have g1 : ¬ (400 : Int) < (n : Int) := by omega
      have g3 : ¬ (1100 : Int) < (n : Int) := by omega
      go_wp2_with fail
      go_meet
      exact ⟨rfl, rfl⟩
    · have g1 : (400 : Int) < (n : Int) := by omega
      have g2 : ¬ (n : Int) ≤ 1000 := by omega
      have g3 : ¬ (1100 : Int) < (n : Int) := by omega
      go_wp2_with fail
      go_meet
      exact ⟨rfl, rfl⟩
  case rest =>
    obtain ⟨rfl, rfl⟩ := hcut
    go_wp2_with (go_at_call 7; refine (pack_bad A n c _ z _ (HS.out.new HO1.out) HN.out (by omega) HF.out).mono ?_; rintro e w2 ⟨rfl, rfl⟩)
    go_loopg [33] n (fun gk i wx => ∃ j : Nat, i = .int .i64 j ∧ j + gk ≤ n ∧ n ≤ j + gk ∧ wx = wc ∧ Hid (Fine z j))
    case atStart => exact ⟨0, rfl, by omega, by omega, rfl, Lib.hid fun i hi => by omega⟩
    case round =>
      obtain ⟨j, rfl, hg1, hg2, rfl, HG⟩ := hrel
      by_cases hlt : j < n
      · obtain ⟨b, off, rfl, _, hc⟩ := (HS.out.new HO1.out) j _ (zints_at z j (by rw [HN.out]; exact hlt))
        obtain ⟨x, hx⟩ : ∃ x, z.getD j 0 = x := ⟨_, rfl⟩
        rw [hx] at hc
        have HX := Lib.hid hx
        clear hx
        by_cases h0 : x < 0
        · go_wp2_with fail
          go_ret
          exact ⟨rfl, HO1.out⟩
        · by_cases h15 : 15 < x
          · go_wp2_with fail
            go_ret
            exact ⟨rfl, HO1.out⟩
          · have HG2 : Hid (Fine z (j + 1)) := Lib.hid (HG.out.more (by rw [HX.out]; exact ⟨by omega, by omega⟩))
            go_wp2_with fail
            go_roundg (gk - 1)
            case measure => omega
            case rel => exact ⟨j + 1, by go_num, by omega, by omega, rfl, HG2⟩
      · obtain rfl : j = n := by omega
        exact absurd HG.out HF.out

set_option maxRecDepth 100000 in
set_option maxHeartbeats 4000000 in
theorem back_long (A : Option Addr) (n c : Nat) (z : List Int) (w : World) (h : See w w.heap.size A (zints z)) (hn : z.length = n) (ha : 1000 < n) (hb : n ≤ 1100) (hf : Fine z n) : Calls Try.prog 3 #[.slice A n c] w (Yes w) := by
  have HS := Lib.hid h
  have HN := Lib.hid hn
  have HF := Lib.hid hf
  have g1 : (400 : Int) < (n : Int) := by omega
  have g2 : ¬ (n : Int) ≤ 1000 := by omega
  have g3 : ¬ (1100 : Int) < (n : Int) := by omega
  have g4 : (1000 : Int) < (n : Int) := by omega
  clear h hn hf
  go_enter Try.func3, Try.ntmps3
  go_wp2_with (first
    | (go_at_call 6; refine (awake _).mono ?_; rintro e w1 ⟨rfl, ho⟩; have HO1 := Lib.hid ho; clear ho)
    | (go_at_call 7; refine (pack_long A n c _ z _ (HS.out.new HO1.out) HN.out (by omega) HF.out ha).mono ?_; rintro e w2 ⟨rfl, rfl⟩))
  go_loopg [33] n (fun gk i wx => ∃ j : Nat, i = .int .i64 j ∧ j + gk ≤ n ∧ n ≤ j + gk ∧ wx = w1)
  case atStart => exact ⟨0, rfl, by omega, by omega, rfl⟩
  case round =>
    obtain ⟨j, rfl, hg1, hg2, rfl⟩ := hrel
    by_cases hlt : j < n
    · obtain ⟨b, off, rfl, _, hc⟩ := (HS.out.new HO1.out) j _ (zints_at z j (by rw [HN.out]; exact hlt))
      have hok := HF.out j hlt
      obtain ⟨x, hx⟩ : ∃ x, z.getD j 0 = x := ⟨_, rfl⟩
      rw [hx] at hc hok
      have h0 : ¬ x < 0 := by have := hok.1; omega
      have h15 : ¬ 15 < x := by have := hok.2; omega
      clear hx hok
      go_wp2_with fail
      go_roundg (gk - 1)
      case measure => omega
      case rel => exact ⟨j + 1, by go_num, by omega, by omega, rfl⟩
    · obtain rfl : j = n := by omega
      go_wp2
      go_ret
      exact ⟨rfl, HO1.out⟩

set_option maxRecDepth 100000 in
set_option maxHeartbeats 4000000 in
theorem back_good (A : Option Addr) (n c : Nat) (l : List Nat) (w : World) (h : See w w.heap.size A (ints l)) (hn : l.length = n) (ha : n ≤ 400) (hlow : ∀ x ∈ l, x ≤ 15) : Calls Try.prog 3 #[.slice A n c] w (Yes w) := by
  have HS := Lib.hid h
  have HN := Lib.hid hn
  have HL := Lib.hid hlow
  have g1 : ¬ (400 : Int) < (n : Int) := by omega
  have g3 : ¬ (1100 : Int) < (n : Int) := by omega
  have g4 : ¬ (1000 : Int) < (n : Int) := by omega
  clear h hn hlow
  go_enter Try.func3, Try.ntmps3
  go_wp2_with (first
    | (go_at_call 6; refine (awake _).mono ?_; rintro e w1 ⟨rfl, ho⟩; have HO1 := Lib.hid ho; clear ho)
    | (go_at_call 7; refine (pack A n c _ l _ (HS.out.new HO1.out) HN.out (by omega) HL.out).mono ?_; rintro e w2 ⟨A2, q2, c2, p, rfl, hb2, hp2⟩; have HB2 := Lib.hid hb2; have HP := Lib.hid hp2; clear hb2 hp2))
  have HO2 := Lib.hid (HO1.out.trans HB2.out.2.2.1)
  have HU : Hid (unF p [] = (l, 0)) := Lib.hid (HP.out.done (by rw [HN.out]; omega))
  have hq : q2 ≤ n := by have h1 := HP.out.2.1; have h2 := HB2.out.1; rw [HN.out] at h1; omega
  have hq2 : (q2 : Int) ≤ (n : Int) := by omega
  clear HO1 HP
  go_loopg [33] n (fun gk i wx => ∃ j : Nat, i = .int .i64 j ∧ j + gk ≤ n ∧ n ≤ j + gk ∧ wx = w2)
  case atStart => exact ⟨0, rfl, by omega, by omega, rfl⟩
  case round =>
    obtain ⟨j, rfl, hg1, hg2, rfl⟩ := hrel
    by_cases hlt : j < n
    · obtain ⟨b, off, rfl, _, hc⟩ := (HS.out.new HO2.out) j _ (ints_at l j (by rw [HN.out]; exact hlt))
      have hok := low_at l HL.out j
      obtain ⟨x, hx⟩ : ∃ x, l.getD j 0 = x := ⟨_, rfl⟩
      rw [hx] at hc hok
      have h15 : ¬ (15 : Int) < (x : Int) := by omega
      clear hx hok
      go_wp2_with fail
      go_roundg (gk - 1)
      case measure => omega
      case rel => exact ⟨j + 1, by go_num, by omega, by omega, rfl⟩
    · obtain rfl : j = n := by omega
      go_upto_region 15 with (go_at_call 8; refine (runpack A2 q2 c2 _ p _ HB2.out.see HB2.out.1 (by omega)).mono ?_; rw [HU.out]; rintro e w3 ⟨A3, n3, c3, rfl, hn3, hm3⟩; have HM3 := Lib.hid hm3; have HN3 := Lib.hid hn3; clear hm3 hn3)
      go_upto_region 16 with (go_at_call 9; refine (unpack A2 q2 c2 _ p _ (HB2.out.new HM3.out.2.1).see HB2.out.1 (by omega)).mono ?_; rw [HU.out]; rintro e w4 ⟨A4, n4, c4, rfl, hn4, hm4⟩; have HM4 := Lib.hid hm4; have HN4 := Lib.hid hn4; clear hm4 hn4)
      obtain rfl : n3 = j := by rw [← HN3.out]; exact HN.out
      obtain rfl : n4 = n3 := by rw [← HN4.out]; exact HN.out
      have HO4 := Lib.hid ((HO2.out.trans HM3.out.2.1).trans HM4.out.2.1)
      have HT : Hid (∀ (A5 : Option Addr) (c5 : Nat) (wx : World), (A5 = A3 ∨ A5 = A4) → (∃ k, wx = w4.drewN k) → Calls Try.prog 10 #[.slice A5 n4 c5, .slice A n4 c] wx (SamePost2 wx)) := Lib.hid (by
        rintro A5 c5 wx h5 ⟨k, rfl⟩
        rcases h5 with rfl | rfl
        · exact alike A5 A n4 c5 c w4.heap.size l (w4.drewN k) ((HM3.out.see.new HM4.out.2.1).more HM4.out.2.1.size) ((HS.out.new HO4.out).more HO4.out.size) HN.out (by omega)
        · exact alike A5 A n4 c5 c w4.heap.size l (w4.drewN k) HM4.out.see ((HS.out.new HO4.out).more HO4.out.size) HN.out (by omega))
      clear HM3 HM4 HN3 HN4 HB2 HO2 HU
      go_wp2_with (go_at_call 10; refine (HT.out _ _ _ (by first | exact .inl rfl | exact .inr rfl) (by first | exact ⟨0, rfl⟩ | exact ⟨_, rfl⟩)).mono ?_; rintro e w5 ⟨rfl, k5, rfl⟩)
      go_ret
      exact ⟨rfl, HO4.out.drewN _⟩

theorem fine_list (z : List Int) (hf : Fine z z.length) : ∃ l : List Nat, zints z = ints l ∧ l.length = z.length ∧ ∀ x ∈ l, x ≤ 15 := by
  have hm : ∀ x ∈ z, okN x := fun x hx => by
    obtain ⟨i, hi, rfl⟩ := List.getElem_of_mem hx
    have := hf i hi
    rwa [List.getD_eq_getElem?_getD, List.getElem?_eq_getElem hi] at this
  refine ⟨z.map Int.toNat, ?_, by simp, ?_⟩
  · simp only [zints, ints, List.map_map]
    refine List.map_congr_left fun x hx => ?_
    have := (hm x hx).1
    simp
    omega
  · intro x hx
    obtain ⟨y, hy, rfl⟩ := List.mem_map.1 hx
    have := (hm y hy).2
    omega
theorem lawB (A : Option Addr) (n c : Nat) (z : List Int) (w : World) (h : See w w.heap.size A (zints z)) (hn : z.length = n) (hm : n ≤ maxLen) : Calls Try.prog 3 #[.slice A n c] w (Yes w) := by
  by_cases ha : Asked n
  · by_cases hf : Fine z n
    · rcases ha with h1 | ⟨h1, h2⟩
      · obtain ⟨l, e1, e2, e3⟩ := fine_list z (by rw [hn]; exact hf)
        rw [e1] at h
        exact back_good A n c l w h (by omega) h1 e3
      · exact back_long A n c z w h hn h1 h2 hf
    · exact back_bad A n c z w h hn ha hf
  · exact back_early A n c w (by unfold Asked at ha; omega) hm
end Go.Proofs.Ytlhffflemajlfaa
