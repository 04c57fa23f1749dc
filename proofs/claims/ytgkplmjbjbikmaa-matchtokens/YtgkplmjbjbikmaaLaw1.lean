/- Layer 9: MatchBest and MatchTokens, the laws' own walks. -/
import Derived.Test.YtgkplmjbjbikmaaAwake
namespace Go.Proofs.Ytgkplmjbjbikmaa
open Go.RowKit

set_option maxRecDepth 20000 in
set_option maxHeartbeats 2000000 in
theorem law1 (s : ByteArray) (a : Int) (w : World) : Calls Try.prog 3 #[.string s, .int .i64 a] w (Yes w) := by
  by_cases h : s.size ≤ 300
  · have b1 : (s.size : Int) ≤ 300 := by omega
    obtain ⟨q, hq⟩ : ∃ q, bestI s.data.toList a = q := ⟨_, rfl⟩
    have HQ := Lib.hid hq
    clear hq
    obtain ⟨l, b⟩ := q
    go_enter Try.func3, Try.ntmps3
    go_wp2_with (first
      | (go_at_call 6; refine (awake _).mono ?_; rintro e w1 ⟨rfl, ho⟩; have HO1 := Lib.hid ho; clear ho)
      | (go_at_call 7; refine (bestOf s a _ (by omega)).mono ?_; rw [HQ.out]; rintro e w2 ⟨rfl, ho⟩; have HO2 := Lib.hid ho; clear ho)
      | (go_at_call 8; refine (rbestOf s a _ (by omega)).mono ?_; rw [HQ.out]; rintro e w3 ⟨rfl, ho⟩; have HO3 := Lib.hid ho; clear ho))
    go_ret
    exact ⟨rfl, (HO1.out.trans HO2.out).trans HO3.out⟩
  · have b1 : (300 : Int) < (s.size : Int) := by omega
    go_enter Try.func3, Try.ntmps3
    go_wp2_with (go_at_call 6; refine (awake _).mono ?_; rintro e w1 ⟨rfl, ho⟩; have HO1 := Lib.hid ho; clear ho)
    go_ret
    exact ⟨rfl, HO1.out⟩

theorem text_back (s : ByteArray) : (⟨s.data.toList.toArray⟩ : ByteArray) = s := by
  cases s
  simp

theorem rexpand_text (A : Option Addr) (n c B : Nat) (ts : List Tk) (s : ByteArray) (w : World) (h : See w B A (tks ts)) (hn : ts.length = n) (h60 : n ≤ 10000) (hs : s.size ≤ 1000000) (he : expandF s.size ts [] = (s.data.toList, 0)) :
    Calls Try.prog 10 #[.slice A n c, .int .i64 s.size] w fun e w' => e = .returned (.tuple #[.string s, .int .i64 0]) ∧ Only (fun _ => False) w w' := by
  have hc := rexpand A n c B ts (s.size : Int) w h hn h60 (by omega) (by omega)
  rw [he] at hc
  unfold ExPost at hc
  simp only [text_back] at hc
  exact hc

set_option maxRecDepth 20000 in
set_option maxHeartbeats 4000000 in
theorem law2 (s : ByteArray) (lvl : Int) (w : World) : Calls Try.prog 4 #[.string s, .int .i64 lvl] w (Yes w) := by
  by_cases h : s.size ≤ 600
  · have b1 : (s.size : Int) ≤ 600 := by omega
    by_cases hr : lvl < 0 ∨ 3 < lvl
    · have HR := Lib.hid hr
      rcases hr with hr | hr
      · go_enter Try.func4, Try.ntmps4
        go_wp2_with (first
          | (go_at_call 6; refine (awake _).mono ?_; rintro e w1 ⟨rfl, ho⟩; have HO1 := Lib.hid ho; clear ho)
          | (go_at_call 9; refine (tokens_no s lvl _ HR.out).mono ?_; rintro e w2 ⟨rfl, ho⟩; have HO2 := Lib.hid ho; clear ho))
        go_ret
        exact ⟨rfl, HO1.out.trans HO2.out⟩
      · go_enter Try.func4, Try.ntmps4
        go_wp2_with (first
          | (go_at_call 6; refine (awake _).mono ?_; rintro e w1 ⟨rfl, ho⟩; have HO1 := Lib.hid ho; clear ho)
          | (go_at_call 9; refine (tokens_no s lvl _ HR.out).mono ?_; rintro e w2 ⟨rfl, ho⟩; have HO2 := Lib.hid ho; clear ho))
        go_ret
        exact ⟨rfl, HO1.out.trans HO2.out⟩
    · obtain ⟨v, rfl⟩ : ∃ v : Nat, lvl = v := ⟨lvl.toNat, by omega⟩
      have g1 : ¬ (v : Int) < 0 := by omega
      have g2 : ¬ (3 : Int) < (v : Int) := by omega
      have g3 : v ≤ 3 := by omega
      clear hr
      go_enter Try.func4, Try.ntmps4
      go_upto_region 8 with (first
        | (go_at_call 6; refine (awake _).mono ?_; rintro e w1 ⟨rfl, ho⟩; have HO1 := Lib.hid ho; clear ho)
        | (go_at_call 9; refine (tokens s v _ (by omega) g3).mono ?_; rintro e w2 ⟨wd, A, c, hwd, rfl, hr, ho⟩; have HR := Lib.hid hr; have HO2 := Lib.hid ho; clear hr ho))
      have hf := toksOf_facts s wd v
      obtain ⟨ts, hts⟩ : ∃ ts, toksOf s wd v = ts := ⟨_, rfl⟩
      rw [hts] at hf HR ⊢
      obtain ⟨n, hn⟩ : ∃ n, ts.length = n := ⟨_, rfl⟩
      rw [hn] at hf HR ⊢
      have HF := Lib.hid hf
      have HN := Lib.hid hn
      have h2 : n ≤ s.size := hf.2.1
      have h4 : (n : Int) ≤ (s.size : Int) := by omega
      have h5 : ¬ (s.size : Int) < (n : Int) := by omega
      have HS := Lib.hid HR.out.see
      clear hf hts hn HR
      by_cases hv : v = 0
      · have g5 : ((n : Int) == (s.size : Int)) = true := by
          have := HF.out.2.2.1 hv
          simp
          omega
        subst hv
        go_wp2_with (first
          | (go_at_call 10; refine (rexpand_text A n c _ ts s _ HS.out HN.out (by omega) (by omega) HF.out.1).mono ?_; rintro e w3 ⟨rfl, ho⟩; have HO3 := Lib.hid ho; clear ho)
          | (go_at_call 11; refine (size A n c _ ts _ (HS.out.new HO3.out) HN.out (by omega)).mono ?_; rw [HF.out.2.2.2]; rintro e w4 ⟨rfl, ho⟩; have HO4 := Lib.hid ho; clear ho))
        go_ret
        exact ⟨rfl, ((HO1.out.trans HO2.out).trans HO3.out).trans HO4.out⟩
      · have g5 : (0 : Int) < (v : Int) := by omega
        go_wp2_with (first
          | (go_at_call 10; refine (rexpand_text A n c _ ts s _ HS.out HN.out (by omega) (by omega) HF.out.1).mono ?_; rintro e w3 ⟨rfl, ho⟩; have HO3 := Lib.hid ho; clear ho)
          | (go_at_call 11; refine (size A n c _ ts _ (HS.out.new HO3.out) HN.out (by omega)).mono ?_; rw [HF.out.2.2.2]; rintro e w4 ⟨rfl, ho⟩; have HO4 := Lib.hid ho; clear ho))
        go_ret
        exact ⟨rfl, ((HO1.out.trans HO2.out).trans HO3.out).trans HO4.out⟩
  · have b1 : (600 : Int) < (s.size : Int) := by omega
    go_enter Try.func4, Try.ntmps4
    go_wp2_with (go_at_call 6; refine (awake _).mono ?_; rintro e w1 ⟨rfl, ho⟩; have HO1 := Lib.hid ho; clear ho)
    go_ret
    exact ⟨rfl, HO1.out⟩
end Go.Proofs.Ytgkplmjbjbikmaa
