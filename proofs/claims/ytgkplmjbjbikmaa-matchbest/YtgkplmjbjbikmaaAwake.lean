/- Layer 9: the laws' awake; what is said of the tokens that are answered. -/
import Derived.Test.YtgkplmjbjbikmaaTokens
import Derived.Test.YtgkplmjbjbikmaaRBest
import Derived.Test.YtgkplmjbjbikmaaRefExpand
namespace Go.Proofs.Ytgkplmjbjbikmaa
open Go.RowKit

theorem toksOf_facts (s : ByteArray) (wd lvl : Nat) : expandF s.size (toksOf s wd lvl) [] = (s.data.toList, 0) ∧ (toksOf s wd lvl).length ≤ s.size ∧ (lvl = 0 → (toksOf s wd lvl).length = s.size) ∧ sumT (toksOf s wd lvl) = (s.size : Nat) := by
  have hg := good0 s.data.toList (2 ^ wd)
  have hL : s.data.toList.length = s.size := rfl
  rw [hL] at hg
  have h1 := toks_say (markAt s.data.toList wd) lvl s.size (st0 (2 ^ wd) s.size) 0 (by omega) (by omega) hg (Nat.le_refl _)
  have h2 := toks_sum (markAt s.data.toList wd) lvl s.size (st0 (2 ^ wd) s.size) 0 (by omega) (by omega) hg (Nat.le_refl _)
  exact ⟨h1.1, h1.2.1, h1.2.2, h2⟩
theorem toksOf_some (s : ByteArray) (wd lvl : Nat) (h : 1 ≤ s.size) : 1 ≤ (toksOf s wd lvl).length := by
  have h2 := (toksOf_facts s wd lvl).2.2.2
  cases hh : toksOf s wd lvl with
  | nil => rw [hh, sumT] at h2; omega
  | cons x r => simp
/-- The law's answer: yes; nothing that was there has turned. -/
def Yes (w : World) (e : Ending) (w' : World) : Prop := e = .returned (.bool true) ∧ Only (fun _ => False) w w'
def abc : ByteArray := ⟨#[97, 98, 99, 97, 98, 99, 97, 98]⟩
theorem best_abc : bestI abc.data.toList 3 = (5, 3) := by decide +kernel
theorem abc_size : abc.size = 8 := by decide +kernel

set_option maxHeartbeats 2000000 in
theorem awake (w : World) : Calls Try.prog 6 #[] w (Yes w) := by
  have CB : Hid (∀ w1 : World, Calls Try.prog 7 #[.string ⟨#[97, 98, 99, 97, 98, 99, 97, 98]⟩, .int .i64 3] w1 (BestPost w1 (5, 3))) := Lib.hid (fun w1 => by
    have := bestOf abc 3 w1 (by rw [abc_size]; omega)
    rw [best_abc] at this
    exact this)
  have CT : Hid (∀ w1 : World, Calls Try.prog 9 #[.string ⟨#[97, 98, 99, 97, 98, 99, 97, 98]⟩, .int .i64 1] w1 (TokPost w1 abc 1)) := Lib.hid (fun w1 => tokens abc 1 w1 (by rw [abc_size]; omega) (by omega))
  go_enter Try.func6, Try.ntmps6
  go_upto_region 2 with (go_at_call 7; refine (CB.out _).mono ?_; rintro e w1 ⟨rfl, ho⟩; have HO1 := Lib.hid ho; clear ho)
  go_upto_region 3 with (go_at_call 9; refine (CT.out _).mono ?_; rintro e w2 ⟨wd, A, c, hwd, rfl, hr, ho⟩; have HR := Lib.hid hr; have HO2 := Lib.hid ho; clear hr ho)
  have hf := toksOf_facts abc wd 1
  have h1 := toksOf_some abc wd 1 (by rw [abc_size]; omega)
  rw [abc_size] at hf
  obtain ⟨ts, hts⟩ : ∃ ts, toksOf abc wd 1 = ts := ⟨_, rfl⟩
  rw [hts] at hf h1 HR ⊢
  obtain ⟨n, hn⟩ : ∃ n, ts.length = n := ⟨_, rfl⟩
  rw [hn] at hf h1 HR ⊢
  have HF := Lib.hid hf
  have HN := Lib.hid hn
  have h2 : n ≤ 8 := hf.2.1
  have h3 : (0 : Int) < (n : Int) := by omega
  clear hf hts hn
  go_wp2_with (go_at_call 11; refine (size A n c _ ts _ HR.out.see HN.out (by omega)).mono ?_; rw [HF.out.2.2.2]; rintro e w3 ⟨rfl, ho⟩; have HO3 := Lib.hid ho; clear ho)
  go_ret
  exact ⟨rfl, (HO1.out.trans HO2.out).trans HO3.out⟩
end Go.Proofs.Ytgkplmjbjbikmaa
