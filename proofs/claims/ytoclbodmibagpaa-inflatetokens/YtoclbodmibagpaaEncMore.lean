/- Layer 8 in plain words: tokens that may be written are written, and what a text that holds them, grown or cut, says. -/
import Derived.Test.YtoclbodmibagpaaDToks
import Derived.Test.YtoclbodmibagpaaEnc
import Derived.Test.YtoclbodmibagpaaPStr
namespace Go.Proofs.Ytoclbodmibagpaa
open Go.RowKit

theorem TokIs.bits {t : Tk} {x : List UInt8} (h : TokIs t x) : Bits x := by
  cases h with
  | lit b => exact code_bits _ _
  | far b n k y v m d v2 m2 hl hd => exact (code_bits _ _).app ((nb_bits _ _).app ((code_bits _ _).app (nb_bits _ _)))
theorem EncIs.bits : ∀ {l : List Tk} {x : List UInt8}, EncIs l x → Bits x
  | _, _, .nil => fun _ h => by cases h
  | _, _, .cons _ _ _ _ h r => h.bits.app r.bits
theorem tok_exist (t : Tk) (h : mayB t = true) : ∃ x, TokIs t x ∧ x.length ≤ 60 := by
  obtain ⟨b, n, k⟩ := t
  rcases may_cases _ h with ⟨h1, h2⟩ | ⟨h1, h2, h3, h4⟩
  · simp only at h1 h2
    subst h1 h2
    exact ⟨_, .lit b, by rw [code_length]; exact Nat.le_trans (ln_le fixA _ lens_fixA.low) (by decide)⟩
  · simp only at h1 h2 h3 h4
    obtain ⟨y, v, m, hl⟩ : ∃ y v m : Nat, LenIs n (y : Nat) (v : Nat) (m : Nat) true := by
      obtain ⟨_, _, _, _, h⟩ := lenIs n
      cases h with
      | no _ h => omega
      | last => exact ⟨285, 0, 0, .last⟩
      | row s m hs hm hh => exact ⟨257 + s, lb s, m, .row s m hs hm hh⟩
    obtain ⟨d, v2, m2, hd⟩ : ∃ d v m : Nat, DistIs k (d : Nat) (v : Nat) (m : Nat) true := by
      obtain ⟨_, _, _, _, h⟩ := distIs k
      cases h with
      | no _ h => omega
      | row s m hs hm => exact ⟨s, db s, m, .row s m hs hm⟩
    refine ⟨_, .far b n k y v m d v2 m2 hl hd, ?_⟩
    obtain ⟨_, _, q1, _, _, q2, _⟩ := far_bounds hl hd
    have q3 := ln_le fixA y lens_fixA.low
    have q4 := ln_le fixB d lens_fixB.low
    rw [List.length_append, List.length_append, List.length_append, code_length, code_length, nb_length, nb_length]
    omega
theorem toks_exist (M : Int) : ∀ (l : List Tk) (out want : List UInt8), expandF M l out = (want, 0) → ∃ x, EncIs l x ∧ x.length ≤ 60 * l.length
  | [], _, _, _ => ⟨[], .nil, by simp⟩
  | t :: l, out, want, h => by
    obtain ⟨k1, _, k3⟩ := expandF_cons M t l out want h
    obtain ⟨x, hx, hl⟩ := tok_exist t k1
    obtain ⟨y, hy, hm⟩ := toks_exist M l _ _ k3
    exact ⟨x ++ y, .cons t l x y hx hy, by rw [List.length_append, List.length_cons]; omega⟩
/-- The bits of the tokens, of one last block of kind 1. -/
def encE (X : List UInt8) : List UInt8 := nb 3 3 ++ (X ++ code fixA 256)
theorem encE_length (X : List UInt8) : (encE X).length = X.length + 10 := by
  unfold encE
  rw [List.length_append, List.length_append, nb_length, code_length, ln256]
  omega
theorem encE_bits {ts : List Tk} {X : List UInt8} (h : EncIs ts X) : Bits (encE X) := (nb_bits _ _).app (h.bits.app (code_bits _ _))

section
variable {ts : List Tk} {X want t : List UInt8} {M : Int} (he : EncIs ts X) (hx : expandF M ts [] = (want, 0)) (ht : le t = le2 (encE X)) (hl : t.length = ((encE X).length + 7) / 8)
include he hx ht hl
theorem tx_grown (more : List UInt8) (most : Int) (hm : (want.length : Int) ≤ most) : mStream (bitsOf (t ++ more)) most = (0, X.length + 10, want, [1]) := by
  have hs := Stand.of_le (encE_bits he) ht
  have h1 := bitsOf_length t
  have h2 := encE_length X
  have hs2 := hs.more (by omega) (bitsOf more)
  rw [← bitsOf_app] at hs2
  have h3 := bitsOf_length (t ++ more)
  rw [List.length_append] at h3
  have := (stream_whole _ (bitsOf_bits _) most M ts X want he hx hs2 (by omega)).1 hm
  rw [this]
  congr 2
  omega
theorem tx_filled (most : Int) (h0 : 0 ≤ most) (hm : most < want.length) : (mStream (bitsOf t) most).1 = 7 := by
  have hs := Stand.of_le (encE_bits he) ht
  have h1 := bitsOf_length t
  have h2 := encE_length X
  exact (stream_whole _ (bitsOf_bits _) most M ts X want he hx hs (by omega)).2 h0 hm
theorem tx_clipped (k : Nat) (hk : k < t.length) (most : Int) (hm : (want.length : Int) ≤ most) : (mStream (bitsOf (t.take k)) most).1 = 3 := by
  have hs := Stand.of_le (encE_bits he) ht
  have h2 := encE_length X
  have hs2 := Stand.take (m := 8 * k) hs
  rw [← bitsOf_take] at hs2
  have h3 := bitsOf_length (t.take k)
  rw [List.length_take] at h3
  exact stream_cut _ (bitsOf_bits _) most M ts X want he hx hs2 (by omega) hm
end
end Go.Proofs.Ytoclbodmibagpaa
