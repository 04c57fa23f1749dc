/- Layer 14: a round of the program's: the code point that is read, and what is written for it. -/
import Derived.Test.YtaeaomlhbdbbfaaGreatDoorFdD
import Derived.Lib.RuneBytes
namespace Go.Proofs.YtaeaomlhbdbbfaaGreatDoor
open Go.RowKit

/-- A round of the program's, on a text that isn't empty: c is read, of k bytes; p is written. -/
theorem fold_run (b : UInt8) (m : List UInt8) : ∃ (c k : Nat) (p : List UInt8), Utf8.decode (tx (b :: m)) 0 = (c, k) ∧ 1 ≤ k ∧ k ≤ (b :: m).length ∧ c ≤ 1114111 ∧ p.length = k ∧ foldF (b :: m) = p ++ foldF ((b :: m).drop k) ∧
    ((smallN c = c ∧ p = (b :: m).take k) ∨ (smallN c ≠ c ∧ smallN c < 2048 ∧ p = utf8F (smallN c))) := by
  rcases dec_go b m with ⟨h1, h2⟩ | ⟨h1, _, h3, h4⟩
  · refine ⟨65533, 1, [b], h2, Nat.le_refl _, by simp, by omega, rfl, ?_, .inl ⟨by decide, rfl⟩⟩
    rw [fold_cons, h1, if_pos rfl]
    rfl
  · have hp : 0 < (decF (b :: m)).2 := h1
    obtain ⟨_, _, _, _, _, _, _, _, e, _⟩ := dec_pos (b :: m) hp
    refine ⟨(decF (b :: m)).1, (decF (b :: m)).2, chunkF (b :: m), h4, h1, h3, e, (chunk_dec (b :: m) [] hp).1, ?_, ?_⟩
    · rw [fold_cons, if_neg (by omega)]
    · have hq : chunkF (b :: m) = if smallN (decF (b :: m)).1 = (decF (b :: m)).1 then (b :: m).take (decF (b :: m)).2 else utf8F (smallN (decF (b :: m)).1) := rfl
      by_cases hs : smallN (decF (b :: m)).1 = (decF (b :: m)).1
      · rw [if_pos hs] at hq
        exact .inl ⟨hs, hq⟩
      · rw [if_neg hs] at hq
        refine .inr ⟨hs, ?_, hq⟩
        rcases small_cases (decF (b :: m)).1 with g | g | g
        · exact (hs g).elim
        · omega
        · omega
/-- What the library writes for a code point of at most two bytes. -/
theorem rune_two (c : Nat) (h : c < 2048) : Lib.runeCells (c : Int) = Lib.byteCells (utf8F c) := by
  unfold Lib.runeCells utf8F
  by_cases g : c < 128
  · rw [Lib.encodeRuneZ_one (by omega) (by omega), if_pos g]
    show [Value.int .u8 (c : Int)] = [Value.int .u8 ((UInt8.ofNat c).toNat : Int)]
    rw [UInt8.toNat_ofNat', Nat.mod_eq_of_lt (by omega)]
  · rw [Lib.encodeRuneZ_two (by omega) (by omega), if_neg g]
    show [Value.int .u8 (192 + (c : Int) / 64), Value.int .u8 (128 + (c : Int) % 64)] = [Value.int .u8 ((UInt8.ofNat (192 + c / 64)).toNat : Int), Value.int .u8 ((UInt8.ofNat (128 + c % 64)).toNat : Int)]
    rw [UInt8.toNat_ofNat', UInt8.toNat_ofNat', Nat.mod_eq_of_lt (by omega), Nat.mod_eq_of_lt (by omega)]
    rfl
end Go.Proofs.YtaeaomlhbdbbfaaGreatDoor
