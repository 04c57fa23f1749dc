/- Layer 14: the code point that Go's library reads at a text's beginning is the document's. -/
import Derived.Test.YtaeaomlhbdbbfaaGreatDoorFdM
import Derived.Lib.ValidLaws
import Derived.Lib.TrimUEq
namespace Go.Proofs.YtaeaomlhbdbbfaaGreatDoor
open Go.RowKit

/-- The document's code point, by numbers, and how many bytes it takes. -/
def nextP (n b0 b1 b2 b3 : Nat) : Nat × Nat :=
  if b0 < 128 then (b0, 1)
  else if 192 ≤ b0 ∧ b0 < 224 then (if n < 2 then (0, 0) else if b1 < 128 ∨ 192 ≤ b1 then (0, 0) else if 64 * (b0 - 192) + b1 - 128 < 128 then (0, 0) else (64 * (b0 - 192) + b1 - 128, 2))
  else if 224 ≤ b0 ∧ b0 < 240 then (if n < 3 then (0, 0) else if b1 < 128 ∨ 192 ≤ b1 then (0, 0) else if b2 < 128 ∨ 192 ≤ b2 then (0, 0)
    else if 64 * (64 * (b0 - 224) + b1 - 128) + b2 - 128 < 2048 ∨ (55296 ≤ 64 * (64 * (b0 - 224) + b1 - 128) + b2 - 128 ∧ 64 * (64 * (b0 - 224) + b1 - 128) + b2 - 128 < 57344) then (0, 0) else (64 * (64 * (b0 - 224) + b1 - 128) + b2 - 128, 3))
  else if 240 ≤ b0 ∧ b0 < 248 then (if n < 4 then (0, 0) else if b1 < 128 ∨ 192 ≤ b1 then (0, 0) else if b2 < 128 ∨ 192 ≤ b2 then (0, 0) else if b3 < 128 ∨ 192 ≤ b3 then (0, 0)
    else if 64 * (64 * (64 * (b0 - 240) + b1 - 128) + b2 - 128) + b3 - 128 < 65536 ∨ 1114111 < 64 * (64 * (64 * (b0 - 240) + b1 - 128) + b2 - 128) + b3 - 128 then (0, 0) else (64 * (64 * (64 * (b0 - 240) + b1 - 128) + b2 - 128) + b3 - 128, 4))
  else (0, 0)
theorem nextF_P (l : List UInt8) (a : Nat) (ha : a < l.length) : nextF l a = nextP (l.length - a) (l.getD a 0).toNat (l.getD (a + 1) 0).toNat (l.getD (a + 2) 0).toNat (l.getD (a + 3) 0).toNat := by
  have h0 := (l.getD a 0).toNat_lt
  have h1 := (l.getD (a + 1) 0).toNat_lt
  have h2 := (l.getD (a + 2) 0).toNat_lt
  have h3 := (l.getD (a + 3) 0).toNat_lt
  unfold nextF nextP
  generalize hb0 : (l.getD a 0).toNat = b0 at h0 ⊢
  by_cases c1 : b0 < 128
  · rw [if_pos c1]
    have e : longF b0 = (1, b0) := if_pos c1
    rw [e, if_neg (by simp only; omega)]
    show endF 1 (some b0) = (b0, 1)
    have e2 : endF 1 (some b0) = (b0, 1) := if_neg (show ¬ (b0 < 0 ∨ 1114111 < b0 ∨ (55296 ≤ b0 ∧ b0 < 57344)) by omega)
    exact e2
  rw [if_neg c1]
  by_cases c2 : 192 ≤ b0 ∧ b0 < 224
  · rw [if_pos c2]
    have e : longF b0 = (2, b0 - 192) := by
      unfold longF
      rw [if_neg c1, if_pos c2]
    rw [e]
    by_cases hn : l.length - a < 2
    · rw [if_pos hn, if_pos (by simp only; omega)]
    rw [if_neg hn, if_neg (by simp only; omega)]
    show endF 2 (contF l a 1 1 (b0 - 192)) = _
    rw [contF]
    generalize hb1 : (l.getD (a + 1) 0).toNat = b1 at h1 ⊢
    by_cases d1 : b1 < 128 ∨ 192 ≤ b1
    · rw [if_pos d1, if_pos d1]
      rfl
    rw [if_neg d1, if_neg d1]
    show endF 2 (some (64 * (b0 - 192) + b1 - 128)) = _
    unfold endF
    by_cases g : 64 * (b0 - 192) + b1 - 128 < 128
    · rw [if_pos g]
      simp only [leastC]
      rw [if_pos (.inl (by simpa using g))]
    · rw [if_neg g]
      simp only [leastC]
      rw [if_neg (by simp; omega)]
  rw [if_neg c2]
  by_cases c3 : 224 ≤ b0 ∧ b0 < 240
  · rw [if_pos c3]
    have e : longF b0 = (3, b0 - 224) := by
      unfold longF
      rw [if_neg c1, if_neg c2, if_pos c3]
    rw [e]
    by_cases hn : l.length - a < 3
    · rw [if_pos hn, if_pos (by simp only; omega)]
    rw [if_neg hn, if_neg (by simp only; omega)]
    show endF 3 (contF l a 2 1 (b0 - 224)) = _
    rw [contF]
    generalize hb1 : (l.getD (a + 1) 0).toNat = b1 at h1 ⊢
    by_cases d1 : b1 < 128 ∨ 192 ≤ b1
    · rw [if_pos d1, if_pos d1]
      rfl
    rw [if_neg d1, if_neg d1, contF]
    show endF 3 (if (l.getD (a + 2) 0).toNat < 128 ∨ 192 ≤ (l.getD (a + 2) 0).toNat then none else contF l a 0 3 (64 * (64 * (b0 - 224) + b1 - 128) + (l.getD (a + 2) 0).toNat - 128)) = _
    generalize hb2 : (l.getD (a + 2) 0).toNat = b2 at h2 ⊢
    by_cases d2 : b2 < 128 ∨ 192 ≤ b2
    · rw [if_pos d2, if_pos d2]
      rfl
    rw [if_neg d2, if_neg d2]
    show endF 3 (some (64 * (64 * (b0 - 224) + b1 - 128) + b2 - 128)) = _
    generalize hC : 64 * (64 * (b0 - 224) + b1 - 128) + b2 - 128 = C
    unfold endF
    by_cases g : C < 2048 ∨ (55296 ≤ C ∧ C < 57344)
    · rw [if_pos g]
      simp only [leastC]
      rw [if_pos (by simp; omega)]
    · rw [if_neg g]
      simp only [leastC]
      rw [if_neg (by simp; omega)]
  rw [if_neg c3]
  by_cases c4 : 240 ≤ b0 ∧ b0 < 248
  · rw [if_pos c4]
    have e : longF b0 = (4, b0 - 240) := by
      unfold longF
      rw [if_neg c1, if_neg c2, if_neg c3, if_pos c4]
    rw [e]
    by_cases hn : l.length - a < 4
    · rw [if_pos hn, if_pos (by simp only; omega)]
    rw [if_neg hn, if_neg (by simp only; omega)]
    show endF 4 (contF l a 3 1 (b0 - 240)) = _
    rw [contF]
    generalize hb1 : (l.getD (a + 1) 0).toNat = b1 at h1 ⊢
    by_cases d1 : b1 < 128 ∨ 192 ≤ b1
    · rw [if_pos d1, if_pos d1]
      rfl
    rw [if_neg d1, if_neg d1, contF]
    show endF 4 (if (l.getD (a + 2) 0).toNat < 128 ∨ 192 ≤ (l.getD (a + 2) 0).toNat then none else contF l a 1 3 (64 * (64 * (b0 - 240) + b1 - 128) + (l.getD (a + 2) 0).toNat - 128)) = _
    generalize hb2 : (l.getD (a + 2) 0).toNat = b2 at h2 ⊢
    by_cases d2 : b2 < 128 ∨ 192 ≤ b2
    · rw [if_pos d2, if_pos d2]
      rfl
    rw [if_neg d2, if_neg d2, contF]
    generalize hC2 : 64 * (64 * (b0 - 240) + b1 - 128) + b2 - 128 = C2
    show endF 4 (if (l.getD (a + 3) 0).toNat < 128 ∨ 192 ≤ (l.getD (a + 3) 0).toNat then none else contF l a 0 4 (64 * C2 + (l.getD (a + 3) 0).toNat - 128)) = _
    generalize hb3 : (l.getD (a + 3) 0).toNat = b3 at h3 ⊢
    by_cases d3 : b3 < 128 ∨ 192 ≤ b3
    · rw [if_pos d3, if_pos d3]
      rfl
    rw [if_neg d3, if_neg d3]
    show endF 4 (some (64 * C2 + b3 - 128)) = _
    generalize hC : 64 * C2 + b3 - 128 = C
    unfold endF
    by_cases g : C < 65536 ∨ 1114111 < C
    · rw [if_pos g]
      simp only [leastC]
      rw [if_pos (by simp; omega)]
    · rw [if_neg g]
      simp only [leastC]
      rw [if_neg (by simp; omega)]
  rw [if_neg c4]
  have e : longF b0 = (0, 0) := by
    unfold longF
    rw [if_neg c1, if_neg c2, if_neg c3, if_neg c4]
  rw [e, if_pos (.inl rfl)]

set_option maxHeartbeats 2000000 in
/-- The document's and the library's: the same, and what stands behind the first byte begins none. -/
theorem nextP_decode (n b0 b1 b2 b3 : Nat) (hn : 1 ≤ n) (h0 : b0 < 256) (h1 : b1 < 256) (h2 : b2 < 256) (h3 : b3 < 256) :
    (nextP n b0 b1 b2 b3 = (0, 0) ∧ Lib.decodeN n b0 b1 b2 b3 = (65533, 1)) ∨
    (1 ≤ (nextP n b0 b1 b2 b3).2 ∧ (nextP n b0 b1 b2 b3).2 ≤ 4 ∧ (nextP n b0 b1 b2 b3).2 ≤ n ∧ Lib.decodeN n b0 b1 b2 b3 = nextP n b0 b1 b2 b3) := by
  unfold nextP Lib.decodeN
  by_cases c1 : b0 < 128
  · rw [if_pos c1, if_pos c1]
    exact .inr ⟨Nat.le_refl 1, (by simp only; omega), hn, rfl⟩
  rw [if_neg c1, if_neg c1]
  by_cases c2 : 192 ≤ b0 ∧ b0 < 224
  · rw [if_pos c2]
    have n2 : ¬ (b0 / 16 = 14 ∧ (1 < n ∧ b1 / 64 = 2) ∧ (2 < n ∧ b2 / 64 = 2)) := by omega
    have n3 : ¬ (b0 / 8 = 30 ∧ (1 < n ∧ b1 / 64 = 2) ∧ (2 < n ∧ b2 / 64 = 2) ∧ (3 < n ∧ b3 / 64 = 2)) := by omega
    rw [if_neg n2, if_neg n3]
    by_cases e1 : n < 2
    · rw [if_pos e1, if_neg (show ¬ (b0 / 32 = 6 ∧ (1 < n ∧ b1 / 64 = 2)) by omega)]
      exact .inl ⟨rfl, rfl⟩
    rw [if_neg e1]
    by_cases e2 : b1 < 128 ∨ 192 ≤ b1
    · rw [if_pos e2, if_neg (show ¬ (b0 / 32 = 6 ∧ (1 < n ∧ b1 / 64 = 2)) by omega)]
      exact .inl ⟨rfl, rfl⟩
    rw [if_neg e2, if_pos (show b0 / 32 = 6 ∧ (1 < n ∧ b1 / 64 = 2) by omega)]
    by_cases g : 64 * (b0 - 192) + b1 - 128 < 128
    · rw [if_pos g, if_neg (show ¬ b0 % 32 * 64 + b1 % 64 ≥ 128 by omega)]
      exact .inl ⟨rfl, rfl⟩
    · rw [if_neg g, if_pos (show b0 % 32 * 64 + b1 % 64 ≥ 128 by omega)]
      exact .inr ⟨(by simp only; omega), (by simp only; omega), (by simp only; omega), by rw [show 64 * (b0 - 192) + b1 - 128 = b0 % 32 * 64 + b1 % 64 by omega]⟩
  rw [if_neg c2, if_neg (show ¬ (b0 / 32 = 6 ∧ (1 < n ∧ b1 / 64 = 2)) by omega)]
  by_cases c3 : 224 ≤ b0 ∧ b0 < 240
  · rw [if_pos c3]
    have n3 : ¬ (b0 / 8 = 30 ∧ (1 < n ∧ b1 / 64 = 2) ∧ (2 < n ∧ b2 / 64 = 2) ∧ (3 < n ∧ b3 / 64 = 2)) := by omega
    rw [if_neg n3]
    by_cases e1 : n < 3
    · rw [if_pos e1, if_neg (show ¬ (b0 / 16 = 14 ∧ (1 < n ∧ b1 / 64 = 2) ∧ (2 < n ∧ b2 / 64 = 2)) by omega)]
      exact .inl ⟨rfl, rfl⟩
    rw [if_neg e1]
    by_cases e2 : b1 < 128 ∨ 192 ≤ b1
    · rw [if_pos e2, if_neg (show ¬ (b0 / 16 = 14 ∧ (1 < n ∧ b1 / 64 = 2) ∧ (2 < n ∧ b2 / 64 = 2)) by omega)]
      exact .inl ⟨rfl, rfl⟩
    rw [if_neg e2]
    by_cases e3 : b2 < 128 ∨ 192 ≤ b2
    · rw [if_pos e3, if_neg (show ¬ (b0 / 16 = 14 ∧ (1 < n ∧ b1 / 64 = 2) ∧ (2 < n ∧ b2 / 64 = 2)) by omega)]
      exact .inl ⟨rfl, rfl⟩
    rw [if_neg e3, if_pos (show b0 / 16 = 14 ∧ (1 < n ∧ b1 / 64 = 2) ∧ (2 < n ∧ b2 / 64 = 2) by omega)]
    have e : 64 * (64 * (b0 - 224) + b1 - 128) + b2 - 128 = b0 % 16 * 4096 + b1 % 64 * 64 + b2 % 64 := by omega
    rw [e]
    generalize b0 % 16 * 4096 + b1 % 64 * 64 + b2 % 64 = C at e ⊢
    have hC : C < 65536 := by omega
    clear e
    by_cases g : C < 2048 ∨ (55296 ≤ C ∧ C < 57344)
    · rw [if_pos g, if_neg (show ¬ (C ≥ 2048 ∧ (C < 55296 ∨ (57344 ≤ C ∧ C ≤ 1114111))) by omega)]
      exact .inl ⟨rfl, rfl⟩
    · rw [if_neg g, if_pos (show C ≥ 2048 ∧ (C < 55296 ∨ (57344 ≤ C ∧ C ≤ 1114111)) by omega)]
      exact .inr ⟨(by simp only; omega), (by simp only; omega), (by simp only; omega), rfl⟩
  rw [if_neg c3, if_neg (show ¬ (b0 / 16 = 14 ∧ (1 < n ∧ b1 / 64 = 2) ∧ (2 < n ∧ b2 / 64 = 2)) by omega)]
  by_cases c4 : 240 ≤ b0 ∧ b0 < 248
  · rw [if_pos c4]
    by_cases e1 : n < 4
    · rw [if_pos e1, if_neg (show ¬ (b0 / 8 = 30 ∧ (1 < n ∧ b1 / 64 = 2) ∧ (2 < n ∧ b2 / 64 = 2) ∧ (3 < n ∧ b3 / 64 = 2)) by omega)]
      exact .inl ⟨rfl, rfl⟩
    rw [if_neg e1]
    by_cases e2 : b1 < 128 ∨ 192 ≤ b1
    · rw [if_pos e2, if_neg (show ¬ (b0 / 8 = 30 ∧ (1 < n ∧ b1 / 64 = 2) ∧ (2 < n ∧ b2 / 64 = 2) ∧ (3 < n ∧ b3 / 64 = 2)) by omega)]
      exact .inl ⟨rfl, rfl⟩
    rw [if_neg e2]
    by_cases e3 : b2 < 128 ∨ 192 ≤ b2
    · rw [if_pos e3, if_neg (show ¬ (b0 / 8 = 30 ∧ (1 < n ∧ b1 / 64 = 2) ∧ (2 < n ∧ b2 / 64 = 2) ∧ (3 < n ∧ b3 / 64 = 2)) by omega)]
      exact .inl ⟨rfl, rfl⟩
    rw [if_neg e3]
    by_cases e4 : b3 < 128 ∨ 192 ≤ b3
    · rw [if_pos e4, if_neg (show ¬ (b0 / 8 = 30 ∧ (1 < n ∧ b1 / 64 = 2) ∧ (2 < n ∧ b2 / 64 = 2) ∧ (3 < n ∧ b3 / 64 = 2)) by omega)]
      exact .inl ⟨rfl, rfl⟩
    rw [if_neg e4, if_pos (show b0 / 8 = 30 ∧ (1 < n ∧ b1 / 64 = 2) ∧ (2 < n ∧ b2 / 64 = 2) ∧ (3 < n ∧ b3 / 64 = 2) by omega)]
    have e : 64 * (64 * (64 * (b0 - 240) + b1 - 128) + b2 - 128) + b3 - 128 = b0 % 8 * 262144 + b1 % 64 * 4096 + b2 % 64 * 64 + b3 % 64 := by omega
    rw [e]
    generalize b0 % 8 * 262144 + b1 % 64 * 4096 + b2 % 64 * 64 + b3 % 64 = C at e ⊢
    clear e
    by_cases g : C < 65536 ∨ 1114111 < C
    · rw [if_pos g, if_neg (show ¬ (C ≥ 65536 ∧ (C < 55296 ∨ (57344 ≤ C ∧ C ≤ 1114111))) by omega)]
      exact .inl ⟨rfl, rfl⟩
    · rw [if_neg g, if_pos (show C ≥ 65536 ∧ (C < 55296 ∨ (57344 ≤ C ∧ C ≤ 1114111)) by omega)]
      exact .inr ⟨(by simp only; omega), (by simp only; omega), (by simp only; omega), rfl⟩
  rw [if_neg c4, if_neg (show ¬ (b0 / 8 = 30 ∧ (1 < n ∧ b1 / 64 = 2) ∧ (2 < n ∧ b2 / 64 = 2) ∧ (3 < n ∧ b3 / 64 = 2)) by omega)]
  exact .inl ⟨rfl, rfl⟩
/-- The library's code point is the document's, or the document has none. -/
theorem dec_go (b : UInt8) (m : List UInt8) : (decF (b :: m) = (0, 0) ∧ Utf8.decode (tx (b :: m)) 0 = (65533, 1)) ∨ (1 ≤ (decF (b :: m)).2 ∧ (decF (b :: m)).2 ≤ 4 ∧ (decF (b :: m)).2 ≤ (b :: m).length ∧ Utf8.decode (tx (b :: m)) 0 = decF (b :: m)) := by
  have h1 : decF (b :: m) = nextF (b :: m) 0 := (next_dec (b :: m) 0 (by simp)).symm
  rw [h1, nextF_P (b :: m) 0 (by simp), Lib.decode_N, tx_list]
  exact nextP_decode _ _ _ _ _ (by simp) ((b :: m).getD 0 0).toNat_lt ((b :: m).getD (0 + 1) 0).toNat_lt ((b :: m).getD (0 + 2) 0).toNat_lt ((b :: m).getD (0 + 3) 0).toNat_lt
end Go.Proofs.YtaeaomlhbdbbfaaGreatDoor
