/- Layer 13: that a text is UTF-8, by Go's library and by the document; that its bytes may be. -/
import Derived.Test.YtaeaomlhbdbbfaaGreatDoorRpA
import Derived.Lib.ValidLaws
import Derived.Lib.TrimUEq
namespace Go.Proofs.YtaeaomlhbdbbfaaGreatDoor
open Go.RowKit

/-- May a byte stand in a path? -/
def goodB (b : UInt8) : Bool := !(decide (b.toNat < 32) || (decide (b.toNat = 127) || decide (b.toNat = 92)))
theorem good_iff (b : UInt8) : goodB b = true ↔ ¬ (b.toNat < 32 ∨ b.toNat = 127 ∨ b.toNat = 92) := by
  unfold goodB
  simp only [Bool.not_eq_true', Bool.or_eq_false_iff, decide_eq_false_iff_not]
  omega
theorem all_drop (q : UInt8 → Bool) (l : List UInt8) (j : Nat) (h : j < l.length) : (l.drop j).all q = (q (l.getD j 0) && (l.drop (j + 1)).all q) := by
  rw [List.drop_eq_getElem_cons h, List.all_cons, List.getD_eq_getElem?_getD, List.getElem?_eq_getElem h]
  rfl
/-- The document's code point, by numbers. -/
def nextN (n b0 b1 b2 b3 : Nat) : Nat :=
  if b0 < 128 then 1
  else if 192 ≤ b0 ∧ b0 < 224 then (if n < 2 then 0 else if b1 < 128 ∨ 192 ≤ b1 then 0 else if 64 * (b0 - 192) + b1 - 128 < 128 then 0 else 2)
  else if 224 ≤ b0 ∧ b0 < 240 then (if n < 3 then 0 else if b1 < 128 ∨ 192 ≤ b1 then 0 else if b2 < 128 ∨ 192 ≤ b2 then 0
    else if 64 * (64 * (b0 - 224) + b1 - 128) + b2 - 128 < 2048 ∨ (55296 ≤ 64 * (64 * (b0 - 224) + b1 - 128) + b2 - 128 ∧ 64 * (64 * (b0 - 224) + b1 - 128) + b2 - 128 < 57344) then 0 else 3)
  else if 240 ≤ b0 ∧ b0 < 248 then (if n < 4 then 0 else if b1 < 128 ∨ 192 ≤ b1 then 0 else if b2 < 128 ∨ 192 ≤ b2 then 0 else if b3 < 128 ∨ 192 ≤ b3 then 0
    else if 64 * (64 * (64 * (b0 - 240) + b1 - 128) + b2 - 128) + b3 - 128 < 65536 ∨ 1114111 < 64 * (64 * (64 * (b0 - 240) + b1 - 128) + b2 - 128) + b3 - 128 then 0 else 4)
  else 0
theorem nextF_N (l : List UInt8) (a : Nat) (ha : a < l.length) : (nextF l a).2 = nextN (l.length - a) (l.getD a 0).toNat (l.getD (a + 1) 0).toNat (l.getD (a + 2) 0).toNat (l.getD (a + 3) 0).toNat := by
  have h0 := (l.getD a 0).toNat_lt
  have h1 := (l.getD (a + 1) 0).toNat_lt
  have h2 := (l.getD (a + 2) 0).toNat_lt
  have h3 := (l.getD (a + 3) 0).toNat_lt
  unfold nextF nextN
  generalize hb0 : (l.getD a 0).toNat = b0 at h0 ⊢
  by_cases c1 : b0 < 128
  · rw [if_pos c1]
    have e : longF b0 = (1, b0) := if_pos c1
    rw [e, if_neg (by simp only; omega)]
    show (endF 1 (some b0)).2 = 1
    have e2 : endF 1 (some b0) = (b0, 1) := if_neg (show ¬ (b0 < 0 ∨ 1114111 < b0 ∨ (55296 ≤ b0 ∧ b0 < 57344)) by omega)
    rw [e2]
  rw [if_neg c1]
  by_cases c2 : 192 ≤ b0 ∧ b0 < 224
  · rw [if_pos c2]
    have e : longF b0 = (2, b0 - 192) := by
      unfold longF
      rw [if_neg c1, if_pos c2]
    rw [e]
    by_cases hn : l.length - a < 2
    · rw [if_pos hn, if_pos (by simp only; omega)]
    rw [if_neg hn, if_neg (by simp only; omega)]
    show (endF 2 (contF l a 1 1 (b0 - 192))).2 = _
    rw [contF]
    generalize hb1 : (l.getD (a + 1) 0).toNat = b1 at h1 ⊢
    by_cases d1 : b1 < 128 ∨ 192 ≤ b1
    · rw [if_pos d1, if_pos d1]
      rfl
    rw [if_neg d1, if_neg d1]
    show (endF 2 (some (64 * (b0 - 192) + b1 - 128))).2 = _
    unfold endF
    by_cases g : 64 * (b0 - 192) + b1 - 128 < 128
    · rw [if_pos g]
      simp only [leastC]
      rw [if_pos (.inl (by simpa using g))]
    · rw [if_neg g]
      simp only [leastC]
      rw [if_neg (by simp; omega)]
  rw [if_neg c2]
  by_cases c3 : 224 ≤ b0 ∧ b0 < 240
  · rw [if_pos c3]
    have e : longF b0 = (3, b0 - 224) := by
      unfold longF
      rw [if_neg c1, if_neg c2, if_pos c3]
    rw [e]
    by_cases hn : l.length - a < 3
    · rw [if_pos hn, if_pos (by simp only; omega)]
    rw [if_neg hn, if_neg (by simp only; omega)]
    show (endF 3 (contF l a 2 1 (b0 - 224))).2 = _
    rw [contF]
    generalize hb1 : (l.getD (a + 1) 0).toNat = b1 at h1 ⊢
    by_cases d1 : b1 < 128 ∨ 192 ≤ b1
    · rw [if_pos d1, if_pos d1]
      rfl
    rw [if_neg d1, if_neg d1, contF]
    show (endF 3 (if (l.getD (a + 2) 0).toNat < 128 ∨ 192 ≤ (l.getD (a + 2) 0).toNat then none else contF l a 0 3 (64 * (64 * (b0 - 224) + b1 - 128) + (l.getD (a + 2) 0).toNat - 128))).2 = _
    generalize hb2 : (l.getD (a + 2) 0).toNat = b2 at h2 ⊢
    by_cases d2 : b2 < 128 ∨ 192 ≤ b2
    · rw [if_pos d2, if_pos d2]
      rfl
    rw [if_neg d2, if_neg d2]
    show (endF 3 (some (64 * (64 * (b0 - 224) + b1 - 128) + b2 - 128))).2 = _
    generalize hC : 64 * (64 * (b0 - 224) + b1 - 128) + b2 - 128 = C
    unfold endF
    by_cases g : C < 2048 ∨ (55296 ≤ C ∧ C < 57344)
    · rw [if_pos g]
      simp only [leastC]
      rw [if_pos (by simp; omega)]
    · rw [if_neg g]
      simp only [leastC]
      rw [if_neg (by simp; omega)]
  rw [if_neg c3]
  by_cases c4 : 240 ≤ b0 ∧ b0 < 248
  · rw [if_pos c4]
    have e : longF b0 = (4, b0 - 240) := by
      unfold longF
      rw [if_neg c1, if_neg c2, if_neg c3, if_pos c4]
    rw [e]
    by_cases hn : l.length - a < 4
    · rw [if_pos hn, if_pos (by simp only; omega)]
    rw [if_neg hn, if_neg (by simp only; omega)]
    show (endF 4 (contF l a 3 1 (b0 - 240))).2 = _
    rw [contF]
    generalize hb1 : (l.getD (a + 1) 0).toNat = b1 at h1 ⊢
    by_cases d1 : b1 < 128 ∨ 192 ≤ b1
    · rw [if_pos d1, if_pos d1]
      rfl
    rw [if_neg d1, if_neg d1, contF]
    show (endF 4 (if (l.getD (a + 2) 0).toNat < 128 ∨ 192 ≤ (l.getD (a + 2) 0).toNat then none else contF l a 1 3 (64 * (64 * (b0 - 240) + b1 - 128) + (l.getD (a + 2) 0).toNat - 128))).2 = _
    generalize hb2 : (l.getD (a + 2) 0).toNat = b2 at h2 ⊢
    by_cases d2 : b2 < 128 ∨ 192 ≤ b2
    · rw [if_pos d2, if_pos d2]
      rfl
    rw [if_neg d2, if_neg d2, contF]
    generalize hC2 : 64 * (64 * (b0 - 240) + b1 - 128) + b2 - 128 = C2
    show (endF 4 (if (l.getD (a + 3) 0).toNat < 128 ∨ 192 ≤ (l.getD (a + 3) 0).toNat then none else contF l a 0 4 (64 * C2 + (l.getD (a + 3) 0).toNat - 128))).2 = _
    generalize hb3 : (l.getD (a + 3) 0).toNat = b3 at h3 ⊢
    by_cases d3 : b3 < 128 ∨ 192 ≤ b3
    · rw [if_pos d3, if_pos d3]
      rfl
    rw [if_neg d3, if_neg d3]
    show (endF 4 (some (64 * C2 + b3 - 128))).2 = _
    generalize hC : 64 * C2 + b3 - 128 = C
    unfold endF
    by_cases g : C < 65536 ∨ 1114111 < C
    · rw [if_pos g]
      simp only [leastC]
      rw [if_pos (by simp; omega)]
    · rw [if_neg g]
      simp only [leastC]
      rw [if_neg (by simp; omega)]
  rw [if_neg c4]
  have e : longF b0 = (0, 0) := by
    unfold longF
    rw [if_neg c1, if_neg c2, if_neg c3, if_neg c4]
  rw [e, if_pos (.inl rfl)]

set_option maxHeartbeats 2000000 in
/-- The document's and the library's: the same, and what stands behind the first byte begins none. -/
theorem next_decode (n b0 b1 b2 b3 : Nat) (hn : 1 ≤ n) (h0 : b0 < 256) (h1 : b1 < 256) (h2 : b2 < 256) (h3 : b3 < 256) :
    (nextN n b0 b1 b2 b3 = 0 ∧ Lib.decodeN n b0 b1 b2 b3 = (65533, 1)) ∨
    (∃ k, nextN n b0 b1 b2 b3 = k ∧ 1 ≤ k ∧ k ≤ 4 ∧ k ≤ n ∧ (Lib.decodeN n b0 b1 b2 b3).2 = k ∧ ¬ ((Lib.decodeN n b0 b1 b2 b3).1 = 65533 ∧ k = 1) ∧ (2 ≤ k → 128 ≤ b1) ∧ (3 ≤ k → 128 ≤ b2) ∧ (4 ≤ k → 128 ≤ b3)) := by
  unfold nextN Lib.decodeN
  by_cases c1 : b0 < 128
  · rw [if_pos c1, if_pos c1]
    exact .inr ⟨1, rfl, by omega, by omega, hn, rfl, by simp only; omega, by omega, by omega, by omega⟩
  rw [if_neg c1, if_neg c1]
  by_cases c2 : 192 ≤ b0 ∧ b0 < 224
  · rw [if_pos c2]
    have n2 : ¬ (b0 / 16 = 14 ∧ (1 < n ∧ b1 / 64 = 2) ∧ (2 < n ∧ b2 / 64 = 2)) := by omega
    have n3 : ¬ (b0 / 8 = 30 ∧ (1 < n ∧ b1 / 64 = 2) ∧ (2 < n ∧ b2 / 64 = 2) ∧ (3 < n ∧ b3 / 64 = 2)) := by omega
    rw [if_neg n2, if_neg n3]
    by_cases e1 : n < 2
    · rw [if_pos e1, if_neg (show ¬ (b0 / 32 = 6 ∧ (1 < n ∧ b1 / 64 = 2)) by omega)]
      exact .inl ⟨rfl, rfl⟩
    rw [if_neg e1]
    by_cases e2 : b1 < 128 ∨ 192 ≤ b1
    · rw [if_pos e2, if_neg (show ¬ (b0 / 32 = 6 ∧ (1 < n ∧ b1 / 64 = 2)) by omega)]
      exact .inl ⟨rfl, rfl⟩
    rw [if_neg e2, if_pos (show b0 / 32 = 6 ∧ (1 < n ∧ b1 / 64 = 2) by omega)]
    by_cases g : 64 * (b0 - 192) + b1 - 128 < 128
    · rw [if_pos g, if_neg (show ¬ b0 % 32 * 64 + b1 % 64 ≥ 128 by omega)]
      exact .inl ⟨rfl, rfl⟩
    · rw [if_neg g, if_pos (show b0 % 32 * 64 + b1 % 64 ≥ 128 by omega)]
      exact .inr ⟨2, rfl, by omega, by omega, by omega, rfl, by omega, by omega, by omega, by omega⟩
  rw [if_neg c2, if_neg (show ¬ (b0 / 32 = 6 ∧ (1 < n ∧ b1 / 64 = 2)) by omega)]
  by_cases c3 : 224 ≤ b0 ∧ b0 < 240
  · rw [if_pos c3]
    have n3 : ¬ (b0 / 8 = 30 ∧ (1 < n ∧ b1 / 64 = 2) ∧ (2 < n ∧ b2 / 64 = 2) ∧ (3 < n ∧ b3 / 64 = 2)) := by omega
    rw [if_neg n3]
    by_cases e1 : n < 3
    · rw [if_pos e1, if_neg (show ¬ (b0 / 16 = 14 ∧ (1 < n ∧ b1 / 64 = 2) ∧ (2 < n ∧ b2 / 64 = 2)) by omega)]
      exact .inl ⟨rfl, rfl⟩
    rw [if_neg e1]
    by_cases e2 : b1 < 128 ∨ 192 ≤ b1
    · rw [if_pos e2, if_neg (show ¬ (b0 / 16 = 14 ∧ (1 < n ∧ b1 / 64 = 2) ∧ (2 < n ∧ b2 / 64 = 2)) by omega)]
      exact .inl ⟨rfl, rfl⟩
    rw [if_neg e2]
    by_cases e3 : b2 < 128 ∨ 192 ≤ b2
    · rw [if_pos e3, if_neg (show ¬ (b0 / 16 = 14 ∧ (1 < n ∧ b1 / 64 = 2) ∧ (2 < n ∧ b2 / 64 = 2)) by omega)]
      exact .inl ⟨rfl, rfl⟩
    rw [if_neg e3, if_pos (show b0 / 16 = 14 ∧ (1 < n ∧ b1 / 64 = 2) ∧ (2 < n ∧ b2 / 64 = 2) by omega)]
    have e : 64 * (64 * (b0 - 224) + b1 - 128) + b2 - 128 = b0 % 16 * 4096 + b1 % 64 * 64 + b2 % 64 := by omega
    rw [e]
    generalize b0 % 16 * 4096 + b1 % 64 * 64 + b2 % 64 = C at e ⊢
    have hC : C < 65536 := by omega
    clear e
    by_cases g : C < 2048 ∨ (55296 ≤ C ∧ C < 57344)
    · rw [if_pos g, if_neg (show ¬ (C ≥ 2048 ∧ (C < 55296 ∨ (57344 ≤ C ∧ C ≤ 1114111))) by omega)]
      exact .inl ⟨rfl, rfl⟩
    · rw [if_neg g, if_pos (show C ≥ 2048 ∧ (C < 55296 ∨ (57344 ≤ C ∧ C ≤ 1114111)) by omega)]
      exact .inr ⟨3, rfl, by omega, by omega, by omega, rfl, by omega, by omega, by omega, by omega⟩
  rw [if_neg c3, if_neg (show ¬ (b0 / 16 = 14 ∧ (1 < n ∧ b1 / 64 = 2) ∧ (2 < n ∧ b2 / 64 = 2)) by omega)]
  by_cases c4 : 240 ≤ b0 ∧ b0 < 248
  · rw [if_pos c4]
    by_cases e1 : n < 4
    · rw [if_pos e1, if_neg (show ¬ (b0 / 8 = 30 ∧ (1 < n ∧ b1 / 64 = 2) ∧ (2 < n ∧ b2 / 64 = 2) ∧ (3 < n ∧ b3 / 64 = 2)) by omega)]
      exact .inl ⟨rfl, rfl⟩
    rw [if_neg e1]
    by_cases e2 : b1 < 128 ∨ 192 ≤ b1
    · rw [if_pos e2, if_neg (show ¬ (b0 / 8 = 30 ∧ (1 < n ∧ b1 / 64 = 2) ∧ (2 < n ∧ b2 / 64 = 2) ∧ (3 < n ∧ b3 / 64 = 2)) by omega)]
      exact .inl ⟨rfl, rfl⟩
    rw [if_neg e2]
    by_cases e3 : b2 < 128 ∨ 192 ≤ b2
    · rw [if_pos e3, if_neg (show ¬ (b0 / 8 = 30 ∧ (1 < n ∧ b1 / 64 = 2) ∧ (2 < n ∧ b2 / 64 = 2) ∧ (3 < n ∧ b3 / 64 = 2)) by omega)]
      exact .inl ⟨rfl, rfl⟩
    rw [if_neg e3]
    by_cases e4 : b3 < 128 ∨ 192 ≤ b3
    · rw [if_pos e4, if_neg (show ¬ (b0 / 8 = 30 ∧ (1 < n ∧ b1 / 64 = 2) ∧ (2 < n ∧ b2 / 64 = 2) ∧ (3 < n ∧ b3 / 64 = 2)) by omega)]
      exact .inl ⟨rfl, rfl⟩
    rw [if_neg e4, if_pos (show b0 / 8 = 30 ∧ (1 < n ∧ b1 / 64 = 2) ∧ (2 < n ∧ b2 / 64 = 2) ∧ (3 < n ∧ b3 / 64 = 2) by omega)]
    have e : 64 * (64 * (64 * (b0 - 240) + b1 - 128) + b2 - 128) + b3 - 128 = b0 % 8 * 262144 + b1 % 64 * 4096 + b2 % 64 * 64 + b3 % 64 := by omega
    rw [e]
    generalize b0 % 8 * 262144 + b1 % 64 * 4096 + b2 % 64 * 64 + b3 % 64 = C at e ⊢
    clear e
    by_cases g : C < 65536 ∨ 1114111 < C
    · rw [if_pos g, if_neg (show ¬ (C ≥ 65536 ∧ (C < 55296 ∨ (57344 ≤ C ∧ C ≤ 1114111))) by omega)]
      exact .inl ⟨rfl, rfl⟩
    · rw [if_neg g, if_pos (show C ≥ 65536 ∧ (C < 55296 ∨ (57344 ≤ C ∧ C ≤ 1114111)) by omega)]
      exact .inr ⟨4, rfl, by omega, by omega, by omega, rfl, by omega, by omega, by omega, by omega⟩
  rw [if_neg c4, if_neg (show ¬ (b0 / 8 = 30 ∧ (1 < n ∧ b1 / 64 = 2) ∧ (2 < n ∧ b2 / 64 = 2) ∧ (3 < n ∧ b3 / 64 = 2)) by omega)]
  exact .inl ⟨rfl, rfl⟩
theorem good_high {b : UInt8} (h : 128 ≤ b.toNat) : goodB b = true := (good_iff b).2 (by omega)
theorem all_step (l : List UInt8) (a k : Nat) (h1 : 1 ≤ k) (h4 : k ≤ 4) (hk : a + k ≤ l.length) (g1 : 2 ≤ k → 128 ≤ (l.getD (a + 1) 0).toNat) (g2 : 3 ≤ k → 128 ≤ (l.getD (a + 2) 0).toNat) (g3 : 4 ≤ k → 128 ≤ (l.getD (a + 3) 0).toNat) :
    (l.drop a).all goodB = (goodB (l.getD a 0) && (l.drop (a + k)).all goodB) := by
  rw [all_drop _ _ a (by omega)]
  rcases (by omega : k = 1 ∨ k = 2 ∨ k = 3 ∨ k = 4) with rfl | rfl | rfl | rfl
  · rfl
  · rw [all_drop _ _ (a + 1) (by omega), good_high (g1 (by omega)), Bool.true_and]
  · rw [all_drop _ _ (a + 1) (by omega), good_high (g1 (by omega)), Bool.true_and, all_drop _ _ (a + 1 + 1) (by omega), good_high (g2 (by omega)), Bool.true_and]
  · rw [all_drop _ _ (a + 1) (by omega), good_high (g1 (by omega)), Bool.true_and, all_drop _ _ (a + 1 + 1) (by omega), good_high (g2 (by omega)), Bool.true_and, all_drop _ _ (a + 1 + 1 + 1) (by omega), good_high (g3 (by omega)), Bool.true_and]
theorem getD_drop (l : List UInt8) (a k : Nat) : (l.drop a).getD k 0 = l.getD (a + k) 0 := by
  rw [List.getD_eq_getElem?_getD, List.getD_eq_getElem?_getD, List.getElem?_drop]
/-- The document's look at the bytes is the library's, and each byte's own. -/
theorem bytes_valid (l : List UInt8) : ∀ f a, l.length - a ≤ f → bytesOk l f a = (Lib.validD (l.drop a) && (l.drop a).all goodB)
  | 0, a, hf => by
    rw [bytesOk_end l 0 a (by omega), List.drop_eq_nil_iff.2 (by omega)]
    rfl
  | f + 1, a, hf => by
    by_cases ha : a < l.length
    · have hm : l.drop a ≠ [] := fun e => by
        have := List.drop_eq_nil_iff.1 e
        omega
      have hN := nextF_N l a ha
      have hd := Lib.decodeL_N (l.drop a)
      rw [List.length_drop, getD_drop, getD_drop, getD_drop, getD_drop, Nat.add_zero] at hd
      have hv := Lib.validD_step (l.drop a) hm
      rw [hd] at hv
      rw [bytesOk_step l f a ha, hN]
      rcases next_decode (l.length - a) (l.getD a 0).toNat (l.getD (a + 1) 0).toNat (l.getD (a + 2) 0).toNat (l.getD (a + 3) 0).toNat (by omega) (l.getD a 0).toNat_lt (l.getD (a + 1) 0).toNat_lt (l.getD (a + 2) 0).toNat_lt (l.getD (a + 3) 0).toNat_lt with ⟨e1, e2⟩ | ⟨k, e1, k1, k4, kn, e2, e3, g1, g2, g3⟩
      · rw [e1, if_pos (.inl rfl), hv, e2, if_pos ⟨rfl, rfl⟩]
        rfl
      · rw [e2, if_neg e3, List.drop_drop] at hv
        rw [e1, hv, all_step l a k k1 k4 (by omega) g1 g2 g3]
        by_cases hg : (l.getD a 0).toNat < 32 ∨ (l.getD a 0).toNat = 127 ∨ (l.getD a 0).toNat = 92
        · rw [if_pos (.inr hg), show goodB (l.getD a 0) = false by rw [← Bool.not_eq_true, good_iff]; exact fun h => h hg]
          simp
        · rw [if_neg (fun h => h.elim (fun h => by omega) hg), (good_iff _).2 hg, Bool.true_and]
          exact bytes_valid l f (a + k) (by omega)
    · rw [bytesOk_end l (f + 1) a ha, List.drop_eq_nil_iff.2 (by omega)]
      rfl
theorem all_parts : ∀ l : List UInt8, l.all goodB = (splitF l).all fun p => p.all goodB
  | [] => rfl
  | c :: l => by
    have ih := all_parts l
    unfold splitF
    rw [List.all_cons, ih]
    by_cases hc : c = 47
    · rw [if_pos hc, List.all_cons, hc]
      rfl
    · rw [if_neg hc]
      rcases h : splitF l with _ | ⟨p, r⟩
      · exact (split_ne _ h).elim
      · show _ = ((c :: p) :: r).all _
        rw [List.all_cons, List.all_cons, List.all_cons, Bool.and_assoc]
/-- The program's look at a part. -/
def mayF (p : List UInt8) : Bool := partOk p && p.all goodB
/-- The program's look at a path. -/
def checkF (l : List UInt8) : Bool := if l = [] then false else decide (l.length ≤ 1024) && (Lib.validD l && (decide ((splitF l).length ≤ 32) && (splitF l).all mayF))
theorem check_right (l : List UInt8) : rightF l = checkF l := by
  unfold rightF checkF
  by_cases hl : l = []
  · rw [if_pos hl, hl]
    rfl
  · rw [if_neg hl, bytes_valid l l.length 0 (by omega), List.drop_zero, all_parts, show partsF l = splitF l from if_neg hl, decide_eq_true (show 1 ≤ l.length from List.length_pos_iff.2 hl)]
    have e : (splitF l).all mayF = ((splitF l).all partOk && (splitF l).all fun p => p.all goodB) := by
      generalize splitF l = ps
      induction ps with
      | nil => rfl
      | cons p r ih =>
        rw [List.all_cons, List.all_cons, List.all_cons, ih]
        show (partOk p && p.all goodB && _) = _
        cases partOk p <;> cases p.all goodB <;> cases r.all partOk <;> simp
    rw [e]
    cases decide (l.length ≤ 1024) <;> cases Lib.validD l <;> cases decide ((splitF l).length ≤ 32) <;> cases (splitF l).all partOk <;> cases (splitF l).all (fun p => p.all goodB) <;> rfl
end Go.Proofs.YtaeaomlhbdbbfaaGreatDoor
