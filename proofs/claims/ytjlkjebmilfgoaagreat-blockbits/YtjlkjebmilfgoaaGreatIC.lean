/- Layer 8, the program: codes that are told. -/
import Derived.Test.YtjlkjebmilfgoaaGreatIB
/- Layer 8, the program: the code by which the lengths of the two others are told. -/
namespace Go.Proofs.YtjlkjebmilfgoaaGreat
open Go.RowKit

theorem firsts_length (B : List UInt8) (a : Nat) : ∀ i, (firsts B a i).length = 19
  | 0 => by simp [firsts]
  | i + 1 => by rw [firsts, List.length_set]; exact firsts_length B a i
theorem firsts_low (B : List UInt8) (a : Nat) : ∀ i, Low (firsts B a i)
  | 0 => by intro x hx; simp [firsts] at hx; omega
  | i + 1 => by
    intro x hx
    rw [firsts] at hx
    rcases List.mem_or_eq_of_mem_set hx with h | h
    · exact firsts_low B a i x h
    · have := nm_lt B (a + 3 * i) 3
      omega
theorem firsts_lens (B : List UInt8) (a i : Nat) : Lens (firsts B a i) := ⟨firsts_low B a i, by rw [firsts_length]; decide⟩

theorem one_bits (s : ByteArray) (a' : Nat) (f : Bool) (ha : a' ≤ 8 * s.size) : ∃ v b2 f2, rBits s a' f 3 = (v, b2, f2) ∧ v < 8 ∧ b2 ≤ 8 * s.size ∧ (f = true → f2 = true) ∧ (f = false → (f2 = true → 8 * s.size < a' + 3) ∧ (f2 = false → v = nm (bitsOf s.data.toList) a' 3 ∧ b2 = a' + 3)) := by
  unfold rBits
  by_cases h : short s.size a' f 3 = true
  · rw [if_pos h]
    refine ⟨0, a', true, rfl, by decide, ha, fun _ => rfl, fun hf => ⟨fun _ => ?_, fun h => by cases h⟩⟩
    subst hf
    simp [short] at h
    omega
  · rw [if_neg h]
    have hh := h
    simp [short] at hh
    refine ⟨_, _, _, rfl, ?_, ?_, fun hf => ?_, fun hf => ⟨fun h => (by cases h), fun _ => ⟨nm_of s a' 3, rfl⟩⟩⟩
    · exact Nat.mod_lt _ (by decide)
    · show a' + 3 ≤ _
      omega
    · subst hf
      simp [short] at h

theorem slice19 (H K : Nat) (h : K ≤ 19) (W : World) : (Instr.sliceAt 98 (.pointer (some ⟨H, 0, none⟩)) none (some (.int .i64 (K : Nat))) none).run Tryz.prog W = .ok (.slice (some ⟨H, 0, none⟩) K 19) W := by
  obtain rfl | rfl | rfl | rfl | rfl | rfl | rfl | rfl | rfl | rfl | rfl | rfl | rfl | rfl | rfl | rfl | rfl | rfl | rfl | rfl : K = 0 ∨ K = 1 ∨ K = 2 ∨ K = 3 ∨ K = 4 ∨ K = 5 ∨ K = 6 ∨ K = 7 ∨ K = 8 ∨ K = 9 ∨ K = 10 ∨ K = 11 ∨ K = 12 ∨ K = 13 ∨ K = 14 ∨ K = 15 ∨ K = 16 ∨ K = 17 ∨ K = 18 ∨ K = 19 := by omega
  all_goals kernel_rfl
theorem slice19a (H : Nat) (W : World) : (Instr.sliceAt 98 (.pointer (some ⟨H, 0, none⟩)) none none none).run Tryz.prog W = .ok (.slice (some ⟨H, 0, none⟩) 19 19) W := by kernel_rfl
end Go.Proofs.YtjlkjebmilfgoaaGreat

/- Layer 8, the program: lengths by the first code. -/
namespace Go.Proofs.YtjlkjebmilfgoaaGreat
open Go.RowKit

theorem mRow_step (B : List UInt8) (l : List Nat) (n f a : Nat) (o : List Nat) : mRow B l n (f + 1) a o =
    if n ≤ o.length then (0, a, o)
    else if (rdp l B a).2.2 ≠ 0 then ((rdp l B a).2.2, a, o)
    else if (rdp l B a).1 < 16 then mRow B l n f (rdp l B a).2.1 (o ++ [(rdp l B a).1])
    else if (rdp l B a).1 = 16 ∧ o.length = 0 then (2, a, o)
    else if B.length < (rdp l B a).2.1 + tw (rdp l B a).1 then (3, a, o)
    else if n < o.length + (tv (rdp l B a).1 + nm B (rdp l B a).2.1 (tw (rdp l B a).1)) then (2, a, o)
    else mRow B l n f ((rdp l B a).2.1 + tw (rdp l B a).1) (o ++ List.replicate (tv (rdp l B a).1 + nm B (rdp l B a).2.1 (tw (rdp l B a).1)) (if (rdp l B a).1 = 16 then o.getD (o.length - 1) 0 else 0)) := rfl
theorem mRow_full (B : List UInt8) (l : List Nat) (n : Nat) : ∀ (f a : Nat) (o : List Nat), n ≤ o.length → mRow B l n f a o = (0, a, o)
  | 0, a, o, _ => rfl
  | f + 1, a, o, h => by rw [mRow_step, if_pos h]
theorem rdp_symbol19 (l : List Nat) (b : List UInt8) (a : Nat) (h : l.length ≤ 19) : (rdp l b a).1 < 19 := by
  rcases scan_symbol l b (lg l) 1 0 a with h1 | h1
  · exact Nat.lt_of_lt_of_le h1 h
  · show (scan l b (lg l) 1 0 a).1 < 19
    omega
theorem tw_tv (y : Nat) : 1 ≤ tv y ∧ tv y ≤ 11 ∧ tw y ≤ 7 := by unfold tv tw; split <;> split <;> (try split) <;> omega

theorem make_cap (n : Nat) (h : n ≤ 1000) (w : World) : (Instr.makeSlice 44 (.int .i64 0) (.int .i64 n)).run Tryz.prog w = .ok (.slice (some ⟨w.heap.size, 0, none⟩) 0 n) (w.alloc (.cells (List.replicate n (Value.int .i64 0)).toArray 3)) := by
  obtain ⟨i, hi, hz, hsz, hby⟩ := info_parts info3
  have h := run_make (P := Tryz.prog) w 44 3 i (.int .i64 0) Tryz.underlying44 hi hz .i64 .i64 0 n (by omega) (by omega) (by rw [hby]; omega) (by omega)
  have e1 : madeCells (Value.int .i64 0).cells (n * 1) = (List.replicate n (Value.int .i64 0)).toArray := by
    apply Array.ext'
    rw [Value.cells, toList_madeCells_one]
    · simp
    all_goals intros; simp_all
  rw [Int.toNat_natCast, hsz, e1] at h
  exact h

end Go.Proofs.YtjlkjebmilfgoaaGreat

/- Layer 8, the program: the codes that a block of kind 2 brings along. -/
namespace Go.Proofs.YtjlkjebmilfgoaaGreat
open Go.RowKit

theorem mRow_low (B : List UInt8) (l : List Nat) (n : Nat) : ∀ (f a : Nat) (o : List Nat), Low o → Low (mRow B l n f a o).2.2
  | 0, a, o, h => h
  | f + 1, a, o, h => by
    have happ : ∀ r : List Nat, Low r → Low (o ++ r) := fun r hr x hx => (List.mem_append.1 hx).elim (h x) (hr x)
    rw [mRow_step]
    split
    · exact h
    · split
      · exact h
      · split
        · rename_i h3
          refine mRow_low B l n f _ _ (happ _ ?_)
          intro x hx
          obtain rfl : x = _ := by simpa using hx
          omega
        · split
          · exact h
          · split
            · exact h
            · split
              · exact h
              · refine mRow_low B l n f _ _ (happ _ ?_)
                intro x hx
                have := List.eq_of_mem_replicate hx
                subst this
                split
                · exact ln_le o _ h
                · omega
theorem mRow_empty (B : List UInt8) (l : List Nat) (n a : Nat) (hn : 1 ≤ n) (h0 : st l 16 = 0) : (mRow B l n n a []).1 = 10 := by
  obtain ⟨k, rfl⟩ : ∃ k, n = k + 1 := ⟨n - 1, by omega⟩
  have e : rdp l B a = (0, a, 10) := by unfold rdp; rw [lg_zero l h0]; rfl
  rw [mRow_step, if_neg (by simp), e]
  rfl
theorem kd_empty (l : List Nat) (h : (kd l).1 = 2) : st l 16 = 0 := by
  unfold kd at h
  split at h
  · assumption
  · split at h
    · cases h
    · split at h <;> cases h
theorem mOwn2_eq (B : List UInt8) (n0 n1 : Nat) (l : List Nat) (a : Nat) (hn : 1 ≤ n0) : mOwn2 B n0 n1 l a =
    if (kd l).2 ≠ 0 then (10, a, [], [])
    else if (mRow B l (n0 + n1) (n0 + n1) a []).1 ≠ 0 then ((mRow B l (n0 + n1) (n0 + n1) a []).1, a, [], [])
    else if ln (mRow B l (n0 + n1) (n0 + n1) a []).2.2 256 = 0 then (2, a, [], [])
    else if (kd ((mRow B l (n0 + n1) (n0 + n1) a []).2.2.take n0)).2 ≠ 0 ∨ (kd ((mRow B l (n0 + n1) (n0 + n1) a []).2.2.drop n0)).2 ≠ 0 then (10, a, [], [])
    else (0, (mRow B l (n0 + n1) (n0 + n1) a []).2.1, (mRow B l (n0 + n1) (n0 + n1) a []).2.2.take n0, (mRow B l (n0 + n1) (n0 + n1) a []).2.2.drop n0) := by
  unfold mOwn2
  by_cases h : (kd l).2 ≠ 0
  · rw [if_pos (.inl h), if_pos h]
  · rw [if_neg h]
    by_cases h2 : (kd l).1 = 2
    · have := mRow_empty B l (n0 + n1) a (by omega) (kd_empty l h2)
      rw [if_pos (.inr h2), if_pos (by rw [this]; decide), this]
    · rw [if_neg (by simp [h2]; omega)]

theorem three_bits (s : ByteArray) (a : Nat) (ha : a ≤ 8 * s.size) : ∃ v1 b1 f1 v2 b2 f2 v3 b3 f3, rBits s a false 5 = (v1, b1, f1) ∧ rBits s b1 f1 5 = (v2, b2, f2) ∧ rBits s b2 f2 4 = (v3, b3, f3) ∧ b1 ≤ 8 * s.size ∧ b2 ≤ 8 * s.size ∧ v1 < 4294967296 ∧ v2 < 4294967296 ∧ v3 < 4294967296 ∧ (f3 = true ↔ 8 * s.size < a + 14) ∧
    (f3 = false → v1 = nm (bitsOf s.data.toList) a 5 ∧ v2 = nm (bitsOf s.data.toList) (a + 5) 5 ∧ v3 = nm (bitsOf s.data.toList) (a + 10) 4 ∧ b3 = a + 14) := by
  obtain ⟨v1, b1, f1, v2, b2, f2, e1, e2, k1, k2, l1, l2, k3, k4⟩ := two_bits s a 5 5 ha (by decide) (by decide)
  cases f2 with
  | true =>
    have e3 : rBits s b2 true 4 = (0, b2, true) := by unfold rBits; rw [if_pos (by simp [short])]
    exact ⟨v1, b1, f1, v2, b2, true, 0, b2, true, e1, e2, e3, k1, k2, l1, l2, by decide, ⟨fun _ => by have := k3.1 rfl; omega, fun _ => rfl⟩, fun h => by cases h⟩
  | false =>
    obtain ⟨g1, g2, rfl⟩ := k4 rfl
    by_cases h2 : 8 * s.size < a + 14
    · have e3 : rBits s (a + 5 + 5) false 4 = (0, a + 5 + 5, true) := by unfold rBits; rw [if_pos (by simp [short]; omega)]
      exact ⟨v1, b1, f1, v2, _, false, 0, _, true, e1, e2, e3, k1, k2, l1, l2, by decide, ⟨fun _ => h2, fun _ => rfl⟩, fun h => by cases h⟩
    · have e3 : rBits s (a + 5 + 5) false 4 = (le s.data.toList / 2 ^ (a + 5 + 5) % 2 ^ 4, a + 5 + 5 + 4, false) := by unfold rBits; rw [if_neg (by simp [short]; omega)]; rfl
      exact ⟨v1, b1, f1, v2, _, false, _, _, false, e1, e2, e3, k1, k2, l1, l2, Nat.lt_of_lt_of_le (Nat.mod_lt _ (by decide)) (by decide), ⟨fun h => (by cases h), fun h => absurd h h2⟩, fun _ => ⟨g1, g2, nm_of s (a + 5 + 5) 4, rfl⟩⟩

theorem see_take {w : World} {B n : Nat} {A : Option Addr} {vs : List Value} (h : See w B A vs) : See w B A (vs.take n) := by
  intro i v hv
  rw [List.getElem?_take] at hv
  split at hv
  · exact h i v hv
  · cases hv
theorem see_drop {w : World} {B n g : Nat} {vs : List Value} (h : See w B (some ⟨g, 0, none⟩) vs) : See w B (some ⟨g, n, none⟩) (vs.drop n) := by
  intro i v hv
  rw [List.getElem?_drop] at hv
  obtain ⟨b, off, e, hb, hc⟩ := h (n + i) v hv
  simp only [Option.some.injEq, Addr.mk.injEq, and_true] at e
  obtain ⟨rfl, rfl⟩ := e
  exact ⟨g, n, rfl, hb, by rw [Nat.zero_add] at hc; exact hc⟩
theorem ints_took (l : List Nat) (n : Nat) : (ints l).take n = ints (l.take n) := by simp [ints, List.map_take]
theorem ints_drop (l : List Nat) (n : Nat) : (ints l).drop n = ints (l.drop n) := by simp [ints, List.map_drop]

end Go.Proofs.YtjlkjebmilfgoaaGreat
