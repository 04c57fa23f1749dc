/- Layer 8, the program: the codes that a block of kind 2 brings along. -/
import Derived.Test.YtackcgiokkbhdaaDoorRow62
namespace Go.Proofs.YtackcgiokkbhdaaDoor
open Go.RowKit

theorem mRow_low (B : List UInt8) (l : List Nat) (n : Nat) : ∀ (f a : Nat) (o : List Nat), Low o → Low (mRow B l n f a o).2.2
  | 0, a, o, h => h
  | f + 1, a, o, h => by
    have happ : ∀ r : List Nat, Low r → Low (o ++ r) := fun r hr x hx => (List.mem_append.1 hx).elim (h x) (hr x)
    rw [mRow_step]
    split
    · exact h
    · split
      · exact h
      · split
        · rename_i h3
          refine mRow_low B l n f _ _ (happ _ ?_)
          intro x hx
          obtain rfl : x = _ := by simpa using hx
          omega
        · split
          · exact h
          · split
            · exact h
            · split
              · exact h
              · refine mRow_low B l n f _ _ (happ _ ?_)
                intro x hx
                have := List.eq_of_mem_replicate hx
                subst this
                split
                · exact ln_le o _ h
                · omega
theorem mRow_empty (B : List UInt8) (l : List Nat) (n a : Nat) (hn : 1 ≤ n) (h0 : st l 16 = 0) : (mRow B l n n a []).1 = 10 := by
  obtain ⟨k, rfl⟩ : ∃ k, n = k + 1 := ⟨n - 1, by omega⟩
  have e : rdp l B a = (0, a, 10) := by unfold rdp; rw [lg_zero l h0]; rfl
  rw [mRow_step, if_neg (by simp), e]
  rfl
theorem kd_empty (l : List Nat) (h : (kd l).1 = 2) : st l 16 = 0 := by
  unfold kd at h
  split at h
  · assumption
  · split at h
    · cases h
    · split at h <;> cases h
theorem mOwn2_eq (B : List UInt8) (n0 n1 : Nat) (l : List Nat) (a : Nat) (hn : 1 ≤ n0) : mOwn2 B n0 n1 l a =
    if (kd l).2 ≠ 0 then (10, a, [], [])
    else if (mRow B l (n0 + n1) (n0 + n1) a []).1 ≠ 0 then ((mRow B l (n0 + n1) (n0 + n1) a []).1, a, [], [])
    else if ln (mRow B l (n0 + n1) (n0 + n1) a []).2.2 256 = 0 then (2, a, [], [])
    else if (kd ((mRow B l (n0 + n1) (n0 + n1) a []).2.2.take n0)).2 ≠ 0 ∨ (kd ((mRow B l (n0 + n1) (n0 + n1) a []).2.2.drop n0)).2 ≠ 0 then (10, a, [], [])
    else (0, (mRow B l (n0 + n1) (n0 + n1) a []).2.1, (mRow B l (n0 + n1) (n0 + n1) a []).2.2.take n0, (mRow B l (n0 + n1) (n0 + n1) a []).2.2.drop n0) := by
  unfold mOwn2
  by_cases h : (kd l).2 ≠ 0
  · rw [if_pos (.inl h), if_pos h]
  · rw [if_neg h]
    by_cases h2 : (kd l).1 = 2
    · have := mRow_empty B l (n0 + n1) a (by omega) (kd_empty l h2)
      rw [if_pos (.inr h2), if_pos (by rw [this]; decide), this]
    · rw [if_neg (by simp [h2]; omega)]

theorem three_bits (s : ByteArray) (a : Nat) (ha : a ≤ 8 * s.size) : ∃ v1 b1 f1 v2 b2 f2 v3 b3 f3, rBits s a false 5 = (v1, b1, f1) ∧ rBits s b1 f1 5 = (v2, b2, f2) ∧ rBits s b2 f2 4 = (v3, b3, f3) ∧ b1 ≤ 8 * s.size ∧ b2 ≤ 8 * s.size ∧ v1 < 4294967296 ∧ v2 < 4294967296 ∧ v3 < 4294967296 ∧ (f3 = true ↔ 8 * s.size < a + 14) ∧
    (f3 = false → v1 = nm (bitsOf s.data.toList) a 5 ∧ v2 = nm (bitsOf s.data.toList) (a + 5) 5 ∧ v3 = nm (bitsOf s.data.toList) (a + 10) 4 ∧ b3 = a + 14) := by
  obtain ⟨v1, b1, f1, v2, b2, f2, e1, e2, k1, k2, l1, l2, k3, k4⟩ := two_bits s a 5 5 ha (by decide) (by decide)
  cases f2 with
  | true =>
    have e3 : rBits s b2 true 4 = (0, b2, true) := by unfold rBits; rw [if_pos (by simp [short])]
    exact ⟨v1, b1, f1, v2, b2, true, 0, b2, true, e1, e2, e3, k1, k2, l1, l2, by decide, ⟨fun _ => by have := k3.1 rfl; omega, fun _ => rfl⟩, fun h => by cases h⟩
  | false =>
    obtain ⟨g1, g2, rfl⟩ := k4 rfl
    by_cases h2 : 8 * s.size < a + 14
    · have e3 : rBits s (a + 5 + 5) false 4 = (0, a + 5 + 5, true) := by unfold rBits; rw [if_pos (by simp [short]; omega)]
      exact ⟨v1, b1, f1, v2, _, false, 0, _, true, e1, e2, e3, k1, k2, l1, l2, by decide, ⟨fun _ => h2, fun _ => rfl⟩, fun h => by cases h⟩
    · have e3 : rBits s (a + 5 + 5) false 4 = (le s.data.toList / 2 ^ (a + 5 + 5) % 2 ^ 4, a + 5 + 5 + 4, false) := by unfold rBits; rw [if_neg (by simp [short]; omega)]; rfl
      exact ⟨v1, b1, f1, v2, _, false, _, _, false, e1, e2, e3, k1, k2, l1, l2, Nat.lt_of_lt_of_le (Nat.mod_lt _ (by decide)) (by decide), ⟨fun h => (by cases h), fun h => absurd h h2⟩, fun _ => ⟨g1, g2, nm_of s (a + 5 + 5) 4, rfl⟩⟩

def OwnPost (w : World) (b : Nat) (s : ByteArray) (r : Own3) (e : Ending) (w' : World) : Prop := Only (· = b) w w' ∧
  if r.1 ≠ 0 then ∃ p q, e = .returned (.tuple #[.agg #[.pointer p, .pointer q], .int .i64 r.1]) else ∃ T1 T2 hi, e = .returned (.tuple #[.agg #[.pointer (some ⟨T1, 0, none⟩), .pointer (some ⟨T2, 0, none⟩)], .int .i64 0]) ∧ Cods w' w.heap.size hi T1 T2 r.2.2.1 r.2.2.2 ∧ Rd w' b s r.2.1 false ∧ Lens r.2.2.1 ∧ Lens r.2.2.2

/-- The answer's own block stands; all else is as the reader has it. -/
structure OAt (w : World) (b K : Nat) (wx : World) : Prop where
  only : Only (· = b) w wx
  box : Is wx K 51 [.pointer none, .pointer none]
  lo : w.heap.size ≤ K
  bl : b < w.heap.size
theorem OAt.read {w wx wy : World} {b K : Nat} (h : OAt w b K wx) (k : Only (· = b) wx wy) : OAt w b K wy := ⟨h.only.trans k, h.box.only k (fun e => by have h1 := h.lo; have h2 := h.bl; omega), h.lo, h.bl⟩
theorem OAt.set {w wx : World} {b K : Nat} (h : OAt w b K wx) (p q : Value) : Is ((wx.setCell ⟨K, 0, none⟩ p).setCell ⟨K, 1, none⟩ q) K 51 [p, q] ∧ Only (· = b) w ((wx.setCell ⟨K, 0, none⟩ p).setCell ⟨K, 1, none⟩ q) :=
  ⟨(h.box.set 0 _).set 1 _, h.only.andThen ((Only.one wx K 0 _).trans (Only.one _ K 1 _)) fun j e => .inr (by have := h.lo; omega)⟩

theorem see_take {w : World} {B n : Nat} {A : Option Addr} {vs : List Value} (h : See w B A vs) : See w B A (vs.take n) := by
  intro i v hv
  rw [List.getElem?_take] at hv
  split at hv
  · exact h i v hv
  · cases hv
theorem see_drop {w : World} {B n g : Nat} {vs : List Value} (h : See w B (some ⟨g, 0, none⟩) vs) : See w B (some ⟨g, n, none⟩) (vs.drop n) := by
  intro i v hv
  rw [List.getElem?_drop] at hv
  obtain ⟨b, off, e, hb, hc⟩ := h (n + i) v hv
  simp only [Option.some.injEq, Addr.mk.injEq, and_true] at e
  obtain ⟨rfl, rfl⟩ := e
  exact ⟨g, n, rfl, hb, by rw [Nat.zero_add] at hc; exact hc⟩
theorem ints_take (l : List Nat) (n : Nat) : (ints l).take n = ints (l.take n) := by simp [ints, List.map_take]
theorem ints_drop (l : List Nat) (n : Nat) : (ints l).drop n = ints (l.drop n) := by simp [ints, List.map_drop]

set_option maxRecDepth 100000 in
set_option maxHeartbeats 8000000 in
theorem ownCodes (b d : Nat) (s : ByteArray) (a : Nat) (w : World) (hg : GTab w) (hc : w.cell? ⟨d, 0, none⟩ = some (.pointer (some ⟨b, 0, none⟩))) (hbd : d ≠ b) (hb0 : b ≠ 0) (hr : Rd w b s a false) (hs : s.size ≤ 1073741824) (ha : a ≤ 8 * s.size) :
    Calls Tryd.prog 43 #[.pointer (some ⟨d, 0, none⟩)] w (OwnPost w b s (mOwn (bitsOf s.data.toList) a)) := by
  obtain ⟨wa, hwa⟩ : ∃ wa, w.alloc (.cells #[.pointer none, .pointer none] 51) = wa := ⟨_, rfl⟩
  have hoa : Only (fun _ => False) w wa := by rw [← hwa]; exact (Only.refl _ w).alloc _
  have hia : OAt w b w.heap.size wa := ⟨hoa.mono fun _ f => f.elim, by rw [← hwa]; exact Is.new w 51 _, Nat.le_refl _, hr.lt⟩
  obtain ⟨K, hK⟩ : ∃ K, w.heap.size = K := ⟨_, rfl⟩
  rw [hK] at hia
  have hra := hr.only hoa fun f => f
  obtain ⟨v1, b1, f1, v2, b2, f2, v3, b3, f3, e1, e2, e3, k1, k2, l1, l2, l3, k3, k4⟩ := three_bits s a ha
  have H1 : Hid (∀ w2, Rd w2 b s a false → Calls Tryd.prog 38 #[.pointer (some ⟨b, 0, none⟩), .int .i64 5] w2 (AtPost b s b1 f1 w2 (.int .u32 v1))) := Lib.hid fun w2 h2 => by
    have := rdBits b s a false 5 w2 h2 hs ha
    rw [e1] at this
    exact this
  have H2 : Hid (∀ w2, Rd w2 b s b1 f1 → Calls Tryd.prog 38 #[.pointer (some ⟨b, 0, none⟩), .int .i64 5] w2 (AtPost b s b2 f2 w2 (.int .u32 v2))) := Lib.hid fun w2 h2 => by
    have := rdBits b s b1 f1 5 w2 h2 hs k1
    rw [e2] at this
    exact this
  have H3 : Hid (∀ w2, Rd w2 b s b2 f2 → Calls Tryd.prog 38 #[.pointer (some ⟨b, 0, none⟩), .int .i64 4] w2 (AtPost b s b3 f3 w2 (.int .u32 v3))) := Lib.hid fun w2 h2 => by
    have := rdBits b s b2 f2 4 w2 h2 hs k2
    rw [e3] at this
    exact this
  have HC : Hid (∀ wx, Only (· = b) w wx → wx.cell? ⟨d, 0, none⟩ = some (.pointer (some ⟨b, 0, none⟩))) := Lib.hid fun wx ho => ho.cell hc hbd
  have HGT : Hid (∀ wx, Only (· = b) w wx → GTab wx) := Lib.hid fun wx ho => hg.keep ho fun e => hb0 e.symm
  have hm : mOwn (bitsOf s.data.toList) a = mOwn (bitsOf s.data.toList) a := rfl
  obtain ⟨R, hR⟩ : ∃ R, mOwn (bitsOf s.data.toList) a = R := ⟨_, rfl⟩
  rw [hR]
  unfold mOwn at hR
  rw [bits_len] at hR
  have ca := HC.out wa hia.only
  have HIA := Lib.hid hia
  have HRA := Lib.hid hra
  have K3 := Lib.hid k3
  have K4 := Lib.hid k4
  have HR := Lib.hid hR
  have q1 : (v1 : Int) < 4294967296 := by omega
  have q2 : (v2 : Int) < 4294967296 := by omega
  have q3 : (v3 : Int) < 4294967296 := by omega
  clear hm hR k3 k4 e1 e2 e3 hra hia hoa hc hg hr l1 l2 l3
  go_enter Tryd.func43, Tryd.ntmps43
  go_wp2_with fail
  refine (H1.out wa HRA.out).mono ?_
  rintro e w1 ⟨rfl, hr1, ho1⟩
  have HI1 := Lib.hid (HIA.out.read ho1)
  have HR1 := Lib.hid hr1
  have c1 := HC.out w1 HI1.out.only
  clear hr1 ho1 H1 HIA HRA ca
  go_wp2_with fail
  refine (H2.out w1 HR1.out).mono ?_
  rintro e w2 ⟨rfl, hr2, ho2⟩
  have HI2 := Lib.hid (HI1.out.read ho2)
  have HR2 := Lib.hid hr2
  have c2 := HC.out w2 HI2.out.only
  clear hr2 ho2 H2 HI1 HR1 c1
  go_wp2_with fail
  refine (H3.out w2 HR2.out).mono ?_
  rintro e w3 ⟨rfl, hr3, ho3⟩
  have HI3 := Lib.hid (HI2.out.read ho3)
  have HR3 := Lib.hid hr3
  have c3 := HC.out w3 HI3.out.only
  clear hr3 ho3 H3 HI2 HR2 c2
  go_wp2_with fail
  refine (err b s b3 f3 w3 HR3.out).mono ?_
  rintro e w4 ⟨rfl, rfl⟩
  have g0 := HI3.out.box.cell 0 rfl
  have g1 := HI3.out.box.cell 1 rfl
  have z0 := HI3.out.box.frozen 0
  have z1 := HI3.out.box.frozen 1
  cases f3 with
  | true =>
    have hR := HR.out
    rw [if_pos (K3.out.1 rfl)] at hR
    have HRR := Lib.hid hR
    obtain ⟨y1, y2⟩ := HI3.out.set (.pointer none) (.pointer none)
    have Y1 := Lib.hid y1
    have Y2 := Lib.hid y2
    clear hR HR K3 K4 y1 y2 q1 q2 q3
    go_wp2
    refine bodyPost_ret (results_two rfl _ _ K 51 _ _ rfl Y1.out Tryd.underlying51 rfl (by kernel_rfl)) rfl ?_
    exact ⟨Y2.out, by rw [← HRR.out, if_pos (by simp)]; exact ⟨_, _, rfl⟩⟩
  | false =>
    have hin : ¬ 8 * s.size < a + 14 := fun h => by have := K3.out.2 h; cases this
    have hR := HR.out
    rw [if_neg hin] at hR
    obtain ⟨n1, n2, n3, rfl⟩ := K4.out rfl
    rw [← n1, ← n2, ← n3] at hR
    have lt1 : v1 < 32 := by rw [n1]; exact nm_lt _ _ 5
    have lt2 : v2 < 32 := by rw [n2]; exact nm_lt _ _ 5
    have lt3 : v3 < 16 := by rw [n3]; exact nm_lt _ _ 4
    clear K3 K4 HR n1 n2 n3 q1 q2 q3
    obtain ⟨N0, hN0⟩ : ∃ N0, 257 + v1 = N0 := ⟨_, rfl⟩
    obtain ⟨N1, hN1⟩ : ∃ N1, 1 + v2 = N1 := ⟨_, rfl⟩
    obtain ⟨N2, hN2⟩ : ∃ N2, 4 + v3 = N2 := ⟨_, rfl⟩
    rw [hN0, hN1, hN2] at hR
    have i0 : (257 : Int) + (v1 : Int) = (N0 : Int) := by omega
    have i1 : (1 : Int) + (v2 : Int) = (N1 : Int) := by omega
    have i2 : (4 : Int) + (v3 : Int) = (N2 : Int) := by omega
    by_cases hbig : 286 < N0 ∨ 30 < N1
    · rw [if_pos hbig] at hR
      have HRR := Lib.hid hR
      obtain ⟨y1, y2⟩ := HI3.out.set (.pointer none) (.pointer none)
      have Y1 := Lib.hid y1
      have Y2 := Lib.hid y2
      clear hR y1 y2
      by_cases hb1 : 286 < N0
      · have hb2 : (286 : Int) < (N0 : Int) := by omega
        clear hbig
        go_wp2
        refine bodyPost_ret (results_two rfl _ _ K 51 _ _ rfl Y1.out Tryd.underlying51 rfl (by kernel_rfl)) rfl ?_
        exact ⟨Y2.out, by rw [← HRR.out, if_pos (by simp)]; exact ⟨_, _, rfl⟩⟩
      · have hb2 : ¬ (286 : Int) < (N0 : Int) := by omega
        have hb3 : (30 : Int) < (N1 : Int) := by omega
        have hb4 : decide ((286 : Int) < (N0 : Int)) = false := by simp; omega
        clear hbig
        go_wp2
        refine bodyPost_ret (results_two rfl _ _ K 51 _ _ rfl Y1.out Tryd.underlying51 rfl (by kernel_rfl)) rfl ?_
        exact ⟨Y2.out, by rw [← HRR.out, if_pos (by simp)]; exact ⟨_, _, rfl⟩⟩
    · rw [if_neg hbig, mOwn2_eq _ _ _ _ _ (by omega)] at hR
      have hb1 : N0 ≤ 286 := by omega
      have hb2 : N1 ≤ 30 := by omega
      have hb3 : ¬ (286 : Int) < (N0 : Int) := by omega
      have hb4 : ¬ (30 : Int) < (N1 : Int) := by omega
      have hb5 : decide ((286 : Int) < (N0 : Int)) = false := by simp; omega
      have hb6 : decide ((30 : Int) < (N1 : Int)) = false := by simp; omega
      have hb7 : 257 ≤ N0 := by omega
      have HF := Lib.hid (firstCode b d s (a + 14) N2 w3 (HGT.out w3 HI3.out.only) c3 hbd hb0 HR3.out hs (by omega) (by omega))
      unfold FirstPost at HF
      clear hbig
      go_wp2_with fail
      refine HF.out.mono ?_
      rintro e w5 ⟨ho5, hif⟩
      have HI5 := Lib.hid (HI3.out.read ho5)
      have g0 := HI5.out.box.cell 0 rfl
      have g1 := HI5.out.box.cell 1 rfl
      have z0 := HI5.out.box.frozen 0
      have z1 := HI5.out.box.frozen 1
      obtain ⟨y1, y2⟩ := HI5.out.set (.pointer none) (.pointer none)
      have Y1 := Lib.hid y1
      have Y2 := Lib.hid y2
      have HO5 := Lib.hid ho5
      clear y1 y2 HF ho5
      by_cases hend : 8 * s.size < a + 14 + 3 * N2
      · rw [if_pos hend] at hR hif
        subst hif
        have HRR := Lib.hid hR
        clear hR hend
        go_wp2
        refine bodyPost_ret (results_two rfl _ _ K 51 _ _ rfl Y1.out Tryd.underlying51 rfl (by kernel_rfl)) rfl ?_
        exact ⟨Y2.out, by rw [← HRR.out, if_pos (by simp)]; exact ⟨_, _, rfl⟩⟩
      · rw [if_neg hend] at hR hif
        obtain ⟨hr5, hif⟩ := hif
        have hlen := firsts_lens (bitsOf s.data.toList) (a + 14) N2
        have hlen19 := firsts_length (bitsOf s.data.toList) (a + 14) N2
        obtain ⟨l, hl⟩ : ∃ l, firsts (bitsOf s.data.toList) (a + 14) N2 = l := ⟨_, rfl⟩
        rw [hl] at hR hif hlen hlen19
        by_cases hkd : (kd l).2 ≠ 0
        · rw [if_pos hkd] at hR hif
          subst hif
          have HRR := Lib.hid hR
          clear hR hend hkd hr5 hlen hlen19 hl
          go_wp2
          refine bodyPost_ret (results_two rfl _ _ K 51 _ _ rfl Y1.out Tryd.underlying51 rfl (by kernel_rfl)) rfl ?_
          exact ⟨Y2.out, by rw [← HRR.out, if_pos (by simp)]; exact ⟨_, _, rfl⟩⟩
        · rw [if_neg hkd] at hR hif
          obtain ⟨T, rfl, hT⟩ := hif
          have c5 := HC.out w5 HI5.out.only
          have hb3l := HR3.out.lt
          have HP := Lib.hid (prow b d w3.heap.size T s l (a + 14 + 3 * N2) (N0 + N1) w5 c5 hbd hr5 hT hb3l hlen.low (by omega) hs (by omega) (by omega) (by omega))
          unfold RowPost at HP
          have hlow := mRow_low (bitsOf s.data.toList) l (N0 + N1) (N0 + N1) (a + 14 + 3 * N2) [] (by intro x hx; cases hx)
          obtain ⟨⟨x, a6, o⟩, hq⟩ : ∃ q, mRow (bitsOf s.data.toList) l (N0 + N1) (N0 + N1) (a + 14 + 3 * N2) [] = q := ⟨_, rfl⟩
          rw [hq] at HP hR hlow
          simp only at HP hR hlow
          have i3 : (N0 : Int) + (N1 : Int) = ((N0 + N1 : Nat) : Int) := by omega
          have i4 : wrap64 ((N0 : Int) + (N1 : Int)) = ((N0 + N1 : Nat) : Int) := by rw [i3]; exact IntWalk.wrap64_in _ (by omega)
          obtain ⟨M, hM⟩ : ∃ M, N0 + N1 = M := ⟨_, rfl⟩
          rw [hM] at HP i3 i4
          have HLOW := Lib.hid hlow
          clear hq hend hkd hr5 hlen hlen19 hl hT hlow
          go_wp2_with fail
          refine HP.out.mono ?_
          rintro e w6 ⟨ho6, hif⟩
          have HI6 := Lib.hid (HI5.out.read ho6)
          have g0 := HI6.out.box.cell 0 rfl
          have g1 := HI6.out.box.cell 1 rfl
          have z0 := HI6.out.box.frozen 0
          have z1 := HI6.out.box.frozen 1
          obtain ⟨y1, y2⟩ := HI6.out.set (.pointer none) (.pointer none)
          have Y1 := Lib.hid y1
          have Y2 := Lib.hid y2
          clear y1 y2 HP ho6 i3
          by_cases hx : x = 0
          · subst hx
            rw [if_neg (by simp)] at hR hif
            obtain ⟨A, c, rfl, hA⟩ := hif
            obtain ⟨g, eA, cl, _⟩ := hA.row.cell (ints_at o 256 (by rw [hA.len]; omega))
            subst eA
            obtain ⟨y, hy⟩ : ∃ y, ln o 256 = y := ⟨_, rfl⟩
            rw [hy] at cl hR
            have hM1 : (256 : Int) < (M : Int) := by omega
            have hM2 : 256 < M := by omega
            by_cases hy0 : y = 0
            · subst hy0
              rw [if_pos rfl] at hR
              have HRR := Lib.hid hR
              clear hR hA hy
              go_wp2
              refine bodyPost_ret (results_two rfl _ _ K 51 _ _ rfl Y1.out Tryd.underlying51 rfl (by kernel_rfl)) rfl ?_
              exact ⟨Y2.out, by rw [← HRR.out, if_pos (by simp)]; exact ⟨_, _, rfl⟩⟩
            · rw [if_neg hy0] at hR
              have hyi : ¬ (y : Int) = 0 := by omega
              have hta : (o.take N0).length = N0 := by rw [List.length_take, hA.len]; omega
              have htb : (o.drop N0).length = M - N0 := by rw [List.length_drop, hA.len]
              have hL1 : Lens (o.take N0) := ⟨fun z hz => HLOW.out z (List.mem_of_mem_take hz), by omega⟩
              have hL2 : Lens (o.drop N0) := ⟨fun z hz => HLOW.out z (List.mem_of_mem_drop hz), by omega⟩
              have s1 : See w6.drew w6.drew.heap.size (some ⟨g, 0, none⟩) (ints (o.take N0)) := by rw [← ints_take]; exact see_take hA.row.see
              have s2 : See w6.drew w6.drew.heap.size (some ⟨g, N0, none⟩) (ints (o.drop N0)) := by rw [← ints_drop]; exact see_drop hA.row.see
              have HN := Lib.hid (newCodes (some ⟨g, 0, none⟩) (some ⟨g, N0, none⟩) N0 c (M - N0) (c - N0) (o.take N0) (o.drop N0) w6.drew s1 s2 hta htb hL1 hL2)
              unfold NewC at HN
              have hcap : M ≤ c := by
                obtain ⟨_, ⟨_, h0, _⟩ | ⟨_, _, _, _, _, h3, _⟩⟩ := hA.row
                · omega
                · exact h3
              have HRD6 := Lib.hid hA.rd
              have HRR := Lib.hid hR
              clear hR hA hy s1 s2 hta htb
              obtain ⟨Q, hQ⟩ : ∃ Q, M - N0 = Q := ⟨_, rfl⟩
              obtain ⟨Q2, hQ2⟩ : ∃ Q2, c - N0 = Q2 := ⟨_, rfl⟩
              rw [hQ, hQ2] at HN
              have hNM : N0 ≤ M := by omega
              have hcN : ¬ c = N0 := by omega
              go_wp2_with fail
              refine Steps.region (fun _ => True) [(true, 0), (true, 1), (true, 2), (true, 3), (true, 4), (true, 5), (false, 6), (true, 7), (true, 8), (false, 9), (true, 10)] (by kernel_rfl) (by kernel_rfl) rfl (by kernel_rfl) (fun _ _ d _ _ h => by cases d <;> exact h) ?_
              refine Steps.take (.slice (some ⟨g, 0, none⟩) M c) rfl trivial (fun _ _ => by kernel_rfl) ?_
              simp only [Act.put, List.setIfInBounds_toArray, List.set_cons_succ, List.set_cons_zero]
              refine Steps.take (.int .i64 N0) rfl trivial (fun _ _ => by kernel_rfl) ?_
              simp only [Act.put, List.setIfInBounds_toArray, List.set_cons_succ, List.set_cons_zero]
              refine Steps.take (.slice (some ⟨g, 0, none⟩) N0 c) rfl trivial (fun _ _ => by go_simp; try (intro hh; omega)) ?_
              simp only [Act.put, List.setIfInBounds_toArray, List.set_cons_succ, List.set_cons_zero]
              refine Steps.take (.slice (some ⟨g, 0, none⟩) M c) rfl trivial (fun _ _ => by kernel_rfl) ?_
              simp only [Act.put, List.setIfInBounds_toArray, List.set_cons_succ, List.set_cons_zero]
              refine Steps.take (.int .i64 N0) rfl trivial (fun _ _ => by kernel_rfl) ?_
              simp only [Act.put, List.setIfInBounds_toArray, List.set_cons_succ, List.set_cons_zero]
              refine Steps.take (.slice (some ⟨g, N0, none⟩) Q Q2) rfl trivial (fun _ _ => by go_simp; try omega) ?_
              simp only [Act.put, List.setIfInBounds_toArray, List.set_cons_succ, List.set_cons_zero]
              refine Steps.call 58 #[.slice (some ⟨g, 0, none⟩) N0 c, .slice (some ⟨g, N0, none⟩) Q Q2] rfl (by kernel_rfl) (HN.out.mono ?_)
              rintro e w7 ⟨ho7, hif⟩
              have hI7 := (HI6.out.read ((Only.refl (· = b) w6).drew)).read (ho7.mono fun _ f => f.elim)
              have hrd7 := HRD6.out.drew.only ho7 fun f => f
              by_cases hbad : (kd (o.take N0)).2 ≠ 0 ∨ (kd (o.drop N0)).2 ≠ 0
              · have hR := HRR.out
                rw [if_pos hbad] at hR hif
                obtain ⟨v, rfl, hv⟩ := hif
                obtain ⟨p, q, rfl⟩ : ∃ p q, v = .agg #[.pointer p, .pointer q] := hv
                refine ⟨_, rfl, trivial, ?_⟩
                have x0 := hI7.box.cell 0 rfl
                have x1 := hI7.box.cell 1 rfl
                have y0 := hI7.box.frozen 0
                have y1 := hI7.box.frozen 1
                simp only [Act.put, List.setIfInBounds_toArray, List.set_cons_succ, List.set_cons_zero]
                refine Steps.take (.agg #[.pointer p, .pointer q]) rfl trivial (fun _ _ => by kernel_rfl) ?_
                simp only [Act.put, List.setIfInBounds_toArray, List.set_cons_succ, List.set_cons_zero]
                refine Steps.take (.int .i64 10) rfl trivial (fun _ _ => by kernel_rfl) ?_
                simp only [Act.put, List.setIfInBounds_toArray, List.set_cons_succ, List.set_cons_zero]
                refine Steps.skip (w' := (w7.setCell ⟨K, 0, none⟩ (.pointer p)).setCell ⟨K, 1, none⟩ (.pointer q)) rfl (by go_simp) trivial ?_
                simp only [Act.put]
                refine Steps.take (.int .i64 10) rfl trivial (fun _ _ => by kernel_rfl) ?_
                simp only [Act.put, List.setIfInBounds_toArray, List.set_cons_succ, List.set_cons_zero]
                show wpList _ _ _ _ _ _
                have HFI : Hid (OwnPost w b s R (.returned (.tuple #[.agg #[.pointer p, .pointer q], .int .i64 10])) ((w7.setCell ⟨K, 0, none⟩ (.pointer p)).setCell ⟨K, 1, none⟩ (.pointer q))) := Lib.hid ⟨(hI7.set _ _).2, by rw [← hR, if_pos (by simp)]; exact ⟨_, _, rfl⟩⟩
                have HIX := Lib.hid (hI7.set (.pointer p) (.pointer q)).1
                clear hR hL1 hL2 hI7 hrd7 ho7
                go_wp2
                refine bodyPost_ret (results_two rfl _ _ K 51 _ _ rfl HIX.out Tryd.underlying51 rfl (by kernel_rfl)) rfl ?_
                exact HFI.out
              · have hR := HRR.out
                rw [if_neg hbad] at hR hif
                obtain ⟨T1, T2, hi, rfl, hcd⟩ := hif
                refine ⟨_, rfl, trivial, ?_⟩
                have x0 := hI7.box.cell 0 rfl
                have x1 := hI7.box.cell 1 rfl
                have y0 := hI7.box.frozen 0
                have y1 := hI7.box.frozen 1
                simp only [Act.put, List.setIfInBounds_toArray, List.set_cons_succ, List.set_cons_zero]
                refine Steps.take (.agg #[.pointer (some ⟨T1, 0, none⟩), .pointer (some ⟨T2, 0, none⟩)]) rfl trivial (fun _ _ => by kernel_rfl) ?_
                simp only [Act.put, List.setIfInBounds_toArray, List.set_cons_succ, List.set_cons_zero]
                refine Steps.take (.int .i64 0) rfl trivial (fun _ _ => by kernel_rfl) ?_
                simp only [Act.put, List.setIfInBounds_toArray, List.set_cons_succ, List.set_cons_zero]
                refine Steps.skip (w' := (w7.setCell ⟨K, 0, none⟩ (.pointer (some ⟨T1, 0, none⟩))).setCell ⟨K, 1, none⟩ (.pointer (some ⟨T2, 0, none⟩))) rfl (by go_simp) trivial ?_
                simp only [Act.put]
                refine Steps.take (.int .i64 0) rfl trivial (fun _ _ => by kernel_rfl) ?_
                simp only [Act.put, List.setIfInBounds_toArray, List.set_cons_succ, List.set_cons_zero]
                show wpList _ _ _ _ _ _
                have HFI : Hid (OwnPost w b s R (.returned (.tuple #[.agg #[.pointer (some ⟨T1, 0, none⟩), .pointer (some ⟨T2, 0, none⟩)], .int .i64 0])) ((w7.setCell ⟨K, 0, none⟩ (.pointer (some ⟨T1, 0, none⟩))).setCell ⟨K, 1, none⟩ (.pointer (some ⟨T2, 0, none⟩)))) := Lib.hid (by
                  have hlo6 := HI6.out.box.lt
                  have hlow := HI6.out.lo
                  have hblw := HI6.out.bl
                  have hlod : w6.drew.heap.size = w6.heap.size := rfl
                  have ow : Only (· = K) w7 ((w7.setCell ⟨K, 0, none⟩ (.pointer (some ⟨T1, 0, none⟩))).setCell ⟨K, 1, none⟩ (.pointer (some ⟨T2, 0, none⟩))) := (Only.one w7 K 0 _).trans (Only.one _ K 1 _)
                  have hc7 := hcd.keep ow fun j a b e => by omega
                  refine ⟨(hI7.set _ _).2, ?_⟩
                  rw [← hR, if_neg (by simp)]
                  refine ⟨T1, T2, hi, rfl, ⟨hc7.t1.less (by omega), hc7.t2.less (by omega), hc7.h1, hc7.h2, hc7.hh⟩, hrd7.only ow (fun e => by omega), hL1, hL2⟩)
                have HIX := Lib.hid (hI7.set (.pointer (some ⟨T1, 0, none⟩)) (.pointer (some ⟨T2, 0, none⟩))).1
                clear hR hcd hL1 hL2 hI7 hrd7 ho7
                go_wp2
                refine bodyPost_ret (results_two rfl _ _ K 51 _ _ rfl HIX.out Tryd.underlying51 rfl (by kernel_rfl)) rfl ?_
                exact HFI.out
          · rw [if_pos hx] at hR hif
            subst hif
            have hx2 : ¬ (x : Int) = 0 := by omega
            have HRR := Lib.hid hR
            clear hR
            go_wp2
            refine bodyPost_ret (results_two rfl _ _ K 51 _ _ rfl Y1.out Tryd.underlying51 rfl (by kernel_rfl)) rfl ?_
            exact ⟨Y2.out, by rw [← HRR.out, if_pos hx]; exact ⟨_, _, rfl⟩⟩
end Go.Proofs.YtackcgiokkbhdaaDoor
