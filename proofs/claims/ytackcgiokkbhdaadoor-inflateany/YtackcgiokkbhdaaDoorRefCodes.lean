/- Layer 5: the document's codes; whether two rows of numbers are the same; the program's Codes. -/
import Derived.Test.YtackcgiokkbhdaaDoorNumbers
namespace Go.Proofs.YtackcgiokkbhdaaDoor
open Go.RowKit

/-- The codes below length k, and those of length k up to symbol i. -/
def cdg (l : List Nat) (k i : Nat) : Nat → Nat := fun s => if 0 < ln l s ∧ (ln l s < k ∨ (ln l s = k ∧ s < i)) then cd l s else 0
def cdG (l : List Nat) (k i : Nat) : List Nat := (List.range l.length).map (cdg l k i)
theorem cdG_length (l : List Nat) (k i : Nat) : (cdG l k i).length = l.length := by simp [cdG]
theorem cdG_start (l : List Nat) : cdG l 1 0 = List.replicate l.length 0 := by
  unfold cdG
  apply List.ext_getElem
  · simp
  · intro s h1 h2
    simp only [List.length_map, List.length_range] at h1
    simp only [List.getElem_map, List.getElem_range, List.getElem_replicate, cdg]
    rw [if_neg (by omega)]
theorem cdG_put (l : List Nat) (k i : Nat) (hk : ln l i = k) (h0 : 0 < k) : (cdG l k i).set i (cd l i) = cdG l k (i + 1) := by
  refine map_set _ _ _ _ _ ?_ fun t ht hne => ?_
  · unfold cdg
    rw [if_pos (by omega)]
  · unfold cdg
    have : (0 < ln l t ∧ (ln l t < k ∨ (ln l t = k ∧ t < i + 1))) ↔ (0 < ln l t ∧ (ln l t < k ∨ (ln l t = k ∧ t < i))) := by omega
    simp only [this]
theorem cdG_same (l : List Nat) (k i : Nat) (hk : ln l i ≠ k) : cdG l k (i + 1) = cdG l k i := by
  refine map_same _ _ _ fun t ht => ?_
  unfold cdg
  have : (0 < ln l t ∧ (ln l t < k ∨ (ln l t = k ∧ t < i + 1))) ↔ (0 < ln l t ∧ (ln l t < k ∨ (ln l t = k ∧ t < i))) := by
    by_cases e : t = i
    · subst e; omega
    · omega
  simp only [this]
theorem cdG_next (l : List Nat) (k : Nat) : cdG l k l.length = cdG l (k + 1) 0 := by
  refine map_same _ _ _ fun t ht => ?_
  unfold cdg
  have : (0 < ln l t ∧ (ln l t < k + 1 ∨ (ln l t = k + 1 ∧ t < 0))) ↔ (0 < ln l t ∧ (ln l t < k ∨ (ln l t = k ∧ t < l.length))) := by omega
  simp only [this]
theorem cdG_end (l : List Nat) (hl : Low l) : cdG l 16 0 = cds l := by
  refine map_same _ _ _ fun t ht => ?_
  have := ln_le l t hl
  unfold cdg
  split
  · rfl
  · unfold cd
    rw [if_pos (by omega)]

set_option maxHeartbeats 1000000 in
theorem rcodes (A : Option Addr) (n c B : Nat) (l : List Nat) (w : World) (h : See w B A (ints l)) (hn : l.length = n) (h288 : n ≤ 288) (hl : Low l) :
    Calls Tryd.prog 22 #[.slice A n c] w (NumPost w l n) := by
  have HS := Lib.hid h
  have HL := Lib.hid hl
  have HN := Lib.hid hn
  clear h hl hn
  have hmk := run_make_row Tryd.underlying26 info3 (by omega) n (by omega) w
  have hst : Made 3 w (some ⟨w.heap.size, 0, none⟩) n n (ints (cdG l 1 0)) (w.alloc (.cells (List.replicate n (Value.int .i64 0)).toArray 3)) := by
    rw [cdG_start, HN.out, ← ints_zeros]
    exact zeros_made (e := 3) (w := w) (kd := .i64) n (by omega)
  obtain ⟨R, hR⟩ : ∃ R, w.heap.size = R := ⟨_, rfl⟩
  rw [hR] at hst hmk
  have HST := Lib.hid hst
  clear hst hR
  go_enter Tryd.func22, Tryd.ntmps22
  go_wp2_with fail
  go_loopg [4, 5] 15 (fun gk x i wx => ∃ k K : Nat, i = .int .i64 K ∧ x = .int .i64 (fi l k + cn l k : Nat) ∧ K + gk ≤ 16 ∧ 16 ≤ K + gk ∧ K = k + 1 ∧ Made 3 w (some ⟨R, 0, none⟩) n n (ints (cdG l K 0)) wx)
  case atStart => exact ⟨0, 1, rfl, rfl, by omega, by omega, rfl, HST.out⟩
  case round =>
    clear HST hmk
    obtain ⟨k, K, rfl, rfl, hk, hk2, hK, hM⟩ := hrel
    have hb1 := fi_small l (by rw [HN.out]; exact h288) k (by omega)
    have hb2 := cn_le l k
    rw [HN.out] at hb2
    have hfi : fi l K = 2 * (fi l k + cn l k) := by rw [hK]; rfl
    have hb3 := fi_small l (by rw [HN.out]; exact h288) K (by omega)
    have hK1 : 1 ≤ K := by omega
    by_cases hlt : K ≤ 15
    · obtain ⟨y, hy⟩ : ∃ y, fi l k + cn l k = y := ⟨_, rfl⟩
      have hb4 : y ≤ 37749024 := by omega
      rw [hy] at hfi ⊢
      have HF := Lib.hid hfi
      have HMM := Lib.hid hM
      have HK := Lib.hid hK
      have dK : decide ((K : Int) ≤ 15) = true := by simp; omega
      have dK2 : (K : Int) ≤ 15 := by omega
      clear hy hfi hM hb1 hb2 hK
      go_wp2_with fail
      go_loopg [4, 6] n (fun gj x i wx => ∃ j : Nat, i = .int .i64 j ∧ x = .int .i64 (fi l K + cn (l.take j) K : Nat) ∧ j + gj ≤ n ∧ n ≤ j + gj ∧ Made 3 w (some ⟨R, 0, none⟩) n n (ints (cdG l K j)) wx)
      case atStart => exact ⟨0, rfl, by rw [HF.out]; simp [cn]; try go_num, by omega, by omega, HMM.out⟩
      case round =>
        clear HMM
        obtain ⟨j, rfl, rfl, hj, hj2, hM⟩ := hrel
        by_cases hjl : j < n
        · have hjl' : j < l.length := by rw [HN.out]; exact hjl
          obtain ⟨b, off, rfl, hbB, hc⟩ := (HS.out.new hM.2.1) j _ (ints_at l j hjl')
          have hct := cn_take l j K hjl'
          have hx15 := ln_le l j HL.out
          have hb5 := cn_le (l.take j) K
          have hb6 : (l.take j).length ≤ 288 := by rw [List.length_take]; omega
          have hput := cdG_put l K j
          have hsame := cdG_same l K j
          have hcd : ln l j = K → cd l j = fi l K + cn (l.take j) K := by
            intro e
            rw [cd_has l j ⟨hjl', by omega⟩, e]
            unfold rk cn
            rw [e, if_neg (by omega)]
          obtain ⟨g, e4, c6, c7⟩ := hM.1.cell (ints_at (cdG l K j) j (by rw [cdG_length]; exact hjl'))
          simp only [Option.some.injEq, Addr.mk.injEq, and_true] at e4
          subst e4
          obtain ⟨x, hx⟩ : ∃ x, ln l j = x := ⟨_, rfl⟩
          obtain ⟨z, hz⟩ : ∃ z, fi l K + cn (l.take j) K = z := ⟨_, rfl⟩
          have hz2 : z ≤ 37749024 := by omega
          rw [hx] at hc hct hx15 hput hsame hcd
          rw [hz] at hcd ⊢
          have HZ := Lib.hid hz
          have HCT := Lib.hid hct
          have HMM := Lib.hid hM
          clear hx hz hct hM hb5 hb6 hjl' hb3
          by_cases he : x = K
          · subst he
            have HP := Lib.hid (hput rfl (by omega))
            rw [hcd rfl] at HP
            clear hput hsame hcd
            go_wp2_with fail
            go_roundg (gk - 1)
            case measure => omega
            case rel =>
              refine ⟨j + 1, by go_num, ?_, by omega, by omega, ?_⟩
              · rw [HCT.out, if_pos ⟨trivial, by omega⟩, ← Nat.add_assoc, HZ.out]
                go_num
              · rw [← HP.out, ← ints_set]
                exact HMM.out.setAt j _
          · have he2 : ¬ (x : Int) = (K : Int) := by omega
            have HP := Lib.hid (hsame he)
            clear hput hsame hcd
            go_wp2_with fail
            go_roundg (gk - 1)
            case measure => omega
            case rel =>
              refine ⟨j + 1, by go_num, ?_, by omega, by omega, ?_⟩
              · rw [HCT.out, if_neg (fun e => he e.1)]
                rw [Nat.add_zero, HZ.out]
              · rw [HP.out]
                exact HMM.out
        · have hjn : j = l.length := by rw [HN.out]; omega
          have ht : cn (l.take j) K = cn l K := by rw [hjn, List.take_length]
          rw [hjn, cdG_next] at hM
          have HMM := Lib.hid hM
          have HT := Lib.hid ht
          clear hM ht hjn
          go_wp2_with fail
          go_roundg (15 - K)
          case measure => omega
          case rel =>
            refine ⟨K, K + 1, by go_num, ?_, by omega, by omega, rfl, HMM.out⟩
            rw [HT.out]
    · obtain rfl : K = 16 := by omega
      obtain rfl : k = 15 := by omega
      rw [cdG_end l HL.out] at hM
      have HMM := Lib.hid hM
      obtain ⟨y, hy⟩ : ∃ y, fi l 15 + cn l 15 = y := ⟨_, rfl⟩
      rw [hy]
      clear hM hfi hy hK
      go_wp2
      go_ret
      exact ⟨R, rfl, HMM.out⟩
end Go.Proofs.YtackcgiokkbhdaaDoor
