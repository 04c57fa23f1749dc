/- Layer 5: the program's turned codes. -/
import Derived.Test.YtackcgiokkbhdaaDoorRev
namespace Go.Proofs.YtackcgiokkbhdaaDoor
open Go.RowKit

/-- Numbers of 16 bits as cells. -/
def hints (l : List Nat) : List Value := l.map fun x => .int .u16 (x : Nat)
theorem hints_length (l : List Nat) : (hints l).length = l.length := List.length_map ..
theorem hints_at (l : List Nat) (i : Nat) (h : i < l.length) : (hints l)[i]? = some (.int .u16 (ln l i : Nat)) := by simp [hints, ln, h]
theorem hints_set (l : List Nat) (i y : Nat) : (hints l).set i (.int .u16 (y : Nat)) = hints (l.set i y) := by simp [hints, List.map_set]
/-- A code's bits, the first in the lowest place. -/
def td (l : List Nat) (s : Nat) : Nat := rv (ln l s) (cd l s)
def tds (l : List Nat) : List Nat := (List.range l.length).map (td l)
theorem tds_length (l : List Nat) : (tds l).length = l.length := by simp [tds]
def tdTo (l : List Nat) (k : Nat) : List Nat := (List.range l.length).map fun s => if s < k then td l s else 0
theorem tdTo_length (l : List Nat) (k : Nat) : (tdTo l k).length = l.length := by simp [tdTo]
theorem tdTo_zero (l : List Nat) : tdTo l 0 = List.replicate l.length 0 := by
  unfold tdTo
  apply List.ext_getElem <;> simp
theorem tdTo_all (l : List Nat) : tdTo l l.length = tds l := by
  refine map_same _ _ _ fun t ht => ?_
  simp [ht]
theorem tdTo_put (l : List Nat) (k : Nat) : (tdTo l k).set k (td l k) = tdTo l (k + 1) := by
  refine map_set _ _ _ _ _ (by simp) fun t _ hne => ?_
  have : (t < k + 1) ↔ (t < k) := by omega
  simp only [this]
theorem cd_lt' (l : List Nat) (s : Nat) (hs : s < l.length) (hl : Low l) (hf : fu l 16 ≤ 32768) : cd l s < 2 ^ ln l s := by
  rcases Nat.eq_zero_or_pos (ln l s) with e | e
  · simp [cd, e]
  · exact cd_lt l s ⟨hs, e⟩ hl hf
theorem td_lt (l : List Nat) (s : Nat) (hl : Low l) : td l s < 65536 :=
  Nat.lt_of_lt_of_le (rv_lt _ _) (Nat.pow_le_pow_right (n := 2) (j := 16) (by decide) (by have := ln_le l s hl; omega))
theorem hints_zeros (n : Nat) : List.replicate n (Value.int .u16 0) = hints (List.replicate n 0) := by simp [hints]

def TurnPost (w : World) (l : List Nat) (n : Nat) (e : Ending) (w' : World) : Prop := ∃ g, e = .returned (.slice (some ⟨g, 0, none⟩) n n) ∧ Made 43 w (some ⟨g, 0, none⟩) n n (hints (tds l)) w'

set_option maxHeartbeats 1000000 in
theorem turn (A A2 : Option Addr) (n c c2 B : Nat) (l : List Nat) (w : World) (h : See w B A (ints (cds l))) (h2 : See w B A2 (ints l)) (hn : l.length = n) (h288 : n ≤ 288) (hl : Low l) (hf : fu l 16 ≤ 32768) (hB : B ≤ w.heap.size) :
    Calls Tryd.prog 89 #[.slice A n c, .slice A2 n c2] w (TurnPost w l n) := by
  have HS := Lib.hid h
  have HS2 := Lib.hid h2
  have HL := Lib.hid hl
  have HN := Lib.hid hn
  have HF := Lib.hid hf
  clear h h2 hl hn hf
  have hmk := run_make_row Tryd.underlying123 info43 (by omega) n (by omega) w
  have hst : Made 43 w (some ⟨w.heap.size, 0, none⟩) n n (hints (tdTo l 0)) (w.alloc (.cells (List.replicate n (Value.int .u16 0)).toArray 43)) := by
    rw [tdTo_zero, HN.out, ← hints_zeros]
    exact zeros_made (e := 43) (w := w) (kd := .u16) n (by omega)
  obtain ⟨R, hR⟩ : ∃ R, w.heap.size = R := ⟨_, rfl⟩
  rw [hR] at hst hmk hB
  have HST := Lib.hid hst
  clear hst hR
  go_enter Tryd.func89, Tryd.ntmps89
  go_wp2_with fail
  go_loopg [13] n (fun gk i wx => ∃ k : Nat, i = .int .i64 k ∧ k + gk ≤ n ∧ n ≤ k + gk ∧ Made 43 w (some ⟨R, 0, none⟩) n n (hints (tdTo l k)) wx)
  case atStart => exact ⟨0, rfl, by omega, by omega, HST.out⟩
  case round =>
    clear HST hmk
    obtain ⟨k, rfl, hk, hk2, hM⟩ := hrel
    by_cases hlt : k < n
    · have hkl : k < l.length := by rw [HN.out]; exact hlt
      obtain ⟨b, off, rfl, hb, c1⟩ := (HS.out.new hM.2.1) k _ (ints_at (cds l) k (by rw [cds_length]; exact hkl))
      obtain ⟨b2, off2, rfl, hb2, c2'⟩ := (HS2.out.new hM.2.1) k _ (ints_at l k hkl)
      rw [show ln (cds l) k = cd l k from map_at _ _ k hkl] at c1
      obtain ⟨g, e4, c6, c7⟩ := hM.1.cell (hints_at (tdTo l k) k (by rw [tdTo_length]; exact hkl))
      simp only [Option.some.injEq, Addr.mk.injEq, and_true] at e4
      subst e4
      have hput := tdTo_put l k
      have hx := ln_le l k HL.out
      have hc := cd_lt' l k hkl HL.out HF.out
      have hp : 2 ^ ln l k ≤ 2 ^ 15 := Nat.pow_le_pow_right (by decide) hx
      have hsh := rv_shift (ln l k) (cd l k) (by omega) hc
      have hrv := rv_lt 16 (cd l k)
      have ht : td l k = rv (ln l k) (cd l k) := rfl
      rw [← ht] at hsh
      have htl := td_lt l k HL.out
      have HR := Lib.hid fun w => rev16 (cd l k) (by omega) w
      obtain ⟨x, hx1⟩ : ∃ x, ln l k = x := ⟨_, rfl⟩
      obtain ⟨u, hu⟩ : ∃ u, cd l k = u := ⟨_, rfl⟩
      obtain ⟨t, ht1⟩ : ∃ t, td l k = t := ⟨_, rfl⟩
      obtain ⟨o, ho⟩ : ∃ o, ln (tdTo l k) k = o := ⟨_, rfl⟩
      rw [hu] at c1 hc hsh hrv HR
      rw [hx1] at c2' hx hsh hp hc
      rw [ht1] at hsh hput htl
      rw [ho] at c6
      obtain ⟨r, hr⟩ : ∃ r, rv 16 u = r := ⟨_, rfl⟩
      rw [hr] at hsh hrv HR
      have hu2 : u < 32768 := by omega
      obtain ⟨q, hq⟩ : ∃ q, 16 - x = q := ⟨_, rfl⟩
      rw [hq] at hsh
      have e5 : (16 : Int) - (x : Int) = (q : Int) := by omega
      have e6 : (r : Int) / 2 ^ q = (t : Int) := by rw [← hsh]; simp
      have hq2 : q ≤ 16 := by omega
      have HSH := Lib.hid hsh
      have HP := Lib.hid hput
      have HMM := Lib.hid hM
      have hne : b2 ≠ R := by omega
      have HNE := Lib.hid hne
      have HC2 := Lib.hid c2'
      clear hM hput hc hp hsh ht hx1 hu ht1 ho hr hq hkl hne
      go_wp2_with fail
      refine Steps.region (fun W => W.cell? ⟨b2, off2 + k, none⟩ = some (.int .i64 (x : Int))) [(true, 0), (true, 1), (true, 2), (true, 3), (true, 5), (true, 6), (true, 7), (true, 8), (true, 9), (false, 4), (true, 10), (true, 11), (false, 12)] (by kernel_rfl) (by kernel_rfl) rfl (by kernel_rfl) (fun _ _ d _ _ h => by cases d <;> exact h) ?_
      refine Steps.take (.slice (some ⟨R, 0, none⟩) n n) rfl HC2.out (fun _ _ => by kernel_rfl) ?_
      simp only [Act.put, List.setIfInBounds_toArray, List.set_cons_succ, List.set_cons_zero]
      refine Steps.take (.int .i64 k) rfl HC2.out (fun _ _ => by kernel_rfl) ?_
      simp only [Act.put, List.setIfInBounds_toArray, List.set_cons_succ, List.set_cons_zero]
      refine Steps.take (.int .i64 u) rfl HC2.out (fun _ _ => by kernel_rfl) ?_
      simp only [Act.put, List.setIfInBounds_toArray, List.set_cons_succ, List.set_cons_zero]
      refine Steps.take (.int .u16 u) rfl HC2.out (fun _ _ => by go_simp; exact IntWalk.u16_in _ (by omega)) ?_
      simp only [Act.put, List.setIfInBounds_toArray, List.set_cons_succ, List.set_cons_zero]
      refine Steps.take (.slice (some ⟨b2, off2, none⟩) n c2) rfl HC2.out (fun _ _ => by kernel_rfl) ?_
      simp only [Act.put, List.setIfInBounds_toArray, List.set_cons_succ, List.set_cons_zero]
      refine Steps.take (.int .i64 k) rfl HC2.out (fun _ _ => by kernel_rfl) ?_
      simp only [Act.put, List.setIfInBounds_toArray, List.set_cons_succ, List.set_cons_zero]
      refine Steps.take (.pointer (some ⟨b2, off2 + k, none⟩)) rfl HC2.out (fun _ _ => by go_simp) ?_
      simp only [Act.put, List.setIfInBounds_toArray, List.set_cons_succ, List.set_cons_zero]
      refine Steps.take (.int .i64 x) rfl HC2.out (fun _ hW => by go_simp) ?_
      simp only [Act.put, List.setIfInBounds_toArray, List.set_cons_succ, List.set_cons_zero]
      refine Steps.take (.int .i64 q) rfl HC2.out (fun _ _ => by go_simp; exact IntWalk.i64_in _ (by omega)) ?_
      simp only [Act.put, List.setIfInBounds_toArray, List.set_cons_succ, List.set_cons_zero]
      refine Steps.call 103 #[.int .u16 u] rfl (by kernel_rfl) ((HR.out wr.drew).mono ?_)
      rintro e w2 ⟨rfl, m, rfl⟩
      refine ⟨_, rfl, HC2.out, ?_⟩
      simp only [Act.put, List.setIfInBounds_toArray, List.set_cons_succ, List.set_cons_zero]
      refine Steps.take (.int .u16 t) rfl HC2.out (fun _ _ => by go_simp) ?_
      simp only [Act.put, List.setIfInBounds_toArray, List.set_cons_succ, List.set_cons_zero]
      refine Steps.take (.pointer (some ⟨R, k, none⟩)) rfl HC2.out (fun _ _ => by go_simp) ?_
      simp only [Act.put, List.setIfInBounds_toArray, List.set_cons_succ, List.set_cons_zero]
      refine Steps.skip (w' := (wr.drew.drewN m).setCell ⟨R, k, none⟩ (.int .u16 t)) rfl (by go_simp) ((World.cell?_of_block (Below.heap_setCell _ ⟨R, k, none⟩ _ b2 HNE.out)).trans HC2.out) ?_
      simp only [Act.put]
      show wpList _ _ _ _ _ _
      go_wp2_with fail
      go_roundg (gk - 1)
      case measure => omega
      case rel =>
        refine ⟨k + 1, by go_num, by omega, by omega, ?_⟩
        rw [← HP.out, ← hints_set]
        exact (HMM.out.drewN _).setAt k _
    · have hkn : k = l.length := by rw [HN.out]; omega
      rw [hkn, tdTo_all] at hM
      have HMM := Lib.hid hM
      clear hM hkn
      go_wp2
      go_ret
      exact ⟨R, rfl, HMM.out⟩
end Go.Proofs.YtackcgiokkbhdaaDoor
