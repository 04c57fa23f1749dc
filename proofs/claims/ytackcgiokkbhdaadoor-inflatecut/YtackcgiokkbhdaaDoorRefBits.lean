/- Layer 5: the document's bits of a code. -/
import Derived.Test.YtackcgiokkbhdaaDoorM7
namespace Go.Proofs.YtackcgiokkbhdaaDoor
open Go.RowKit

/-- The bits from place j on, the highest first; ahead of them zeros. -/
def hbTo (x v j : Nat) : List UInt8 := (List.range x).map fun p => if j ≤ p then UInt8.ofNat (v / 2 ^ (x - 1 - p) % 2) else 0
theorem hbTo_length (x v j : Nat) : (hbTo x v j).length = x := by simp [hbTo]
theorem hbTo_start (x v : Nat) : hbTo x v x = List.replicate x 0 := by
  unfold hbTo
  apply List.ext_getElem
  · simp
  · intro i h1 h2
    simp at h1
    simp
    intro h
    omega
theorem hbTo_put (x v j : Nat) : (hbTo x v (j + 1)).set j (UInt8.ofNat (v / 2 ^ (x - 1 - j) % 2)) = hbTo x v j := by
  unfold hbTo
  apply List.ext_getElem
  · simp
  · intro i h1 h2
    rw [List.getElem_set]
    split
    · rename_i e; subst e; simp
    · rename_i e
      simp only [List.getElem_map, List.getElem_range]
      have : (j + 1 ≤ i) ↔ (j ≤ i) := by omega
      simp only [this]
theorem hbTo_end (x v : Nat) : hbTo x v 0 = hb x v := by
  apply List.ext_getElem
  · rw [hbTo_length, hb_length]
  · intro i h1 h2
    rw [hbTo_length] at h1
    have h3 := hb_at x v i h1
    unfold bt at h3
    rw [List.getD_eq_getElem?_getD, List.getElem?_eq_getElem h2] at h3
    simp only [Option.getD_some] at h3
    apply UInt8.toNat_inj.1
    rw [h3]
    simp only [hbTo, List.getElem_map, List.getElem_range, Nat.zero_le, if_true]
    rw [UInt8.toNat_ofNat']
    omega
theorem bcells_set (l : List UInt8) (i : Nat) (y : UInt8) : (bcells l).set i (.int .u8 y.toNat) = bcells (l.set i y) := by simp [bcells, List.map_set]
theorem bcells_one (l : List UInt8) : ∀ v ∈ bcells l, v.oneCell' = true := by simp [bcells, Value.oneCell']

def BitsMade (w : World) (x v : Nat) (e : Ending) (w' : World) : Prop := ∃ g, e = .returned (.slice (some ⟨g, 0, none⟩) x x) ∧ Made 5 w (some ⟨g, 0, none⟩) x x (bcells (hb x v)) w'

set_option maxHeartbeats 1000000 in
theorem rbits (A A2 : Option Addr) (n c c2 B s : Nat) (l : List Nat) (w : World) (h : See w B A (ints l)) (h2 : See w B A2 (ints (cds l))) (hn : l.length = n) (h288 : n ≤ 288) (hl : Low l) (hs : Has l s) :
    Calls Tryd.prog 24 #[.slice A n c, .slice A2 n c2, .int .i64 s] w (BitsMade w (ln l s) (cd l s)) := by
  have hsl := hs.1
  have hs0 := hs.2
  have hx := ln_le l s hl
  have hv := cd_small l (by omega) hl s
  obtain ⟨b, off, rfl, _, q1⟩ := h s _ (ints_at l s hsl)
  obtain ⟨b2, off2, rfl, _, q2⟩ := h2 s _ (ints_at (cds l) s (by rw [cds_length]; exact hsl))
  have HS := Lib.hid h
  have HS2 := Lib.hid h2
  rw [show ln (cds l) s = cd l s from map_at _ _ s hsl] at q2
  obtain ⟨x, hx1⟩ : ∃ x, ln l s = x := ⟨_, rfl⟩
  obtain ⟨v, hv1⟩ : ∃ v, cd l s = v := ⟨_, rfl⟩
  rw [hx1] at q1 hs0 hx ⊢
  rw [hv1] at q2 hv ⊢
  rw [hn] at hsl
  have hmk := run_make_row Tryd.underlying40 info5 (by omega) x (by omega) w
  have hst : Made 5 w (some ⟨w.heap.size, 0, none⟩) x x (bcells (hbTo x v x)) (w.alloc (.cells (List.replicate x (Value.int .u8 0)).toArray 5)) := by
    rw [hbTo_start]
    have e : bcells (List.replicate x 0) = List.replicate x (Value.int .u8 0) := by simp [bcells]
    rw [e]
    exact zeros_made (e := 5) (w := w) (kd := .u8) x (by omega)
  have q1' : (w.alloc (.cells (List.replicate x (Value.int .u8 0)).toArray 5)).cell? ⟨b, off + s, none⟩ = some (.int .i64 (x : Int)) := (World.cell?_of_block (hst.2.1.block b (cell_lt q1) id)).trans q1
  have q2' : (w.alloc (.cells (List.replicate x (Value.int .u8 0)).toArray 5)).cell? ⟨b2, off2 + s, none⟩ = some (.int .i64 (v : Int)) := (World.cell?_of_block (hst.2.1.block b2 (cell_lt q2) id)).trans q2
  obtain ⟨R, hR⟩ : ∃ R, w.heap.size = R := ⟨_, rfl⟩
  rw [hR] at hst hmk
  obtain ⟨wz, hwz⟩ : ∃ wz, w.alloc (.cells (List.replicate x (Value.int .u8 0)).toArray 5) = wz := ⟨_, rfl⟩
  rw [hwz] at hst hmk q1' q2'
  clear hwz
  have HST := Lib.hid hst
  clear hst hR hx1 hv1 h h2 hs hl hn
  go_enter Tryd.func24, Tryd.ntmps24
  go_wp2_with fail
  go_loopg [8, 9] x (fun gk u i wx => ∃ j : Nat, i = .int .i64 ((j : Int) - 1) ∧ u = .int .i64 (v / 2 ^ (x - j) : Nat) ∧ j ≤ gk ∧ gk ≤ j ∧ j ≤ x ∧ Made 5 w (some ⟨R, 0, none⟩) x x (bcells (hbTo x v j)) wx)
  case atStart => exact ⟨x, by go_num, by simp, by omega, by omega, by omega, HST.out⟩
  case round =>
    clear HST hmk q1 q2 q1' q2'
    obtain ⟨j, rfl, rfl, hj, hj2, hjx, hM⟩ := hrel
    by_cases hlt : 0 < j
    · obtain ⟨p, rfl⟩ : ∃ p, j = p + 1 := ⟨j - 1, by omega⟩
      obtain ⟨g, e4, c6, c7⟩ := hM.1.cell (bcells_at (hbTo x v (p + 1)) p (by rw [hbTo_length]; omega))
      simp only [Option.some.injEq, Addr.mk.injEq, and_true] at e4
      subst e4
      have hput := hbTo_put x v p
      have hdiv : v / 2 ^ (x - p) = v / 2 ^ (x - (p + 1)) / 2 := by
        rw [Nat.div_div_eq_div_mul, ← Nat.pow_succ, show (x - (p + 1)).succ = x - p by omega]
      have hdl : v / 2 ^ (x - (p + 1)) ≤ v := Nat.div_le_self _ _
      rw [show x - 1 - p = x - (p + 1) by omega] at hput
      obtain ⟨u, hu⟩ : ∃ u, v / 2 ^ (x - (p + 1)) = u := ⟨_, rfl⟩
      rw [hu] at hput hdiv hdl ⊢
      obtain ⟨cb, hby, hcb⟩ : ∃ cb : UInt8, (u : Int) % 2 = (cb.toNat : Int) ∧ cb = UInt8.ofNat (u % 2) := ⟨UInt8.ofNat (u % 2), by rw [UInt8.toNat_ofNat']; omega, rfl⟩
      rw [← hcb] at hput
      have HP := Lib.hid hput
      have HD := Lib.hid hdiv
      have HM := Lib.hid hM
      have hcl : cb.toNat < 256 := cb.toNat_lt
      clear hput hdiv hu hcb hM
      go_wp2_with fail
      go_roundg (gk - 1)
      case measure => omega
      case rel =>
        refine ⟨p, by go_num, by rw [HD.out]; go_num, by omega, by omega, by omega, ?_⟩
        rw [← HP.out, ← bcells_set]
        exact HM.out.setAt p _
    · obtain rfl : j = 0 := by omega
      rw [hbTo_end] at hM
      have HM := Lib.hid hM
      clear hM
      obtain ⟨u, hu⟩ : ∃ u, v / 2 ^ (x - 0) = u := ⟨_, rfl⟩
      rw [hu]
      clear hu
      go_wp2
      go_ret
      exact ⟨R, rfl, HM.out⟩
end Go.Proofs.YtackcgiokkbhdaaDoor
