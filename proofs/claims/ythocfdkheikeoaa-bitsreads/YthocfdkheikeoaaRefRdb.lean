/- The document's reader of layer 1: Bytes. -/
import Derived.Test.YthocfdkheikeoaaRefRd
namespace Go.Proofs.Ythocfdkheikeoaa
open Go.RowKit

set_option maxHeartbeats 2000000 in
theorem rbytes_bad (b : Nat) (A : Option Addr) (z c a : Nat) (f : Bool) (l : List UInt8) (m : Int) (w : World) (h : RR w b A (8 * z) c a f l) (hn : z ≤ 107374182) (ha : a ≤ 8 * z) (hm : f = true ∨ m < 0 ∨ ((z - (a + 7) / 8 : Nat) : Int) < m) :
    Calls Try.prog 15 #[.pointer (some ⟨b, 0, none⟩), .int .i64 m] w (RRPost b A (8 * z) c a true l w (.string ByteArray.empty)) := by
  have c0 := h.1.cell 0 rfl
  have c1 := h.1.cell 1 rfl
  have c2 := h.1.cell 2 rfl
  have f2 := h.1.frozen 2
  have b1 : (a : Int) ≤ 8 * z := by omega
  have b2 : (z : Int) ≤ 107374182 := by omega
  have done : RRPost b A (8 * z) c a true l w (.string ByteArray.empty) (.returned (.string ByteArray.empty)) (w.setCell ⟨b, 2, none⟩ (.bool true)) :=
    ⟨rfl, h.set 0 2 _ _ _ rfl, Only.one w b 2 _⟩
  have Hd := Lib.hid done
  clear h done
  cases f
  · by_cases h1 : m < 0
    · have d1 : decide (m < 0) = true := by simpa using h1
      clear hm
      go_enter Try.func15, Try.ntmps15
      go_wp2
      go_ret
      exact Hd.out
    · have d1 : decide (m < 0) = false := by simpa using h1
      have h2 : (8 * (z : Int) - ((a : Int) + 7) / 8 * 8) / 8 < m := by
        have hm' : ((z - (a + 7) / 8 : Nat) : Int) < m := by
          rcases hm with h | h | h
          · cases h
          · omega
          · exact h
        omega
      clear hm
      go_enter Try.func15, Try.ntmps15
      go_wp2
      go_ret
      exact Hd.out
  · clear hm
    go_enter Try.func15, Try.ntmps15
    go_wp2
    go_ret
    exact Hd.out

set_option maxHeartbeats 2000000 in
theorem rbytes_ok (b : Nat) (A : Option Addr) (z c a : Nat) (l : List UInt8) (m : Nat) (w : World) (h : RR w b A (8 * z) c a false l) (hb : Bits l) (hn : z ≤ 107374182) (hm : (a + 7) / 8 + m ≤ z) :
    Calls Try.prog 15 #[.pointer (some ⟨b, 0, none⟩), .int .i64 m] w fun e w' => ∃ t : List UInt8, t.length = m ∧ le t = le2 ((l.drop (8 * ((a + 7) / 8))).take (8 * m)) ∧ RRPost b A (8 * z) c (8 * ((a + 7) / 8 + m)) false l w (.string ⟨t.toArray⟩) e w' := by
  have c0 := h.1.cell 0 rfl
  have c1 := h.1.cell 1 rfl
  have c2 := h.1.cell 2 rfl
  have f1 := h.1.frozen 1
  obtain ⟨q, hq⟩ : ∃ q, (a + 7) / 8 = q := ⟨_, rfl⟩
  rw [hq] at hm ⊢
  have hq1 : ((a : Int) + 7) / 8 = q := by omega
  have b1 : (a : Int) ≤ 8 * z := by omega
  have b2 : (z : Int) ≤ 107374182 := by omega
  have b3 : (q : Int) + m ≤ z := by omega
  have d1 : decide ((m : Int) < 0) = false := by simp
  have d2 : decide ((8 * (z : Int) - (q : Int) * 8) / 8 < m) = false := by simp; omega
  have hcap : 8 * z ≤ c := by
    rcases h.2.form with ⟨_, h1, _⟩ | ⟨_, _, _, _, h1, _⟩
    · omega
    · exact h1
  have hbits : Bits ((l.drop (8 * q)).take (8 * m)) := bits_take (bits_drop hb _) _
  have hln : ((l.drop (8 * q)).take (8 * m)).length = 8 * m := by
    rw [List.length_take, List.length_drop, h.2.len]
    omega
  have done : ∀ t w', t.length = (8 * m + 7) / 8 → le t = le2 ((l.drop (8 * q)).take (8 * m)) → Only (fun _ => False) (w.setCell ⟨b, 1, none⟩ (.int .i64 ((q : Int) * 8 + 8 * m))) w' →
      ∃ t' : List UInt8, t'.length = m ∧ le t' = le2 ((l.drop (8 * q)).take (8 * m)) ∧ RRPost b A (8 * z) c (8 * (q + m)) false l w (.string ⟨t'.toArray⟩) (.returned (.string ⟨t.toArray⟩)) w' := by
    intro t w' h1 h2 h3
    have hset : RR (w.setCell ⟨b, 1, none⟩ (.int .i64 ((q : Int) * 8 + 8 * m))) b A (8 * z) c (8 * (q + m)) false l := h.set 0 1 _ _ _ (by simp; omega)
    exact ⟨t, by omega, h2, rfl, ⟨hset.1.only h3 id, hset.2.only h3 (fun _ _ => id)⟩, (Only.one w b 1 _).andThen h3 (fun _ f => f.elim)⟩
  have hsee : ∀ i, i < 8 * m → ∃ g, A = some ⟨g, 0, none⟩ ∧ g < (w.setCell ⟨b, 1, none⟩ (.int .i64 ((q : Int) * 8 + 8 * m))).heap.size ∧ (w.setCell ⟨b, 1, none⟩ (.int .i64 ((q : Int) * 8 + 8 * m))).cell? ⟨g, q * 8 + i, none⟩ = some (.int .u8 (((l.drop (8 * q)).take (8 * m))[i]?.getD 0).toNat) := by
    intro i hi
    have hrow : Row 5 (w.setCell ⟨b, 1, none⟩ (.int .i64 ((q : Int) * 8 + 8 * m))) A (8 * z) c l := h.2.only (Only.one w b 1 _) (fun j hj e => h.2.ne h.1 (by decide) (e ▸ hj))
    obtain ⟨g, hA, hc, _⟩ := hrow.cell (i := q * 8 + i) (by omega)
    refine ⟨g, hA, hrow.lt g ⟨_, hA, rfl⟩, ?_⟩
    rw [hc, List.getElem?_take, if_pos hi, List.getElem?_drop, Nat.mul_comm 8 q]
  have HD := Lib.hid done
  have HE := Lib.hid hsee
  have HB := Lib.hid hbits
  have HL := Lib.hid hln
  have hform := h.2.form
  clear h hb hq done hsee hbits hln
  by_cases hcq : c = q * 8
  · obtain rfl : m = 0 := by omega
    subst hcq
    clear hform
    go_enter Try.func15, Try.ntmps15
    go_wp2_with fail
    refine (rtext A 0 0 [] _ ⟨rfl, fun i hi => by omega⟩ (fun x hx => by cases hx) (by omega)).mono ?_
    rintro e w' ⟨t, rfl, ht1, ht2, ho⟩
    have HF := Lib.hid (HD.out t w' ht1 (by rw [ht2]; simp) (by simpa using ho))
    clear ht1 ht2 ho
    go_wp2
    go_ret
    exact HF.out
  · obtain ⟨g, rfl⟩ : ∃ g, A = some ⟨g, 0, none⟩ := by
      rcases hform with ⟨_, h1, h2, _⟩ | ⟨g, _, e, _⟩
      · exact absurd h2 (by omega)
      · exact ⟨g, e⟩
    clear hform
    go_enter Try.func15, Try.ntmps15
    go_wp2_with fail
    refine (rtext _ (8 * m) _ _ _ ⟨HL.out, fun i hi => ?_⟩ HB.out (by omega)).mono ?_
    · obtain ⟨g', e1, e2, e3⟩ := HE.out i hi
      obtain rfl : g = g' := by simpa using e1
      exact ⟨g, q * 8, rfl, e2, e3⟩
    rintro e w' ⟨t, rfl, ht1, ht2, ho⟩
    have HF := Lib.hid (HD.out t w' ht1 ht2 ho)
    clear ht1 ht2 ho
    go_wp2
    go_ret
    exact HF.out
end Go.Proofs.Ythocfdkheikeoaa
