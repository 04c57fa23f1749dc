/- Layer 10: the rows of numbers, and of symbols, that the laws take: what their reading says of memory. -/
import Derived.Test.YtlhffflemajlfaaView
import Derived.Deep.Slices
import Derived.Deep.Fields
import Derived.ChangeSame
import Derived.OpenShut
import Derived.ChangeSlices
namespace Go.Proofs.Ytlhffflemajlfaa
open Go.RowKit Go.ChangeShapes Go.WideShapes Go.Deep

/-- What a row of numbers that is handed in reads as. -/
theorem open_row {H : Type} {enc : TypeId × Value → H} {w : World} {spare : Nat → Bool} {held : Bool} {A : Option Addr} {n c : Nat} {d : DataW H} {p : List MemPlace} (h : DataW.Trod enc Try.prog w 0 spare held 22 (.slice A n c) d p) :
    n ≤ maxLen ∧ ∃ z : List Int, z.length = n ∧ See w w.heap.size A (zints z) := by
  obtain ⟨fuel, hf⟩ := h
  rcases Go.ChangeShapes.open_ints Try.underlying22 Try.underlying3 (by kernel_rfl) hf with ⟨hcs, _⟩ | ⟨a, len, cap, zs, hcs, _, hl, hm, hz, _, hc, _⟩
  · simp [Value.cells] at hcs
    obtain ⟨rfl, rfl, rfl⟩ := hcs
    exact ⟨Nat.zero_le _, [], rfl, fun i v hv => by simp [zints] at hv⟩
  · simp [Value.cells] at hcs
    obtain ⟨rfl, rfl, rfl⟩ := hcs
    have hzl : n ≤ zs.length := by rw [hz]; split <;> omega
    refine ⟨by omega, zs.take n, by simp [hzl], fun i v hv => ?_⟩
    have hi : i < n := by
      rcases Nat.lt_or_ge i n with h1 | h1
      · exact h1
      · rw [List.getElem?_eq_none (by rw [zints_length, List.length_take]; omega)] at hv
        cases hv
    rw [zints_at _ i (by rw [List.length_take]; omega)] at hv
    have h1 := hc i (by omega)
    obtain ⟨b, off, spot⟩ := a
    have h0 := hc 0 (by omega)
    simp only [Addr.add, if_true] at h0
    have hs : spot = none := World.cell?_spot h0
    subst hs
    rw [Addr.add_lit] at h1
    refine ⟨b, off, rfl, cell_lt h1, ?_⟩
    rw [h1, ← hv]
    simp [List.getD_eq_getElem?_getD, hi]

theorem cells36 : Try.prog.cellsOf 36 = 2 := by kernel_rfl
theorem cells3 : Try.prog.cellsOf 3 = 1 := by kernel_rfl

/-- One symbol out of two cells. -/
theorem one_sym {H : Type} {enc : TypeId × Value → H} {w : World} {base fuel : Nat} {spare : Nat → Bool} {held : Bool} {cs : List Value} {x : DataW H × List MemPlace} (h : DataW.trod enc Try.prog w base spare held fuel 36 cs = some x) : ∃ t : Ru, cs = ruc t := by
  obtain ⟨xs, n, _, _, hlen, hxl, hf⟩ := DataW.trod_struct Try.underlying36 h
  rw [cells36] at hlen
  match cs, hlen with
  | [e0, e1], _ =>
    have f0 := hf 0 _ rfl
    have f1 := hf 1 _ rfl
    match xs, hxl with
    | [y0, y1], _ =>
      simp [cells3] at f0
      simp [cells3] at f1
      obtain ⟨a0, h0, _, w0⟩ := DataW.trod_int Try.underlying3 f0
      obtain ⟨a1, h1, _, w1⟩ := DataW.trod_int Try.underlying3 f1
      simp at h0 h1
      subst h0 h1
      exact ⟨⟨a0, a1⟩, rfl⟩
theorem rus_get : ∀ (ts : List Ru) (k : Nat) (v : Value), (rus ts)[k]? = some v → ∃ (i j : Nat) (t : Ru), k = i * 2 + j ∧ ts[i]? = some t ∧ (ruc t)[j]? = some v
  | [], k, v, h => by simp [rus] at h
  | x :: r, k, v, h => by
    simp only [rus, List.flatMap_cons] at h
    rcases Nat.lt_or_ge k 2 with hk | hk
    · rw [List.getElem?_append_left (by simpa [ruc] using hk)] at h
      exact ⟨0, k, x, by omega, rfl, h⟩
    · rw [List.getElem?_append_right (by simpa [ruc] using hk)] at h
      obtain ⟨i, j, t, h1, h2, h3⟩ := rus_get r (k - 2) v (by simpa [ruc, rus] using h)
      exact ⟨i + 1, j, t, by omega, by simpa using h2, h3⟩
theorem list_of {α : Type} (n : Nat) (p : Nat → α → Prop) (h : ∀ i, i < n → ∃ d, p i d) : ∃ ds : List α, ds.length = n ∧ ∀ (i : Nat) (d : α), ds[i]? = some d → p i d := by
  induction n with
  | zero => exact ⟨[], rfl, fun i d hd => by simp at hd⟩
  | succ n ih =>
    obtain ⟨ds, hl, hp⟩ := ih fun i hi => h i (by omega)
    obtain ⟨d, hd⟩ := h n (by omega)
    refine ⟨ds ++ [d], by simp [hl], fun i d' hd' => ?_⟩
    rcases Nat.lt_or_ge i ds.length with hi | hi
    · rw [List.getElem?_append_left hi] at hd'
      exact hp i d' hd'
    · rw [List.getElem?_append_right hi] at hd'
      rcases Nat.eq_zero_or_pos (i - ds.length) with h0 | h0
      · rw [h0] at hd'
        simp at hd'
        subst hd'
        rw [show i = n by omega]
        exact hd
      · rw [List.getElem?_eq_none (by simp; omega)] at hd'
        cases hd'
theorem open_syms {H : Type} {enc : TypeId × Value → H} {w : World} {spare : Nat → Bool} {held : Bool} {A : Option Addr} {n c : Nat} {d : DataW H} {p : List MemPlace} (h : DataW.Trod enc Try.prog w 0 spare held 24 (.slice A n c) d p) :
    ∃ ts : List Ru, ts.length = n ∧ See w w.heap.size A (rus ts) := by
  obtain ⟨fuel, hf⟩ := h
  rcases open_slice Try.underlying24 hf with ⟨hcs, _⟩ | ⟨a, l, c', m, n', D, Pl, hcs, _, hl, hc, hm, _, hi⟩
  · simp [Value.cells] at hcs
    obtain ⟨rfl, rfl, rfl⟩ := hcs
    exact ⟨[], rfl, fun i d hd => by simp [rus] at hd⟩
  · simp [Value.cells] at hcs
    obtain ⟨rfl, rfl, rfl⟩ := hcs
    obtain ⟨b, off, spot⟩ := a
    have hspot : 0 < n → spot = none := by
      intro h0
      obtain ⟨cs', h1, h2⟩ := hi 0 (by rw [hm]; split <;> omega)
      rw [cells36] at h1
      obtain ⟨_, h4, h5⟩ := World.cells?_some h1
      obtain ⟨t, rfl⟩ := one_sym h2
      have e0 := h5 0 (by omega)
      simp only [ruc, List.getElem?_cons_zero, Addr.add, Nat.zero_mul, if_true] at e0
      exact World.cell?_spot e0
    obtain ⟨ts, ht, hp⟩ := list_of n (fun i t => ∀ j v, (ruc t)[j]? = some v → w.cell? ⟨b, off + (i * 2 + j), none⟩ = some v) fun i hin => by
      obtain rfl := hspot (by omega)
      have him : i < m := by rw [hm]; split <;> omega
      obtain ⟨cs', h1, h2⟩ := hi i him
      rw [cells36] at h1
      obtain ⟨_, h4, h5⟩ := World.cells?_some h1
      obtain ⟨t, rfl⟩ := one_sym h2
      refine ⟨t, fun j v hj => ?_⟩
      have hj2 : j < 2 := by
        rcases Nat.lt_or_ge j 2 with hh | hh
        · exact hh
        · rw [List.getElem?_eq_none (by simpa [ruc] using hh)] at hj; cases hj
      have e0 := h5 j hj2
      rw [Addr.add_lit, Addr.add_lit, hj] at e0
      rw [show off + (i * 2 + j) = off + i * 2 + j from by omega]
      exact e0
    refine ⟨ts, ht, fun k v hk => ?_⟩
    obtain ⟨i, j, t, rfl, h2, h3⟩ := rus_get ts k v hk
    have hin : i < n := by
      rcases Nat.lt_or_ge i n with hh | hh
      · exact hh
      · rw [List.getElem?_eq_none (by omega)] at h2; cases h2
    obtain rfl := hspot (by omega)
    have hc := hp i t h2 j v h3
    exact ⟨b, off, rfl, cell_lt hc, hc⟩
end Go.Proofs.Ytlhffflemajlfaa
