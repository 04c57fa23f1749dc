/- Rows that come in: what their reading says of memory, whatever their elements are (over any program). -/
import Derived.Test.YtmdfkchgklphlaaGRs
import Derived.ChangeArms
import Derived.Deep.Slices
import Derived.OpenShut
namespace Go.Proofs.Ytmdfkchgklphlaa
open Go.RowKit Go.ChangeShapes Go.WideShapes Go.Deep

section
variable {H : Type} {enc : TypeId × Value → H} {P : Program} {w : World} {spare : Nat → Bool} {held : Bool}
theorem all_of {α : Type} (n : Nat) (p : Nat → α → Prop) (h : ∀ i, i < n → ∃ d, p i d) : ∃ ds : List α, ds.length = n ∧ ∀ (i : Nat) (d : α), ds[i]? = some d → p i d := by
  induction n with
  | zero => exact ⟨[], rfl, fun i d e => by cases e⟩
  | succ n ih =>
    obtain ⟨ds, hl, hp⟩ := ih fun i hi => h i (Nat.lt_succ_of_lt hi)
    obtain ⟨d, hd⟩ := h n (Nat.lt_succ_self n)
    refine ⟨ds ++ [d], by rw [List.length_append, hl]; rfl, fun i x hx => ?_⟩
    by_cases hi : i < n
    · rw [List.getElem?_append_left (by omega)] at hx
      exact hp i x hx
    · rw [List.getElem?_append_right (by omega), List.getElem?_singleton] at hx
      by_cases h0 : i - ds.length = 0
      · rw [if_pos h0] at hx
        obtain rfl := Option.some.inj hx
        rw [show i = n by omega]
        exact hd
      · rw [if_neg h0] at hx
        cases hx
theorem flat_get {α : Type} (cells : α → List Value) (sz : Nat) (hs : ∀ a, (cells a).length = sz) : ∀ (us : List α) (k : Nat) (v : Value), (us.flatMap cells)[k]? = some v → ∃ (i j : Nat) (a : α), k = i * sz + j ∧ us[i]? = some a ∧ (cells a)[j]? = some v
  | [], k, v, h => by cases h
  | x :: r, k, v, h => by
    rw [List.flatMap_cons] at h
    by_cases hk : k < sz
    · rw [List.getElem?_append_left (by rw [hs]; exact hk)] at h
      exact ⟨0, k, x, by omega, rfl, h⟩
    · rw [List.getElem?_append_right (by rw [hs]; omega), hs] at h
      obtain ⟨i, j, a, h1, h2, h3⟩ := flat_get cells sz hs r (k - sz) v h
      exact ⟨i + 1, j, a, by rw [Nat.add_mul, Nat.one_mul]; omega, h2, h3⟩
/-- A row whose elements are known one by one. -/
theorem open_any {t e : TypeId} (ht : P.underlying t = some (.slice e)) {α : Type} (cells : α → List Value) (R : α → Prop) {sz : Nat} (hz : 0 < sz) (hce : P.cellsOf e = sz) (hs : ∀ a, (cells a).length = sz)
    (one : ∀ fuel cs x, DataW.trod enc P w 0 spare held fuel e cs = some x → ∃ a, cs = cells a ∧ R a) {A : Option Addr} {n c : Nat} {d : DataW H} {p : List MemPlace} (h : DataW.Trod enc P w 0 spare held t (.slice A n c) d p) :
    n ≤ maxLen ∧ ∃ us : List α, us.length = n ∧ See w w.heap.size A (us.flatMap cells) ∧ ∀ a ∈ us, R a := by
  obtain ⟨fuel, hf⟩ := h
  rcases open_slice ht hf with ⟨hcs, _⟩ | ⟨ad, l, c', m, n', D, Pl, hcs, _, hl, hc, hm, _, hi⟩
  · simp [Value.cells] at hcs
    obtain ⟨rfl, rfl, rfl⟩ := hcs
    exact ⟨Nat.zero_le _, [], rfl, (fun i v hv => by cases hv), fun a ha => by cases ha⟩
  · simp [Value.cells] at hcs
    obtain ⟨rfl, rfl, rfl⟩ := hcs
    obtain ⟨b, off, spot⟩ := ad
    have hmn : n ≤ m := by rw [hm]; split <;> omega
    have el : ∀ i, i < n → ∃ a, R a ∧ ∀ j v, (cells a)[j]? = some v → w.cell? (((⟨b, off, spot⟩ : Addr).add (i * sz)).add j) = some v := fun i hin => by
      obtain ⟨cs, h1, h2⟩ := hi i (by omega)
      rw [hce] at h1
      obtain ⟨_, h4, h5⟩ := World.cells?_some h1
      obtain ⟨a, rfl, ha⟩ := one _ _ _ h2
      refine ⟨a, ha, fun j v hj => ?_⟩
      have hjs : j < sz := by
        rw [← hs a]
        exact (List.getElem?_eq_some_iff.1 hj).1
      rw [h5 j hjs, hj]
    obtain ⟨us, ha, hp⟩ := all_of n _ el
    have hspot : 0 < n → spot = none := fun h0 => by
      obtain ⟨a, _, ha⟩ := el 0 h0
      obtain ⟨v, hv⟩ : ∃ v, (cells a)[0]? = some v := ⟨_, List.getElem?_eq_getElem (by rw [hs]; exact hz)⟩
      have hq := World.cell?_spot (ha 0 v hv)
      simpa [Addr.add] using hq
    refine ⟨by omega, us, ha, fun k v hk => ?_, fun a hm => ?_⟩
    · obtain ⟨i, j, a, rfl, h2, h3⟩ := flat_get cells sz hs us k v hk
      have hin : i < n := by
        rw [← ha]
        exact (List.getElem?_eq_some_iff.1 h2).1
      obtain rfl := hspot (by omega)
      have hc := (hp i a h2).2 j v h3
      rw [Addr.add_lit, Addr.add_lit, Nat.add_assoc] at hc
      exact ⟨b, off, rfl, cell_lt hc, hc⟩
    · obtain ⟨i, hi⟩ := List.getElem?_of_mem hm
      exact (hp i a hi).1
/-- One whose elements are a cell each. -/
theorem one_text {e : TypeId} (he : P.underlying e = some .string) {fuel : Nat} {cs : List Value} {x : DataW H × List MemPlace} (h : DataW.trod enc P w 0 spare held fuel e cs = some x) : ∃ l : List UInt8, cs = [.string ⟨l.toArray⟩] ∧ True := by
  obtain ⟨s, rfl, _, _⟩ := DataW.trod_string he h
  exact ⟨s.data.toList, rfl, trivial⟩
end
end Go.Proofs.Ytmdfkchgklphlaa
