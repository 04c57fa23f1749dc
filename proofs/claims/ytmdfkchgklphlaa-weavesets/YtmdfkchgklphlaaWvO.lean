/- Layer 16: rows of texts that come in. -/
import Derived.Test.YtmdfkchgklphlaaWvA
import Derived.Test.YtmdfkchgklphlaaGOpen
namespace Go.Proofs.Ytmdfkchgklphlaa
open Go.RowKit Go.ChangeShapes Go.WideShapes Go.Deep

section
variable {H : Type} {enc : TypeId × Value → H} {w : World} {spare : Nat → Bool} {held : Bool}
theorem strs_flat (xs : List (List UInt8)) : xs.flatMap (fun l => [Value.string (tx l)]) = strs xs := by
  induction xs with
  | nil => rfl
  | cons x r ih => rw [List.flatMap_cons, ih]; rfl
theorem cellsStr : Try.prog.cellsOf 9 = 1 := by kernel_rfl
theorem cellsStrs : Try.prog.cellsOf 26 = 1 := by kernel_rfl
/-- A row of texts that comes in. -/
theorem open_texts {A : Option Addr} {n c : Nat} {d : DataW H} {p : List MemPlace} (h : DataW.Trod enc Try.prog w 0 spare held 26 (.slice A n c) d p) : n ≤ maxLen ∧ ∃ xs : List (List UInt8), xs.length = n ∧ See w w.heap.size A (strs xs) := by
  obtain ⟨h1, xs, h2, h3, _⟩ := open_any Try.underlying26 (fun l : List UInt8 => [Value.string (tx l)]) (fun _ => True) (by decide) cellsStr (fun _ => rfl) (fun fuel cs x hx => one_text Try.underlying9 hx) h
  rw [strs_flat] at h3
  exact ⟨h1, xs, h2, h3⟩
theorem one_trow {fuel : Nat} {cs : List Value} {x : DataW H × List MemPlace} (h : DataW.trod enc Try.prog w 0 spare held fuel 26 cs = some x) : ∃ r : TRow, cs = [rowV r] ∧ See w w.heap.size r.A (strs r.xs) ∧ r.xs.length = r.n := by
  rcases DataW.trod_slice Try.underlying26 h with ⟨rfl, _⟩ | ⟨a, len, cap, _, _, _, _, rfl, _⟩
  · exact ⟨⟨none, 0, 0, []⟩, rfl, (fun i v hv => by cases hv), rfl⟩
  · obtain ⟨_, xs, h2, h3⟩ := open_texts (A := some a) (n := len) (c := cap) ⟨fuel, h⟩
    exact ⟨⟨some a, len, cap, xs⟩, rfl, h3, h2⟩
theorem rows_flat (rs : List TRow) : rs.flatMap (fun r => [rowV r]) = rs.map rowV := by
  induction rs with
  | nil => rfl
  | cons x r ih => rw [List.flatMap_cons, ih]; rfl
/-- Rows of texts that come in. -/
theorem open_rows2 {A : Option Addr} {n c : Nat} {d : DataW H} {p : List MemPlace} (h : DataW.Trod enc Try.prog w 0 spare held 22 (.slice A n c) d p) : n ≤ maxLen ∧ ∃ rs : List TRow, rs.length = n ∧ Rows2 w w.heap.size A rs := by
  obtain ⟨h1, rs, h2, h3, h4⟩ := open_any Try.underlying22 (fun r : TRow => [rowV r]) (fun r => See w w.heap.size r.A (strs r.xs) ∧ r.xs.length = r.n) (by decide) cellsStrs (fun _ => rfl) (fun fuel cs x hx => one_trow hx) h
  rw [rows_flat] at h3
  exact ⟨h1, rs, h2, h3, h4⟩
end
end Go.Proofs.Ytmdfkchgklphlaa
