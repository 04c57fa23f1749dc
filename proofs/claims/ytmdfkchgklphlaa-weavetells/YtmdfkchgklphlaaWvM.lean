/- Layer 16 in plain words: rows of texts, all of them in order, which rows have a text. -/
import Derived.Test.YtmdfkchgklphlaaPOrd
namespace Go.Proofs.Ytmdfkchgklphlaa
open Go.RowKit

/-- Where a new text goes, from the end on. -/
def putK (out : List (List UInt8)) (s : List UInt8) : Nat → Nat
  | 0 => 0
  | k + 1 => if 0 < cmpF (partsF (out.getD k [])) (partsF s) then putK out s k else k + 1
def putW (out : List (List UInt8)) (s : List UInt8) : List (List UInt8) := out.take (putK out s out.length) ++ s :: out.drop (putK out s out.length)
def addW (out : List (List UInt8)) (s : List UInt8) : List (List UInt8) := if s ∈ out then out else putW out s
def unionR (out : List (List UInt8)) (xs : List (List UInt8)) : List (List UInt8) := xs.foldl addW out
/-- All texts, in order, each once. -/
def unionF (rows : List (List (List UInt8))) : List (List UInt8) := rows.foldl unionR []
/-- The rows that have a text. -/
def placesF (rows : List (List (List UInt8))) (s : List UInt8) : List Nat := (List.range rows.length).filter fun i => decide (s ∈ rows.getD i [])
/-- The texts that all rows have. -/
def commonF (rows : List (List (List UInt8))) : List (List UInt8) := (unionF rows).filter fun s => decide ((placesF rows s).length = rows.length)

theorem putK_le (out : List (List UInt8)) (s : List UInt8) : ∀ k, putK out s k ≤ k
  | 0 => Nat.le_refl 0
  | k + 1 => by
    unfold putK
    have := putK_le out s k
    split <;> omega
theorem put_length (out : List (List UInt8)) (s : List UInt8) : (putW out s).length = out.length + 1 := by
  have h := putK_le out s out.length
  unfold putW
  rw [List.length_append, List.length_cons, List.length_take, List.length_drop]
  omega
theorem add_length (out : List (List UInt8)) (s : List UInt8) : (addW out s).length ≤ out.length + 1 := by
  unfold addW
  split
  · omega
  · rw [put_length]
    exact Nat.le_refl _
theorem unionR_length (xs : List (List UInt8)) : ∀ out : List (List UInt8), (unionR out xs).length ≤ out.length + xs.length := by
  induction xs with
  | nil => exact fun out => Nat.le_refl _
  | cons x xs ih =>
    intro out
    have h1 := ih (addW out x)
    have h2 := add_length out x
    rw [List.length_cons]
    show (unionR (addW out x) xs).length ≤ _
    omega
def totalF (rows : List (List (List UInt8))) : Nat := (rows.map List.length).sum
theorem union_length_from (rows : List (List (List UInt8))) : ∀ out : List (List UInt8), (rows.foldl unionR out).length ≤ out.length + totalF rows := by
  induction rows with
  | nil => exact fun out => Nat.le_refl _
  | cons x rows ih =>
    intro out
    have h1 := ih (unionR out x)
    have h2 := unionR_length x out
    have h3 : totalF (x :: rows) = x.length + totalF rows := by simp [totalF]
    rw [h3]
    show (rows.foldl unionR (unionR out x)).length ≤ _
    omega
theorem union_length (rows : List (List (List UInt8))) : (unionF rows).length ≤ totalF rows := by
  have := union_length_from rows []
  rw [List.length_nil] at this
  unfold unionF
  omega
theorem take_next {α : Type} (d : α) (l : List α) (i : Nat) (h : i < l.length) : l.take (i + 1) = l.take i ++ [l.getD i d] := by
  rw [List.take_add_one, List.getElem?_eq_getElem h, List.getD_eq_getElem?_getD, List.getElem?_eq_getElem h]
  rfl
theorem unionR_next (out xs : List (List UInt8)) (k : Nat) (h : k < xs.length) : unionR out (xs.take (k + 1)) = addW (unionR out (xs.take k)) (xs.getD k []) := by
  rw [take_next [] xs k h]
  unfold unionR
  rw [List.foldl_append]
  rfl
theorem union_next (rows : List (List (List UInt8))) (i : Nat) (h : i < rows.length) : unionF (rows.take (i + 1)) = unionR (unionF (rows.take i)) (rows.getD i []) := by
  rw [take_next [] rows i h]
  unfold unionF
  rw [List.foldl_append]
  rfl
theorem places_next (rows : List (List (List UInt8))) (s : List UInt8) (i : Nat) : (List.range (i + 1)).filter (fun j => decide (s ∈ rows.getD j [])) = (List.range i).filter (fun j => decide (s ∈ rows.getD j [])) ++ if s ∈ rows.getD i [] then [i] else [] := by
  rw [List.range_succ, List.filter_append]
  congr 1
  rw [List.filter_cons]
  by_cases h : s ∈ rows.getD i []
  · rw [if_pos h, if_pos (decide_eq_true h)]
    rfl
  · rw [if_neg h, if_neg (by simpa using h)]
    rfl
theorem places_length (rows : List (List (List UInt8))) (s : List UInt8) : (placesF rows s).length ≤ rows.length := by
  have := List.length_filter_le (fun i => decide (s ∈ rows.getD i [])) (List.range rows.length)
  rw [List.length_range] at this
  exact this
theorem add_mem {out : List (List UInt8)} {s x : List UInt8} (h : x ∈ addW out s) : x ∈ out ∨ x = s := by
  unfold addW at h
  by_cases g : s ∈ out
  · rw [if_pos g] at h
    exact .inl h
  · rw [if_neg g] at h
    unfold putW at h
    rw [List.mem_append, List.mem_cons] at h
    rcases h with h | h | h
    · exact .inl (List.mem_of_mem_take h)
    · exact .inr h
    · exact .inl (List.mem_of_mem_drop h)
theorem unionR_mem {x : List UInt8} (xs : List (List UInt8)) : ∀ out : List (List UInt8), x ∈ unionR out xs → x ∈ out ∨ x ∈ xs := by
  induction xs with
  | nil => exact fun out h => .inl h
  | cons y xs ih =>
    intro out h
    rcases ih (addW out y) h with g | g
    · rcases add_mem g with g | g
      · exact .inl g
      · exact .inr (by rw [g]; exact List.mem_cons_self)
    · exact .inr (List.mem_cons_of_mem _ g)
theorem union_mem_from {x : List UInt8} (rows : List (List (List UInt8))) : ∀ out : List (List UInt8), x ∈ rows.foldl unionR out → x ∈ out ∨ ∃ r ∈ rows, x ∈ r := by
  induction rows with
  | nil => exact fun out h => .inl h
  | cons y rows ih =>
    intro out h
    rcases ih (unionR out y) h with g | ⟨r, g1, g2⟩
    · rcases unionR_mem y out g with g | g
      · exact .inl g
      · exact .inr ⟨y, List.mem_cons_self, g⟩
    · exact .inr ⟨r, List.mem_cons_of_mem _ g1, g2⟩
theorem union_mem {x : List UInt8} {rows : List (List (List UInt8))} (h : x ∈ unionF rows) : ∃ r ∈ rows, x ∈ r := by
  rcases union_mem_from rows [] h with g | g
  · cases g
  · exact g
end Go.Proofs.Ytmdfkchgklphlaa
