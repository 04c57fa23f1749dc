/- Layer 14, the laws. -/
import Derived.Test.YtaeaomlhbdbbfaaGreatDoorFdR
/- Layer 14: the laws, over whatever the program's calls answer. -/
namespace Go.Proofs.YtaeaomlhbdbbfaaGreatDoor
open Go.RowKit

/-- Three numbers a row. -/
def trips : List (Int × Int × Int) → List Value
  | [] => []
  | p :: r => .int .i64 p.1 :: .int .i64 p.2.1 :: .int .i64 p.2.2 :: trips r
/-- What the law makes of a table: none, if its ranges don't rise; else how much more it says. -/
def scanT (c : Int) : List (Int × Int × Int) → Int → Int → Option Int
  | [], _, more => some more
  | p :: r, last, more => if p.1 ≤ last ∨ p.2.1 < p.1 ∨ p.2.2 = 0 then none else scanT c r p.2.1 (if p.1 ≤ c ∧ c ≤ p.2.1 then p.2.2 else more)
variable {G : World → Prop}

end Go.Proofs.YtaeaomlhbdbbfaaGreatDoor

/- Layer 14: the law on single letters and the table, over whatever the program's calls answer. -/
namespace Go.Proofs.YtaeaomlhbdbbfaaGreatDoor
open Go.RowKit
variable {G : World → Prop}

theorem trips_at : ∀ (ps : List (Int × Int × Int)) (i : Nat), i < ps.length → (trips ps)[i * 3]? = some (.int .i64 (ps.getD i (0, 0, 0)).1) ∧ (trips ps)[i * 3 + 1]? = some (.int .i64 (ps.getD i (0, 0, 0)).2.1) ∧ (trips ps)[i * 3 + 2]? = some (.int .i64 (ps.getD i (0, 0, 0)).2.2)
  | [], i, h => absurd h (Nat.not_lt_zero _)
  | p :: r, 0, _ => ⟨rfl, rfl, rfl⟩
  | p :: r, i + 1, h => by
    have ih := trips_at r i (by rw [List.length_cons] at h; omega)
    rw [show (i + 1) * 3 = i * 3 + 1 + 1 + 1 by omega]
    simp only [trips, List.getElem?_cons_succ, List.getD_cons_succ]
    exact ih
theorem scan_step (c : Int) (ps : List (Int × Int × Int)) (i : Nat) (h : i < ps.length) (last more : Int) :
    scanT c (ps.drop i) last more = if (ps.getD i (0, 0, 0)).1 ≤ last ∨ (ps.getD i (0, 0, 0)).2.1 < (ps.getD i (0, 0, 0)).1 ∨ (ps.getD i (0, 0, 0)).2.2 = 0 then none
      else scanT c (ps.drop (i + 1)) (ps.getD i (0, 0, 0)).2.1 (if (ps.getD i (0, 0, 0)).1 ≤ c ∧ c ≤ (ps.getD i (0, 0, 0)).2.1 then (ps.getD i (0, 0, 0)).2.2 else more) := by
  rw [List.drop_eq_getElem_cons h, List.getD_eq_getElem?_getD, List.getElem?_eq_getElem h]
  rfl
theorem small_near (c : Int) : smallI c = c ∨ smallI c = c + 32 ∨ smallI c = c + 80 := by
  unfold smallI
  split
  · exact .inr (.inl rfl)
  · split
    · exact .inr (.inr rfl)
    · exact .inl rfl
theorem small_far (c : Int) (h : 9223372036854775000 ≤ c) : smallI c = c := by
  unfold smallI
  rw [if_neg (by omega), if_neg (by omega)]
end Go.Proofs.YtaeaomlhbdbbfaaGreatDoor
