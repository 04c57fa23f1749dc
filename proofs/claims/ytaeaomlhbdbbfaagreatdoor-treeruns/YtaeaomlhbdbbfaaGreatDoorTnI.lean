/- Layer 15, the document: do nodes make a tree. -/
import Derived.Test.YtaeaomlhbdbbfaaGreatDoorTnH
namespace Go.Proofs.YtaeaomlhbdbbfaaGreatDoor
open Go.RowKit

section
variable {P : Program} {ops : Array Oper} {Q : Exit → Act → World → Prop} {S : World → Prop}
/-- A call, guarded or not, that alone may come. -/
theorem Steps.callG {i : Nat} {l : List (Bool × Nat)} {a : Act} {w : World} {d : Option Tmp} {op : Op} {ty : TypeId} {pos : String} {af : Array Edge} {gd : Option (Nat × Bool)} (f : FuncId) (args : Array Value) (ho : ops[i]? = some ⟨d, op, ty, pos, af, gd⟩)
    (hw : Region.wanted ⟨d, op, ty, pos, af, gd⟩ (yielded ops a.tmps) = true) (hr : (execOp a.eval ⟨d, op, ty, pos, af, gd⟩).run P w = .ok (.enter f args) w) (h : Calls P f args w fun e w' => ∃ v, e = .returned v ∧ S w' ∧ Steps P ops Q S l (a.put d v) w') : Steps P ops Q S ((false, i) :: l) a w := by
  refine wpOp_step ho fun K hK => ?_
  rw [if_pos hw]
  unfold Oper.wp
  rw [hr, Oper.upon_enter]
  refine h.mono fun e w'' hh => ?_
  obtain ⟨v, rfl, h1, h2⟩ := hh
  exact hK _ _ ⟨h1, h2⟩
end
theorem check_at (ps : List Nd) (i : Nat) (h : i < ps.length) : checkG (ps.take i) (ps.drop i) = if mayPath (ps.getD i nd0) = false then 5 else if mayRest (ps.getD i nd0) = false then 1
    else if 0 < i ∧ 0 ≤ cmpF (partsF (ps.getD (i - 1) nd0).path) (partsF (ps.getD i nd0).path) then 2
    else if (parentF (ps.getD i nd0).path).2 = true ∧ isDirT (ps.take i) (parentF (ps.getD i nd0).path).1 = false then 8
    else if collT (ps.take i) (ps.getD i nd0).path = true then 6 else checkG (ps.take (i + 1)) (ps.drop (i + 1)) := by
  have e : ps.drop i = ps.getD i nd0 :: ps.drop (i + 1) := by
    rw [List.drop_eq_getElem_cons h, List.getD_eq_getElem?_getD, List.getElem?_eq_getElem h]
    rfl
  rw [e, checkG, ← getD_take_snoc nd0 ps i h]
  have e2 : (ps.take i ≠ [] ∧ 0 ≤ cmpF (partsF ((ps.take i).getD ((ps.take i).length - 1) nd0).path) (partsF (ps.getD i nd0).path)) ↔ (0 < i ∧ 0 ≤ cmpF (partsF (ps.getD (i - 1) nd0).path) (partsF (ps.getD i nd0).path)) := by
    have hl : (ps.take i).length = i := by rw [List.length_take]; omega
    constructor
    · rintro ⟨h1, h2⟩
      have hi : 0 < i := by
        rw [← hl]
        exact List.length_pos_iff.2 h1
      rw [hl, List.getD_eq_getElem?_getD, List.getElem?_take_of_lt (by omega), ← List.getD_eq_getElem?_getD] at h2
      exact ⟨hi, h2⟩
    · rintro ⟨h1, h2⟩
      rw [hl, List.getD_eq_getElem?_getD, List.getElem?_take_of_lt (by omega), ← List.getD_eq_getElem?_getD]
      exact ⟨List.length_pos_iff.1 (by omega), h2⟩
  by_cases h3 : 0 < i ∧ 0 ≤ cmpF (partsF (ps.getD (i - 1) nd0).path) (partsF (ps.getD i nd0).path)
  · rw [if_pos h3, if_pos (e2.2 h3)]
  · rw [if_neg h3, if_neg (fun h => h3 (e2.1 h))]
end Go.Proofs.YtaeaomlhbdbbfaaGreatDoor
