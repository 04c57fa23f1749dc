/- A region that draws its order, in a round of a range over a function: walked in one order that is named (over any program, at the fence that asks nothing). -/
import Derived.Test.YtmdfkchgklphlaaGSteps
import Derived.OrdersIn
import Derived.RangeFuncCalls
import Derived.TacticsIn
namespace Go.Proofs.Ytmdfkchgklphlaa
open Go.RowKit

section
variable {P : Program} {ops : Array Oper} {Q : Exit → Act → World → Prop} {S : World → Prop} {l n : Nat}
def onlyN (Q : Exit → Act → World → Prop) : Exit → Act → World → Prop := fun e a w => e = .normal ∧ Q .normal a w
def noDefer (ops : Array Oper) : Bool := ops.all fun o => match o.op with | .defer _ => false | _ => true
theorem noDefer_at (h : noDefer ops = true) {i : Nat} {o : Oper} (hi : ops[i]? = some o) (c : Call) : o.op ≠ .defer c := fun e => by
  unfold noDefer at h
  rw [Array.all_eq_true] at h
  obtain ⟨hl, rfl⟩ := Array.getElem?_eq_some_iff.1 hi
  have := h i hl
  rw [e] at this
  cases this
theorem op_round {o : Oper} (hd : ∀ c, o.op ≠ .defer c) {a : Act} {w : World} {K K' : Act → World → Prop} (hK : ∀ a w, K a w → K' a w) (h : o.wp P a w K (onlyN Q)) : o.wpIn (Fence.wide.inRound l) n P a w K' Q := by
  refine ⟨fun _ _ => trivial, ?_⟩
  show o.uponIn (Fence.wide.inRound l) n P a K' Q ((o.semAt (some l) a.eval).run P w)
  rw [Oper.semAt_some l _ _ hd]
  unfold Oper.wp at h
  cases hr : (execOp a.eval o).run P w with
  | ok v w' =>
    rw [hr] at h
    cases v with
    | value v => exact hK _ _ h
    | skip => exact hK _ _ h
    | defer d => exact hK _ _ h
    | enter f args =>
      refine ⟨(fun g => by cases g), (CallsIn.inRound l (callsIn_wide.2 h)).mono ?_⟩
      rintro (v | ch | _) w2 g
      · exact hK _ _ g
      · cases g.1
      · obtain ⟨_, _, g⟩ := g
        cases g.1
    | row r args =>
      refine ⟨(fun g => by cases g), fun c cs _ => ?_⟩
      obtain ⟨v, w2, g, s⟩ := h c cs
      exact ⟨v, w2, hK _ _ g, stepsIn_wide.2 s⟩
    | _ => exact h.elim
  | halt x w' =>
    rw [hr] at h
    cases x with
    | panic v => cases h.1
    | _ => exact h.elim
theorem any_round {md : Region.Mode} (hd : noDefer ops = true) : ∀ (fuel : Nat) (listed : Array Bool) (a : Act) (w : World), wpAny P md ops (onlyN Q) fuel listed a w → wpAnyIn (Fence.wide.inRound l) n P md ops Q fuel listed a w
  | 0, _, _, _, h => ⟨h.1, h.2.2⟩
  | fuel + 1, listed, a, w, h => by
    refine ⟨fun e => (h.1 e).2, fun i hi => ?_⟩
    have g := h.2 i hi
    unfold wpOp at g
    unfold wpOpIn
    cases ho : ops[i]? with
    | none =>
      rw [ho] at g
      exact any_round hd fuel _ _ _ g
    | some o =>
      rw [ho] at g
      simp only at g ⊢
      by_cases hw : Region.wanted o (yielded ops a.tmps) = true
      · rw [if_pos hw] at g ⊢
        rcases g with g | ⟨_, _, _, g⟩
        · exact op_round (noDefer_at hd ho) (fun a w => any_round hd fuel _ a w) g
        · cases g.1
      · rw [if_neg hw] at g ⊢
        exact ⟨fun _ _ => trivial, any_round hd fuel _ _ _ g⟩
theorem Steps.regionIn {id : Nat} {a : Act} {w : World} (S : World → Prop) (ls : List (Bool × Nat)) (hm : P.follows .mixedOrders = true) (hs : Region.noSelect ops = true) (hd : noDefer ops = true) (hl : ls.length = ops.size)
    (hB : okSteps ops ls (Array.replicate ops.size false) = true) (h : Steps P ops (onlyN Q) S ls a w.drew) : (Code.region id ops true).wpIn (Fence.wide.inRound l) n P Q a w := by
  refine wpIn_region_any hm (any_round hd _ _ _ _ (wpAny_of_held (S := S) _ _ _ _ ?_))
  rw [← hl]
  exact Steps.any hs (fun c a d v w h => by cases h.1) ls _ a _ (by rw [hl]; exact hB) h
end
end Go.Proofs.Ytmdfkchgklphlaa
