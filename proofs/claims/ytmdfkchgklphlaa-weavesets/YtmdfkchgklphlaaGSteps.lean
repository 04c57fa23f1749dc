/- A region that draws its order, walked in named orders. Over any program. -/
import Derived.Test.YtmdfkchgklphlaaM3
import Derived.OrdersHeld
import Derived.RegionTactic
/- A region that draws its order, walked in one order that is named: an operation that yields the same in every world that meets S may be taken first, any other one only where it alone may come. Over any program. -/
namespace Go.Proofs.Ytmdfkchgklphlaa
open Go.RowKit

section
variable {P : Program} {ops : Array Oper} {Q : Exit → Act → World → Prop} {S : World → Prop}
/-- The named order: true: taken first; false: the only one that may come. -/
def Steps (P : Program) (ops : Array Oper) (Q : Exit → Act → World → Prop) (S : World → Prop) : List (Bool × Nat) → Act → World → Prop
  | [], a, w => wpList P ops Q [] a w
  | (true, i) :: l, a, w => S w ∧ ∃ o v, ops[i]? = some o ∧ YieldsIf P ops S o v a ∧ Steps P ops Q S l (a.put o.dst v) w
  | (false, i) :: l, a, w => wpOp P ops Q i (fun a' w' => S w' ∧ Steps P ops Q S l a' w') a w
def okSteps (ops : Array Oper) : List (Bool × Nat) → Array Bool → Bool
  | [], listed => (Region.ready .any ops listed).isEmpty
  | (true, i) :: l, listed => (Region.ready .any ops listed).contains i && Region.free .any ops listed i && okSteps ops l (listed.setIfInBounds i true)
  | (false, i) :: l, listed => (Region.ready .any ops listed == [i]) && okSteps ops l (listed.setIfInBounds i true)

theorem Steps.any (hs : Region.noSelect ops = true) (hQ : ∀ c a d v w, Q (.panic c) (Act.put a d v) w → Q (.panic c) a w) : ∀ (l : List (Bool × Nat)) (listed : Array Bool) (a : Act) (w : World),
    okSteps ops l listed = true → Steps P ops Q S l a w → wpAnyH P .any ops Q S l.length listed a w
  | [], listed, a, w, hB, h => ⟨by simpa [okSteps] using hB, h⟩
  | (true, i) :: l, listed, a, w, hB, h => by
    obtain ⟨hS, o, v, ho, hy, h⟩ := h
    simp only [okSteps, Bool.and_eq_true] at hB
    exact wpAnyH_take ho hs hB.1.2 hB.1.1 (fun c a w => hQ c a _ v w) hy hS (Steps.any hs hQ l _ _ _ hB.2 h)
  | (false, i) :: l, listed, a, w, hB, h => by
    simp only [okSteps, Bool.and_eq_true, beq_iff_eq] at hB
    refine wpAnyH_all hB.1 (by simp) fun j hj => ?_
    obtain rfl : j = i := by simpa using hj
    exact wpOp_mono (fun a' w' h' => ⟨h'.1, Steps.any hs hQ l _ _ _ hB.2 h'.2⟩) h

theorem Steps.region {id : Nat} {a : Act} {w : World} (S : World → Prop) (l : List (Bool × Nat)) (hm : P.follows .mixedOrders = true) (hs : Region.noSelect ops = true) (hl : l.length = ops.size)
    (hB : okSteps ops l (Array.replicate ops.size false) = true) (hQ : ∀ c a d v w, Q (.panic c) (Act.put a d v) w → Q (.panic c) a w) (h : Steps P ops Q S l a w.drew) : (Code.region id ops true).wp P Q a w := by
  refine wp_region_held (S := S) hm ?_
  rw [← hl]
  exact Steps.any hs hQ l _ a _ (by rw [hl]; exact hB) h

/-- One that is taken first. -/
theorem Steps.take {i : Nat} {l : List (Bool × Nat)} {a : Act} {w : World} {d : Option Tmp} {op : Op} {ty : TypeId} {pos : String} {af : Array Edge} (v : Value) (ho : ops[i]? = some ⟨d, op, ty, pos, af, none⟩) (hS : S w)
    (hy : ∀ W, S W → (execOp a.eval ⟨d, op, ty, pos, af, none⟩).run P W = .ok (.value v) W) (h : Steps P ops Q S l (a.put d v) w) : Steps P ops Q S ((true, i) :: l) a w := ⟨hS, _, v, ho, .inl ⟨rfl, hy⟩, h⟩
/-- A call that alone may come. -/
theorem Steps.call {i : Nat} {l : List (Bool × Nat)} {a : Act} {w : World} {d : Option Tmp} {op : Op} {ty : TypeId} {pos : String} {af : Array Edge} (f : FuncId) (args : Array Value) (ho : ops[i]? = some ⟨d, op, ty, pos, af, none⟩)
    (hr : (execOp a.eval ⟨d, op, ty, pos, af, none⟩).run P w = .ok (.enter f args) w) (h : Calls P f args w fun e w' => ∃ v, e = .returned v ∧ S w' ∧ Steps P ops Q S l (a.put d v) w') : Steps P ops Q S ((false, i) :: l) a w := by
  refine wpOp_step ho fun K hK => ?_
  rw [if_pos (by rfl)]
  unfold Oper.wp
  rw [hr, Oper.upon_enter]
  refine h.mono fun e w'' hh => ?_
  obtain ⟨v, rfl, h1, h2⟩ := hh
  exact hK _ _ ⟨h1, h2⟩
/-- A store that alone may come. -/
theorem Steps.skip {i : Nat} {l : List (Bool × Nat)} {a : Act} {w w' : World} {d : Option Tmp} {op : Op} {ty : TypeId} {pos : String} {af : Array Edge} (ho : ops[i]? = some ⟨d, op, ty, pos, af, none⟩)
    (hr : (execOp a.eval ⟨d, op, ty, pos, af, none⟩).run P w = .ok .skip w') (hS : S w') (h : Steps P ops Q S l (a.put d undef) w') : Steps P ops Q S ((false, i) :: l) a w := by
  refine wpOp_step ho fun K hK => ?_
  rw [if_pos (by rfl)]
  unfold Oper.wp
  rw [hr, Oper.upon_skip]
  exact hK _ _ ⟨hS, h⟩
/-- A whole array that is loaded. -/
theorem yields_load {a : Act} {o : Oper} (ty : TypeId) (x : Operand) (ho : o.op = .load ty x) (g : Nat) (hx : a.eval x = .pointer (some ⟨g, 0, none⟩)) (t : TypeId) (cs : List Value) {n : Nat} {e : TypeId} (hu : P.underlying ty = some (.array n e))
    (hi : (P.info? ty).map (·.size) = some cs.length) (W : World) (hg : Is W g t cs) : (execOp a.eval o).run P W = .ok (.value (.agg cs.toArray)) W := by
  unfold execOp
  simp only [ho, hx, Instr.loadAt, Instr.sureAddr, Sem.run_bind, Sem.run_pure, Result.andThen_ok, run_loadVar_row W g t ty cs.toArray (0, 0) _ hg hu rfl (by simpa using hi)]
end
end Go.Proofs.Ytmdfkchgklphlaa

/- A region that draws its order, walked by a tree of orders: as Steps, but where two operations may come, each may come first. Over any program. -/
namespace Go.Proofs.Ytmdfkchgklphlaa
open Go.RowKit

/-- An operation that alone may come, with a value, and another world. -/
theorem Steps.alone {P : Program} {ops : Array Oper} {Q : Exit → Act → World → Prop} {S : World → Prop} {i : Nat} {l : List (Bool × Nat)} {a : Act} {w w' : World} {d : Option Tmp} {op : Op} {ty : TypeId} {pos : String} {af : Array Edge} (v : Value) (ho : ops[i]? = some ⟨d, op, ty, pos, af, none⟩)
    (hr : (execOp a.eval ⟨d, op, ty, pos, af, none⟩).run P w = .ok (.value v) w') (hS : S w') (h : Steps P ops Q S l (a.put d v) w') : Steps P ops Q S ((false, i) :: l) a w := by
  refine wpOp_step ho fun K hK => ?_
  rw [if_pos (by rfl)]
  unfold Oper.wp
  rw [hr, Oper.upon_value]
  exact hK _ _ ⟨hS, h⟩

inductive Ord where
  | nil
  | t (i : Nat) (r : Ord)
  | f (i : Nat) (r : Ord)
  | two (i j : Nat) (r1 r2 : Ord)

section
variable {P : Program} {ops : Array Oper} {Q : Exit → Act → World → Prop} {S : World → Prop}
def Walk (P : Program) (ops : Array Oper) (Q : Exit → Act → World → Prop) (S : World → Prop) : Ord → Act → World → Prop
  | .nil, a, w => wpList P ops Q [] a w
  | .t i r, a, w => S w ∧ ∃ o v, ops[i]? = some o ∧ YieldsIf P ops S o v a ∧ Walk P ops Q S r (a.put o.dst v) w
  | .f i r, a, w => wpOp P ops Q i (fun a' w' => S w' ∧ Walk P ops Q S r a' w') a w
  | .two i j r1 r2, a, w => wpOp P ops Q i (fun a' w' => S w' ∧ Walk P ops Q S r1 a' w') a w ∧ wpOp P ops Q j (fun a' w' => S w' ∧ Walk P ops Q S r2 a' w') a w
def okWalk (ops : Array Oper) : Ord → Nat → Array Bool → Bool
  | .nil, 0, listed => (Region.ready .any ops listed).isEmpty
  | .t i r, n + 1, listed => (Region.ready .any ops listed).contains i && Region.free .any ops listed i && okWalk ops r n (listed.setIfInBounds i true)
  | .f i r, n + 1, listed => (Region.ready .any ops listed == [i]) && okWalk ops r n (listed.setIfInBounds i true)
  | .two i j r1 r2, n + 1, listed => (Region.ready .any ops listed == [i, j]) && okWalk ops r1 n (listed.setIfInBounds i true) && okWalk ops r2 n (listed.setIfInBounds j true)
  | _, _, _ => false

theorem Walk.any (hs : Region.noSelect ops = true) (hQ : ∀ c a d v w, Q (.panic c) (Act.put a d v) w → Q (.panic c) a w) : ∀ (l : Ord) (n : Nat) (listed : Array Bool) (a : Act) (w : World),
    okWalk ops l n listed = true → Walk P ops Q S l a w → wpAnyH P .any ops Q S n listed a w
  | .nil, 0, listed, a, w, hB, h => ⟨by simpa [okWalk] using hB, h⟩
  | .t i r, n + 1, listed, a, w, hB, h => by
    obtain ⟨hS, o, v, ho, hy, h⟩ := h
    simp only [okWalk, Bool.and_eq_true] at hB
    exact wpAnyH_take ho hs hB.1.2 hB.1.1 (fun c a w => hQ c a _ v w) hy hS (Walk.any hs hQ r n _ _ _ hB.2 h)
  | .f i r, n + 1, listed, a, w, hB, h => by
    simp only [okWalk, Bool.and_eq_true, beq_iff_eq] at hB
    refine wpAnyH_all hB.1 (by simp) fun j hj => ?_
    obtain rfl : j = i := by simpa using hj
    exact wpOp_mono (fun a' w' h' => ⟨h'.1, Walk.any hs hQ r n _ _ _ hB.2 h'.2⟩) h
  | .two i j r1 r2, n + 1, listed, a, w, hB, h => by
    simp only [okWalk, Bool.and_eq_true, beq_iff_eq] at hB
    refine wpAnyH_all hB.1.1 (by simp) fun k hk => ?_
    obtain rfl | rfl : k = i ∨ k = j := by simpa using hk
    · exact wpOp_mono (fun a' w' h' => ⟨h'.1, Walk.any hs hQ r1 n _ _ _ hB.1.2 h'.2⟩) h.1
    · exact wpOp_mono (fun a' w' h' => ⟨h'.1, Walk.any hs hQ r2 n _ _ _ hB.2 h'.2⟩) h.2
  | .nil, n + 1, _, _, _, hB, _ => by simp [okWalk] at hB
  | .t _ _, 0, _, _, _, hB, _ => by simp [okWalk] at hB
  | .f _ _, 0, _, _, _, hB, _ => by simp [okWalk] at hB
  | .two _ _ _ _, 0, _, _, _, hB, _ => by simp [okWalk] at hB

theorem Walk.region {id : Nat} {a : Act} {w : World} (S : World → Prop) (l : Ord) (hm : P.follows .mixedOrders = true) (hs : Region.noSelect ops = true)
    (hB : okWalk ops l ops.size (Array.replicate ops.size false) = true) (hQ : ∀ c a d v w, Q (.panic c) (Act.put a d v) w → Q (.panic c) a w) (h : Walk P ops Q S l a w.drew) : (Code.region id ops true).wp P Q a w :=
  wp_region_held (S := S) hm (Walk.any hs hQ l _ _ a _ hB h)

theorem Walk.take {i : Nat} {l : Ord} {a : Act} {w : World} {d : Option Tmp} {op : Op} {ty : TypeId} {pos : String} {af : Array Edge} (v : Value) (ho : ops[i]? = some ⟨d, op, ty, pos, af, none⟩) (hS : S w)
    (hy : ∀ W, S W → (execOp a.eval ⟨d, op, ty, pos, af, none⟩).run P W = .ok (.value v) W) (h : Walk P ops Q S l (a.put d v) w) : Walk P ops Q S (.t i l) a w := ⟨hS, _, v, ho, .inl ⟨rfl, hy⟩, h⟩
/-- What an operation comes to: a call. -/
theorem op_call {K : Act → World → Prop} {i : Nat} {a : Act} {w : World} {d : Option Tmp} {op : Op} {ty : TypeId} {pos : String} {af : Array Edge} (f : FuncId) (args : Array Value) (ho : ops[i]? = some ⟨d, op, ty, pos, af, none⟩)
    (hr : (execOp a.eval ⟨d, op, ty, pos, af, none⟩).run P w = .ok (.enter f args) w) (h : Calls P f args w fun e w' => ∃ v, e = .returned v ∧ K (a.put d v) w') : wpOp P ops Q i K a w := by
  refine wpOp_step ho fun K' hK => ?_
  rw [if_pos (by rfl)]
  unfold Oper.wp
  rw [hr, Oper.upon_enter]
  refine h.mono fun e w'' hh => ?_
  obtain ⟨v, rfl, h1⟩ := hh
  exact hK _ _ h1
/-- A value, and another world. -/
theorem op_value {K : Act → World → Prop} {i : Nat} {a : Act} {w w' : World} {d : Option Tmp} {op : Op} {ty : TypeId} {pos : String} {af : Array Edge} (v : Value) (ho : ops[i]? = some ⟨d, op, ty, pos, af, none⟩)
    (hr : (execOp a.eval ⟨d, op, ty, pos, af, none⟩).run P w = .ok (.value v) w') (h : K (a.put d v) w') : wpOp P ops Q i K a w := by
  refine wpOp_step ho fun K' hK => ?_
  rw [if_pos (by rfl)]
  unfold Oper.wp
  rw [hr, Oper.upon_value]
  exact hK _ _ h
/-- A store. -/
theorem op_skip {K : Act → World → Prop} {i : Nat} {a : Act} {w w' : World} {d : Option Tmp} {op : Op} {ty : TypeId} {pos : String} {af : Array Edge} (ho : ops[i]? = some ⟨d, op, ty, pos, af, none⟩)
    (hr : (execOp a.eval ⟨d, op, ty, pos, af, none⟩).run P w = .ok .skip w') (h : K (a.put d undef) w') : wpOp P ops Q i K a w := by
  refine wpOp_step ho fun K' hK => ?_
  rw [if_pos (by rfl)]
  unfold Oper.wp
  rw [hr, Oper.upon_skip]
  exact hK _ _ h
end
end Go.Proofs.Ytmdfkchgklphlaa
