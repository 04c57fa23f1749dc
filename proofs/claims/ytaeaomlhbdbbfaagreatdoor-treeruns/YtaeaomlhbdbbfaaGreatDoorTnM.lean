/- Layer 15 in plain words: nodes, and what is asked and made of them. -/
import Derived.Test.YtaeaomlhbdbbfaaGreatDoorRtL
import Derived.Test.YtaeaomlhbdbbfaaGreatDoorFdM
namespace Go.Proofs.YtaeaomlhbdbbfaaGreatDoor
open Go.RowKit

/-- A node. -/
structure Nd where
  path : List UInt8
  dir : Bool
  data : List UInt8
  mode : Int
  time : Int
instance : DecidableEq Nd := fun a b => decidable_of_iff (a.path = b.path ∧ a.dir = b.dir ∧ a.data = b.data ∧ a.mode = b.mode ∧ a.time = b.time) ⟨fun ⟨h1, h2, h3, h4, h5⟩ => by cases a; cases b; simp_all, fun h => by rw [h]; exact ⟨rfl, rfl, rfl, rfl, rfl⟩⟩
/-- No node. -/
def nd0 : Nd := ⟨[], false, [], 0, 0⟩
def ndVals (n : Nd) : List Value := [.string (tx n.path), .bool n.dir, .string (tx n.data), .int .i64 n.mode, .int .i64 n.time]
/-- Nodes as cells, five each. -/
def nds : List Nd → List Value
  | [] => []
  | n :: r => .string (tx n.path) :: .bool n.dir :: .string (tx n.data) :: .int .i64 n.mode :: .int .i64 n.time :: nds r
theorem nds_len : ∀ ps, (nds ps).length = ps.length * 5
  | [] => rfl
  | n :: r => by
    simp only [nds, List.length_cons, nds_len r]
    omega
theorem nds_app : ∀ a b, nds (a ++ b) = nds a ++ nds b
  | [], _ => rfl
  | n :: r, b => by simp only [List.cons_append, nds, nds_app r b]
theorem nds_snoc (a : List Nd) (n : Nd) : nds a ++ ndVals n = nds (a ++ [n]) := by
  rw [nds_app]
  rfl
theorem nds_at : ∀ (ps : List Nd) (i : Nat), i < ps.length → (nds ps)[i * 5]? = some (.string (tx (ps.getD i nd0).path)) ∧ (nds ps)[i * 5 + 1]? = some (.bool (ps.getD i nd0).dir) ∧ (nds ps)[i * 5 + 2]? = some (.string (tx (ps.getD i nd0).data)) ∧ (nds ps)[i * 5 + 3]? = some (.int .i64 (ps.getD i nd0).mode) ∧ (nds ps)[i * 5 + 4]? = some (.int .i64 (ps.getD i nd0).time)
  | [], i, h => absurd h (Nat.not_lt_zero _)
  | n :: r, 0, _ => ⟨rfl, rfl, rfl, rfl, rfl⟩
  | n :: r, i + 1, h => by
    have ih := nds_at r i (by rw [List.length_cons] at h; omega)
    rw [show (i + 1) * 5 = i * 5 + 1 + 1 + 1 + 1 + 1 by omega]
    simp only [nds, List.getElem?_cons_succ, List.getD_cons_succ]
    exact ih
theorem getD_mem {α : Type} (d : α) (l : List α) (i : Nat) (h : i < l.length) : l.getD i d ∈ l := by
  rw [List.getD_eq_getElem?_getD, List.getElem?_eq_getElem h]
  exact List.getElem_mem h

/-- Numbers that fit, short paths and contents. -/
def NdIn (n : Nd) : Prop := n.path.length ≤ 2000 ∧ n.data.length ≤ 1000000 ∧ -9223372036854775808 ≤ n.mode ∧ n.mode ≤ 9223372036854775807 ∧ -9223372036854775808 ≤ n.time ∧ n.time ≤ 9223372036854775807
def NdsIn (ps : List Nd) : Prop := ps.length ≤ 100000 ∧ ∀ n ∈ ps, NdIn n

/-- The first place of a path. -/
def atG (p : List UInt8) : List Nd → Option Nat
  | [] => none
  | n :: r => if n.path = p then some 0 else (atG p r).map (· + 1)
def atZ : Option Nat → Int
  | none => -1
  | some k => (k : Int)
theorem at_lt (p : List UInt8) : ∀ (ps : List Nd) (k : Nat), atG p ps = some k → k < ps.length ∧ (ps.getD k nd0).path = p
  | [], k, h => by cases h
  | n :: r, k, h => by
    unfold atG at h
    by_cases hp : n.path = p
    · rw [if_pos hp] at h
      obtain rfl := Option.some.inj h
      exact ⟨Nat.succ_pos _, hp⟩
    · rw [if_neg hp] at h
      obtain ⟨j, hj, rfl⟩ := Option.map_eq_some_iff.1 h
      have := at_lt p r j hj
      exact ⟨by rw [List.length_cons]; omega, by rw [List.getD_cons_succ]; exact this.2⟩
theorem at_step (p : List UInt8) (ps : List Nd) (i : Nat) (h : i < ps.length) (hn : ∀ k, k < i → (ps.getD k nd0).path ≠ p) : (ps.getD i nd0).path = p → atG p ps = some i := by
  induction ps generalizing i with
  | nil => exact absurd h (Nat.not_lt_zero _)
  | cons n r ih =>
    intro hp
    unfold atG
    cases i with
    | zero => rw [if_pos (show n.path = p from hp)]
    | succ i =>
      rw [if_neg (show ¬ n.path = p from hn 0 (by omega)), ih i (by rw [List.length_cons] at h; omega) (fun k hk => by have := hn (k + 1) (by omega); rw [List.getD_cons_succ] at this; exact this) (by rw [List.getD_cons_succ] at hp; exact hp)]
      rfl
theorem at_none (p : List UInt8) (ps : List Nd) (hn : ∀ k, k < ps.length → (ps.getD k nd0).path ≠ p) : atG p ps = none := by
  induction ps with
  | nil => rfl
  | cons n r ih =>
    unfold atG
    rw [if_neg (show ¬ n.path = p from hn 0 (by simp)), ih fun k hk => by
      have := hn (k + 1) (by rw [List.length_cons]; omega)
      rw [List.getD_cons_succ] at this
      exact this]
    rfl
/-- Is there such a directory? -/
def isDirT (ps : List Nd) (p : List UInt8) : Bool := match atG p ps with
  | none => false
  | some k => (ps.getD k nd0).dir
/-- Does a path collide with one of these? -/
def collT (ps : List Nd) (p : List UInt8) : Bool := ps.any fun n => !(decide (n.path = p)) && decide (foldF n.path = foldF p)
def bytesT : List Nd → Nat
  | [] => 0
  | n :: r => n.data.length + bytesT r
theorem bytes_app : ∀ a b, bytesT (a ++ b) = bytesT a + bytesT b
  | [], b => by simp [bytesT]
  | n :: r, b => by
    rw [List.cons_append, bytesT, bytesT, bytes_app r b]
    omega
def mayPath (n : Nd) : Bool := rightF n.path
def mayRest (n : Nd) : Bool := decide (0 ≤ n.mode) && (decide (n.mode ≤ 511) && (decide (0 ≤ n.time) && (decide (n.time ≤ 4294967295) && (!n.dir || decide (n.data = [])))))
def getT (ps : List Nd) (p : List UInt8) : Option Nd := (atG p ps).map fun k => ps.getD k nd0
/-- Does a node go, when a path (and what is under it) does? -/
def goes (p : List UInt8) (self : Bool) (n : Nd) : Bool := (decide (n.path = p) && self) || ((!(decide (p = [])) && underF (partsF n.path) (partsF p)) || (decide (p = []) && !self))
def dropT (ps : List Nd) (p : List UInt8) (self : Bool) : List Nd := ps.filter fun n => !(goes p self n)
def setG (n : Nd) : List Nd → Bool → List Nd
  | [], done => if done = true then [] else [n]
  | m :: r, done => (if decide (0 ≤ cmpF (partsF m.path) (partsF n.path)) = true ∧ done = false then [n] else []) ++ ((if cmpF (partsF m.path) (partsF n.path) = 0 then [] else [m]) ++ setG n r (done || decide (0 ≤ cmpF (partsF m.path) (partsF n.path))))
def setT (ps : List Nd) (n : Nd) : List Nd := setG n ps false
/-- A directory that nobody told of. -/
def dirNd (p : List UInt8) : Nd := ⟨p, true, [], 493, 0⟩
def ensureG : Nat → List Nd → List UInt8 → List Nd
  | 0, ps, _ => ps
  | f + 1, ps, p => if isDirT (if (parentF p).2 = true then ensureG f ps (parentF p).1 else ps) p = true then (if (parentF p).2 = true then ensureG f ps (parentF p).1 else ps) else setT (dropT (if (parentF p).2 = true then ensureG f ps (parentF p).1 else ps) p true) (dirNd p)
def ensureT (ps : List Nd) (p : List UInt8) : List Nd := ensureG (p.length + 1) ps p
def headT (ps : List Nd) (p : List UInt8) : List Nd := if (parentF p).2 = true then ensureT ps (parentF p).1 else ps
def putT (ps : List Nd) (n : Nd) : List Nd := setT (if n.dir = true then headT ps n.path else dropT (headT ps n.path) n.path true) n
def inDir (p : List UInt8) (n : Nd) : Bool := ((parentF n.path).2 && decide ((parentF n.path).1 = p)) || (!(parentF n.path).2 && decide (p = []))
def listT (ps : List Nd) (p : List UInt8) : List Nd := ps.filter (inDir p)
def collG : List Nd → List Nd → Option (List UInt8)
  | _, [] => none
  | done, n :: r => if collT done n.path = true then some n.path else collG (done ++ [n]) r
def collisionT (ps : List Nd) : Option (List UInt8) := collG [] ps
/-- Whether nodes make a tree. -/
def checkG : List Nd → List Nd → Int
  | done, [] => if 4194304 < bytesT done then 7 else 0
  | done, n :: r => if mayPath n = false then 5 else if mayRest n = false then 1
    else if done ≠ [] ∧ 0 ≤ cmpF (partsF (done.getD (done.length - 1) nd0).path) (partsF n.path) then 2
    else if (parentF n.path).2 = true ∧ isDirT done (parentF n.path).1 = false then 8
    else if collT done n.path = true then 6 else checkG (done ++ [n]) r
def checkT (ps : List Nd) : Int := if 4096 < ps.length then 7 else checkG [] ps

theorem parent_lt (p : List UInt8) (h : (parentF p).2 = true) : (parentF p).1.length < p.length := by
  unfold parentF at h ⊢
  have hl := lst_lt p p.length
  generalize lstF p p.length = r at h hl ⊢
  cases r with
  | none => cases h
  | some k =>
    have := hl k rfl
    show (p.take k).length < _
    rw [List.length_take]
    omega
theorem ensure_fuel : ∀ (f g : Nat) (ps : List Nd) (p : List UInt8), p.length < f → p.length < g → ensureG f ps p = ensureG g ps p
  | 0, _, _, _, h, _ => by omega
  | _ + 1, 0, _, _, _, h => by omega
  | f + 1, g + 1, ps, p, h1, h2 => by
    unfold ensureG
    by_cases hp : (parentF p).2 = true
    · have := parent_lt p hp
      rw [if_pos hp, if_pos hp, ensure_fuel f g ps _ (by omega) (by omega)]
    · rw [if_neg hp, if_neg hp]
/-- Ensure, one path's step. -/
theorem ensure_step (ps : List Nd) (p : List UInt8) : ensureT ps p = if isDirT (headT ps p) p = true then headT ps p else setT (dropT (headT ps p) p true) (dirNd p) := by
  have e : (if (parentF p).2 = true then ensureG p.length ps (parentF p).1 else ps) = headT ps p := by
    unfold headT ensureT
    by_cases hp : (parentF p).2 = true
    · have := parent_lt p hp
      rw [if_pos hp, if_pos hp, ensure_fuel p.length _ ps _ (by omega) (Nat.lt_succ_self _)]
    · rw [if_neg hp, if_neg hp]
  conv => lhs; unfold ensureT ensureG
  rw [e]
end Go.Proofs.YtaeaomlhbdbbfaaGreatDoor
