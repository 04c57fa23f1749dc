/- Layer 10: rows of numbers, and their runs, in plain words. -/
import Derived.Test.YtjlkjebmilfgoaaGreatM1
import Derived.WalkKit
import Derived.WalkSpells
import Derived.Lib.Hide
import Derived.Deep.AppendSrc
import Derived.Deep.Draws
import Derived.Deep.AppendLies
import Derived.Maps.AppendAt
import Derived.Test.YtjlkjebmilfgoaaGreatM3
import Derived.Test.YtjlkjebmilfgoaaGreatTLaid
import Derived.Test.YtjlkjebmilfgoaaGreatChecked
import Derived.Below
import Derived.ChangeSlices
import Derived.Deep.LoopGhost
import Derived.Deep.RegionLaw
import Derived.Deep.RegionHeld3
import Derived.BigRegion
import Derived.BigQuiet
import Derived.Deep.MidRow
import Derived.Laws.Rows
import Derived.Laws.Tables
import Derived.Deep.DeepCutAuto
import Derived.Test.YtjlkjebmilfgoaaGreatM10
/- Words of this proof on memory, over any program: a block that is known whole, what a call may have changed, rows of cells, and append onto such a row. -/
namespace Go.Proofs.YtjlkjebmilfgoaaGreat
open Go.RowKit

section
variable {S T : Nat → Prop} {a w w' : World}
end

section
variable {S : Nat → Prop} {w w' : World} {g : Nat} {t : TypeId} {cs : List Value}
end

section
variable {S : Nat → Prop} {e : TypeId} {w w' : World} {A : Option Addr} {n c : Nat} {vs : List Value}
end

end Go.Proofs.YtjlkjebmilfgoaaGreat

/- Layer 10 in plain functions: what symbols say, how a row of numbers is said, how few symbols a row of one number takes. -/
namespace Go.Proofs.YtjlkjebmilfgoaaGreat

/-- A symbol, and what stands behind it. -/
structure Ru where
  s : Int
  m : Int
def bitsF (s : Int) : Nat := if s = 16 then 2 else if s = 17 then 3 else if s = 18 then 7 else 0
def mostF (s : Int) : Nat := if s = 16 then 3 else if s = 17 then 7 else if s = 18 then 127 else 0
def leastF (s : Int) : Nat := if s = 16 then 3 else if s = 17 then 3 else if s = 18 then 11 else 1
def mayR (r : Ru) : Bool := decide (0 ≤ r.s) && decide (r.s ≤ 18) && decide (0 ≤ r.m) && decide (r.m ≤ mostF r.s)
/-- The number that a symbol says behind a row. -/
def whatF (s : Int) (out : List Nat) : Nat := if s = 16 then out.getD (out.length - 1) 0 else if s = 17 then 0 else if s = 18 then 0 else s.toNat
def timesF (r : Ru) : Nat := leastF r.s + r.m.toNat
def unF : List Ru → List Nat → List Nat × Nat
  | [], out => (out, 0)
  | r :: t, out => if mayR r = false then ([], 1) else if r.s = 16 ∧ out.length = 0 then ([], 2) else if 1000 < out.length + timesF r then ([], 7) else
    unF t (out ++ List.replicate (timesF r) (whatF r.s out))

theorem bits_most (s : Int) : 2 ^ bitsF s = mostF s + 1 := by
  unfold bitsF mostF
  split
  · rfl
  · split
    · rfl
    · split <;> rfl
theorem bits_le (s : Int) : bitsF s ≤ 7 := by
  unfold bitsF
  split
  · omega
  · split
    · omega
    · split <;> omega
theorem most_le (s : Int) : mostF s ≤ 127 := by
  unfold mostF
  split
  · omega
  · split
    · omega
    · split <;> omega
theorem least_le (s : Int) : 1 ≤ leastF s ∧ leastF s ≤ 11 := by
  unfold leastF
  split
  · omega
  · split
    · omega
    · split <;> omega
theorem mayR_yes (r : Ru) (h : mayR r = true) : 0 ≤ r.s ∧ r.s ≤ 18 ∧ 0 ≤ r.m ∧ r.m ≤ mostF r.s := by
  simpa [mayR, and_assoc] using h
theorem mayR_iff (r : Ru) : mayR r = true ↔ 0 ≤ r.s ∧ r.s ≤ 18 ∧ 0 ≤ r.m ∧ r.m ≤ mostF r.s := by simp [mayR, and_assoc]
theorem times_le (r : Ru) (h : mayR r = true) : 1 ≤ timesF r ∧ timesF r ≤ 138 := by
  have h1 := mayR_yes r h
  have h2 := most_le r.s
  have h3 := least_le r.s
  unfold timesF
  omega

theorem un_bad (ts : List Ru) (j : Nat) (r : Ru) (o : List Nat) (ht : ts[j]? = some r) (h : mayR r = false) : unF (ts.drop j) o = ([], 1) := by
  obtain ⟨h1, h2⟩ := List.getElem?_eq_some_iff.1 ht
  rw [List.drop_eq_getElem_cons h1, h2, unF, if_pos h]
theorem un_first (ts : List Ru) (j : Nat) (r : Ru) (o : List Nat) (ht : ts[j]? = some r) (h : mayR r = true) (h2 : r.s = 16) (h3 : o.length = 0) : unF (ts.drop j) o = ([], 2) := by
  obtain ⟨h4, h5⟩ := List.getElem?_eq_some_iff.1 ht
  rw [List.drop_eq_getElem_cons h4, h5, unF, if_neg (by rw [h]; decide), if_pos ⟨h2, h3⟩]
theorem un_much (ts : List Ru) (j : Nat) (r : Ru) (o : List Nat) (ht : ts[j]? = some r) (h : mayR r = true) (h2 : ¬ (r.s = 16 ∧ o.length = 0)) (h3 : 1000 < o.length + timesF r) : unF (ts.drop j) o = ([], 7) := by
  obtain ⟨h4, h5⟩ := List.getElem?_eq_some_iff.1 ht
  rw [List.drop_eq_getElem_cons h4, h5, unF, if_neg (by rw [h]; decide), if_neg h2, if_pos h3]
theorem un_on (ts : List Ru) (j : Nat) (r : Ru) (o : List Nat) (ht : ts[j]? = some r) (h : mayR r = true) (h2 : ¬ (r.s = 16 ∧ o.length = 0)) (h3 : o.length + timesF r ≤ 1000) : unF (ts.drop j) o = unF (ts.drop (j + 1)) (o ++ List.replicate (timesF r) (whatF r.s o)) := by
  obtain ⟨h4, h5⟩ := List.getElem?_eq_some_iff.1 ht
  rw [List.drop_eq_getElem_cons h4, h5, unF, if_neg (by rw [h]; decide), if_neg h2, if_neg (by omega)]
theorem un_end (ts : List Ru) (j : Nat) (o : List Nat) (h : ts.length ≤ j) : unF (ts.drop j) o = (o, 0) := by
  rw [List.drop_of_length_le h, unF]

/-- Symbols l say x, k times, behind any row; b: the row's last number is x. -/
def Tells (b : Bool) (x : Nat) (l : List Ru) (k : Nat) : Prop := ∀ (o : List Nat) (rest : List Ru), (b = true → o.getLast? = some x) → o.length + k ≤ 1000 → unF (l ++ rest) o = unF rest (o ++ List.replicate k x)
theorem Tells.none (b : Bool) (x : Nat) : Tells b x [] 0 := fun o rest _ _ => by simp
theorem last_rep (o : List Nat) (k x : Nat) (h : k = 0 → o.getLast? = some x) : (o ++ List.replicate k x).getLast? = some x := by
  cases k with
  | zero => simpa using h rfl
  | succ k => rw [List.replicate_succ', ← List.append_assoc, List.getLast?_concat]
theorem last_at (o : List Nat) (x : Nat) (h : o.getLast? = some x) : o.length ≠ 0 ∧ o.getD (o.length - 1) 0 = x := by
  rw [List.getLast?_eq_getElem?] at h
  refine ⟨fun e => ?_, ?_⟩
  · rw [List.getElem?_eq_none (by omega)] at h
    cases h
  · rw [List.getD_eq_getElem?_getD, h]
    rfl
/-- One more behind them. -/
theorem Tells.more {b : Bool} {x k : Nat} {l : List Ru} (h : Tells b x l k) (r : Ru) (hr : mayR r = true) (hx : (r.s = 16 ∧ (b = true ∨ k ≠ 0)) ∨ (r.s ≠ 16 ∧ whatF r.s [] = x)) : Tells b x (l ++ [r]) (k + timesF r) := by
  intro o rest hb hk
  rw [List.append_assoc, h o _ hb (by omega)]
  have hw : ¬ (r.s = 16 ∧ (o ++ List.replicate k x).length = 0) ∧ whatF r.s (o ++ List.replicate k x) = x := by
    rcases hx with ⟨h1, h2⟩ | ⟨h1, h2⟩
    · have h3 := last_at _ x (last_rep o k x fun e => hb (h2.resolve_right fun f => f e))
      refine ⟨fun f => h3.1 f.2, ?_⟩
      unfold whatF
      rw [if_pos h1]
      exact h3.2
    · refine ⟨fun f => h1 f.1, ?_⟩
      unfold whatF at h2 ⊢
      rw [if_neg h1] at h2 ⊢
      exact h2
  show unF (r :: rest) _ = _
  rw [unF, if_neg (by rw [hr]; decide), if_neg hw.1, if_neg (by simp; omega), hw.2, List.append_assoc, List.replicate_append_replicate]
theorem Tells.less {x k : Nat} {l : List Ru} {b : Bool} (h : Tells false x l k) : Tells b x l k := fun o rest _ => h o rest (fun e => by cases e)
theorem Tells.append {b : Bool} {x k k' : Nat} {l l' : List Ru} (h : Tells b x l k) (h' : Tells b x l' k') : Tells b x (l ++ l') (k + k') := by
  intro o rest hb hk
  rw [List.append_assoc, h o _ hb (by omega), h' _ _ (fun e => last_rep o k x fun _ => hb e) (by simp; omega), List.append_assoc, List.replicate_append_replicate]
/-- The number itself ahead of symbols that want it there. -/
theorem Tells.first {x k k' : Nat} {l l' : List Ru} (h : Tells false x l k) (hk : k ≠ 0) (h' : Tells true x l' k') : Tells false x (l ++ l') (k + k') := by
  intro o rest hb hk2
  rw [List.append_assoc, h o _ hb (by omega), h' _ _ (fun _ => last_rep o k x fun e => absurd e hk) (by simp; omega), List.append_assoc, List.replicate_append_replicate]

/-- Symbols that repeat, as the program lays them; what is left. -/
def repsF (s : Int) : Nat → Nat → List Ru × Nat
  | 0, t => ([], t)
  | f + 1, t => if leastF s ≤ t then (⟨s, (min (t - leastF s) (mostF s) : Nat)⟩ :: (repsF s f (t - (leastF s + min (t - leastF s) (mostF s)))).1, (repsF s f (t - (leastF s + min (t - leastF s) (mostF s)))).2) else ([], t)
theorem repsF_end (s : Int) (f t : Nat) (h : t < leastF s) : repsF s f t = ([], t) := by
  cases f with
  | zero => rfl
  | succ f => rw [repsF, if_neg (by omega)]
/-- Symbols that repeat: they say x, k times of t0, t of them are left; all may be so few. -/
def Reps (s : Int) (b : Bool) (x t0 : Nat) (l : List Ru) (k t : Nat) : Prop := Tells b x l k ∧ k + t = t0 ∧ l.length * 3 ≤ k ∧ l.length * (leastF s + mostF s) ≤ k + (leastF s + mostF s) ∧ (t ≠ 0 → l.length * (leastF s + mostF s) = k) ∧ ∃ f, t ≤ f ∧ repsF s t0 t0 = (l ++ (repsF s f t).1, (repsF s f t).2)
theorem Reps.start (s : Int) (b : Bool) (x t0 : Nat) : Reps s b x t0 [] 0 t0 := ⟨Tells.none b x, by omega, by simp, by simp, fun _ => by simp, t0, Nat.le_refl _, by simp⟩
theorem Reps.step {s : Int} {b : Bool} {x t0 : Nat} {l : List Ru} {k t m : Nat} (h : Reps s b x t0 l k t) (hs : (s = 16 ∧ b = true) ∨ ((s = 17 ∨ s = 18) ∧ x = 0)) (ht : leastF s ≤ t) (hm : min (t - leastF s) (mostF s) = m) :
    Reps s b x t0 (l ++ [⟨s, m⟩]) (k + (leastF s + m)) (t - (leastF s + m)) := by
  obtain ⟨h1, h2, h3, h4, h5, f, hf, hF⟩ := h
  have hl : 3 ≤ leastF s := by rcases hs with ⟨rfl, _⟩ | ⟨rfl | rfl, _⟩ <;> decide
  have hmay : mayR ⟨s, m⟩ = true := (mayR_iff _).2 ⟨by show 0 ≤ s; omega, by show s ≤ 18; omega, by show (0 : Int) ≤ m; omega, by show (m : Int) ≤ mostF s; omega⟩
  have h6 := h5 (by omega)
  have e : (l.length + 1) * (leastF s + mostF s) = l.length * (leastF s + mostF s) + (leastF s + mostF s) := by rw [Nat.add_mul, Nat.one_mul]
  refine ⟨?_, by omega, by simp; omega, ?_, ?_, ?_⟩
  · refine h1.more ⟨s, m⟩ hmay ?_
    rcases hs with ⟨rfl, hb⟩ | ⟨hs, rfl⟩
    · exact .inl ⟨rfl, .inl hb⟩
    · refine .inr ⟨by show s ≠ 16; omega, ?_⟩
      rcases hs with rfl | rfl <;> rfl
  · rw [List.length_append, List.length_singleton, e]
    omega
  · intro hne
    rw [List.length_append, List.length_singleton, e]
    omega
  · obtain ⟨f', rfl⟩ : ∃ f', f = f' + 1 := ⟨f - 1, by omega⟩
    refine ⟨f', by omega, ?_⟩
    rw [hF, repsF, if_pos ht, hm]
    simp
theorem Reps.done {s : Int} {b : Bool} {x t0 : Nat} {l : List Ru} {k t : Nat} (h : Reps s b x t0 l k t) (ht : t < leastF s) : repsF s t0 t0 = (l, t) := by
  obtain ⟨_, _, _, _, _, f, _, hF⟩ := h
  rw [hF, repsF_end s f t ht]
  simp

/-- What appendSame adds: x, t times; so many symbols at most. -/
def fewF (x t : Nat) : Nat := if x = 0 then 3 + t / 138 else 3 + t / 3
/-- The same, as the program lays it. -/
def sameF (x t : Nat) : List Ru := if x = 0 then (repsF 18 t t).1 ++ (repsF 17 (repsF 18 t t).2 (repsF 18 t t).2).1 ++ List.replicate (repsF 17 (repsF 18 t t).2 (repsF 18 t t).2).2 ⟨0, 0⟩
  else [⟨x, 0⟩] ++ (repsF 16 (t - 1) (t - 1)).1 ++ List.replicate (repsF 16 (t - 1) (t - 1)).2 ⟨x, 0⟩
def Same (x t : Nat) (l : List Ru) : Prop := Tells false x l t ∧ l.length ≤ t ∧ l.length ≤ fewF x t ∧ l = sameF x t
/-- Single symbols, j of them. -/
theorem Tells.single {b : Bool} {x k : Nat} {l : List Ru} (h : Tells b x l k) (hx : x ≤ 15) : Tells b x (l ++ [⟨x, 0⟩]) (k + 1) := by
  have hw : whatF ((x : Nat) : Int) [] = x := by
    unfold whatF
    rw [if_neg (by omega), if_neg (by omega), if_neg (by omega)]
    rfl
  have hl : leastF ((x : Nat) : Int) = 1 := by
    unfold leastF
    rw [if_neg (by omega), if_neg (by omega), if_neg (by omega)]
  have h2 := h.more ⟨x, 0⟩ ((mayR_iff _).2 ⟨by show (0 : Int) ≤ x; omega, by show (x : Int) ≤ 18; omega, by show (0 : Int) ≤ 0; omega, by show (0 : Int) ≤ _; omega⟩) (.inr ⟨by show (x : Int) ≠ 16; omega, hw⟩)
  have e : timesF ⟨x, 0⟩ = 1 := by unfold timesF; rw [show (Ru.mk (x : Nat) 0).s = ((x : Nat) : Int) from rfl, hl]; rfl
  rw [e] at h2
  exact h2
theorem Tells.singles {b : Bool} {x : Nat} (hx : x ≤ 15) : ∀ (j k : Nat) (l : List Ru), Tells b x l k → Tells b x (l ++ List.replicate j ⟨x, 0⟩) (k + j)
  | 0, k, l, h => by simpa using h
  | j + 1, k, l, h => by
    have := Tells.singles hx j (k + 1) _ (h.single hx)
    rw [List.replicate_succ, ← List.singleton_append, ← List.append_assoc, show k + (j + 1) = k + 1 + j from by omega]
    exact this
theorem same_zeros {t0 t1 t2 k1 k2 : Nat} {l1 l2 : List Ru} (h1 : Reps 18 false 0 t0 l1 k1 t1) (g1 : t1 < 11) (h2 : Reps 17 false 0 t1 l2 k2 t2) (g2 : t2 < 3) : Same 0 t0 (l1 ++ l2 ++ List.replicate t2 ⟨0, 0⟩) := by
  have d1 := h1.done g1
  have d2 := h2.done g2
  obtain ⟨a1, a2, a3, a4, a5, _⟩ := h1
  obtain ⟨b1, b2, b3, b4, b5, _⟩ := h2
  have e18 : leastF 18 + mostF 18 = 138 := by decide
  have e17 : leastF 17 + mostF 17 = 10 := by decide
  rw [e18] at a4 a5
  rw [e17] at b4 b5
  have h := Tells.singles (x := 0) (by omega) t2 _ _ (a1.append b1)
  refine ⟨?_, ?_, ?_, by unfold sameF; rw [if_pos rfl, d1, d2]⟩
  · rw [show t0 = k1 + k2 + t2 by omega]
    exact h
  · simp only [List.length_append, List.length_replicate]
    omega
  · unfold fewF
    rw [if_pos rfl]
    simp only [List.length_append, List.length_replicate]
    by_cases hz : t1 = 0
    · omega
    · have := a5 hz
      by_cases hz2 : t2 = 0
      · omega
      · have := b5 hz2
        omega
theorem same_others {x t0 t1 k1 : Nat} {l1 : List Ru} (hx1 : x ≠ 0) (hx : x ≤ 15) (ht : 1 ≤ t0) (h1 : Reps 16 true x (t0 - 1) l1 k1 t1) (g1 : t1 < 3) : Same x t0 ([⟨x, 0⟩] ++ l1 ++ List.replicate t1 ⟨x, 0⟩) := by
  have d1 := h1.done g1
  obtain ⟨a1, a2, a3, a4, a5, _⟩ := h1
  have e16 : leastF 16 + mostF 16 = 6 := by decide
  rw [e16] at a4 a5
  have hf : Tells false x [⟨x, 0⟩] 1 := by simpa using (Tells.none false x).single hx
  have h2 := hf.first (by omega) a1
  have h := Tells.singles (x := x) hx t1 _ _ h2
  refine ⟨?_, ?_, ?_, by unfold sameF; rw [if_neg hx1, d1]⟩
  · rw [show t0 = 1 + k1 + t1 by omega]
    exact h
  · simp only [List.length_append, List.length_replicate, List.length_singleton]
    omega
  · unfold fewF
    rw [if_neg hx1]
    simp only [List.length_append, List.length_replicate, List.length_singleton]
    by_cases hz : t1 = 0
    · omega
    · have := a5 hz
      omega

/-- How many numbers from a place on are the one that stands there. -/
def SameAt (l : List Nat) (a t : Nat) : Prop := 1 ≤ t ∧ a + t ≤ l.length ∧ (∀ i, a ≤ i → i < a + t → l.getD i 0 = l.getD a 0) ∧ (a + t < l.length → l.getD (a + t) 0 ≠ l.getD a 0)
/-- Where numbers from a on stop being the one at a. -/
def runTo (l : List Nat) (a : Nat) : Nat → Nat → Nat
  | 0, e => e
  | f + 1, e => if e < l.length ∧ l.getD e 0 = l.getD a 0 then runTo l a f (e + 1) else e
def runLen (l : List Nat) (a : Nat) : Nat := runTo l a l.length (a + 1) - a
theorem runTo_is {l : List Nat} {a t : Nat} (h : SameAt l a t) : ∀ f e, a + 1 ≤ e → e ≤ a + t → a + t ≤ e + f → runTo l a f e = a + t
  | 0, e, h1, h2, h3 => by rw [runTo]; omega
  | f + 1, e, h1, h2, h3 => by
    rw [runTo]
    rcases Nat.lt_or_ge e (a + t) with h4 | h4
    · rw [if_pos ⟨by have := h.2.1; omega, h.2.2.1 e (by omega) h4⟩]
      exact runTo_is h f (e + 1) (by omega) (by omega) (by omega)
    · obtain rfl : e = a + t := by omega
      rw [if_neg fun q => h.2.2.2 q.1 q.2]
theorem runLen_is {l : List Nat} {a t : Nat} (h : SameAt l a t) : runLen l a = t := by
  unfold runLen
  rw [runTo_is h l.length (a + 1) (Nat.le_refl _) (by have := h.1; omega) (by have := h.2.1; omega)]
  omega
/-- Symbols of a row from a place on, as the program lays them. -/
def packFrom (l : List Nat) : Nat → Nat → List Ru
  | 0, _ => []
  | f + 1, a => if a < l.length then sameF (l.getD a 0) (runLen l a) ++ packFrom l f (a + runLen l a) else []
def packF (l : List Nat) : List Ru := packFrom l l.length 0
/-- Where packing stands. -/
def PackAt (l : List Nat) (a : Nat) (p : List Ru) : Prop := a ≤ l.length ∧ p.length ≤ a ∧ (l.length ≤ 1000 → ∀ rest, unF (p ++ rest) [] = unF rest (l.take a)) ∧
  (∀ x, (∀ i, i < l.length → l.getD i 0 = x) → (a = 0 ∧ p.length = 0) ∨ (a = l.length ∧ p.length ≤ fewF x l.length)) ∧ ∃ f, l.length ≤ a + f ∧ packF l = p ++ packFrom l f a
theorem PackAt.start (l : List Nat) : PackAt l 0 [] := ⟨Nat.zero_le _, Nat.le_refl _, fun _ rest => by simp, fun x _ => .inl ⟨rfl, rfl⟩, l.length, by omega, by simp [packF]⟩
theorem take_same (l : List Nat) (a t : Nat) (h : SameAt l a t) : l.take (a + t) = l.take a ++ List.replicate t (l.getD a 0) := by
  obtain ⟨h1, h2, h3, _⟩ := h
  apply List.ext_getElem
  · simp
    omega
  · intro i g1 g2
    simp at g1
    rw [List.getElem_take]
    rcases Nat.lt_or_ge i a with hi | hi
    · rw [List.getElem_append_left (by simp; omega), List.getElem_take]
    · rw [List.getElem_append_right (by simp; omega), List.getElem_replicate]
      have := h3 i hi (by omega)
      rw [← this]
      simp [List.getD_eq_getElem?_getD, show i < l.length by omega]
theorem PackAt.step {l : List Nat} {a t : Nat} {p q : List Ru} (h : PackAt l a p) (ht : SameAt l a t) (hq : Same (l.getD a 0) t q) : PackAt l (a + t) (p ++ q) := by
  obtain ⟨h1, h2, h3, h4, f, hf, hF⟩ := h
  obtain ⟨q1, q2, q3, q4⟩ := hq
  refine ⟨ht.2.1, by simp; omega, fun hl rest => ?_, fun x hx => .inr ?_, ?_⟩
  · rw [List.append_assoc, h3 hl, q1 _ _ (fun e => by cases e) (by simp; have := ht.2.1; omega), take_same l a t ht]
  · have hax : a < l.length := by have := ht.1; have := ht.2.1; omega
    rcases h4 x hx with ⟨rfl, hp⟩ | ⟨rfl, _⟩
    · have e : l.getD 0 0 = x := hx 0 hax
      have ht2 : 0 + t = l.length := by
        rcases Nat.lt_or_ge (0 + t) l.length with g | g
        · exact absurd (hx (0 + t) g) (by rw [← e]; exact ht.2.2.2 g)
        · have := ht.2.1; omega
      refine ⟨ht2, ?_⟩
      rw [e] at q3
      rw [List.length_append, ← ht2, Nat.zero_add]
      omega
    · omega
  · have ht1 := ht.1
    have ht2 := ht.2.1
    obtain ⟨f', rfl⟩ : ∃ f', f = f' + 1 := ⟨f - 1, by omega⟩
    refine ⟨f', by omega, ?_⟩
    rw [hF, packFrom, if_pos (by omega), runLen_is ht, ← q4, List.append_assoc]
theorem PackAt.is {l : List Nat} {p : List Ru} (h : PackAt l l.length p) : p = packF l := by
  obtain ⟨_, _, _, _, f, _, hF⟩ := h
  rw [hF]
  cases f with
  | zero => simp [packFrom]
  | succ f => rw [packFrom, if_neg (by omega), List.append_nil]
theorem PackAt.done {l : List Nat} {p : List Ru} (h : PackAt l l.length p) (hl : l.length ≤ 1000) : unF p [] = (l, 0) := by
  have := h.2.2.1 hl []
  rw [List.append_nil, unF, List.take_length] at this
  exact this
theorem PackAt.few {l : List Nat} {p : List Ru} {x n : Nat} (h : PackAt l l.length p) (hl : l = List.replicate n x) : p.length ≤ fewF x n := by
  have hn : l.length = n := by rw [hl]; simp
  have hx : ∀ i, i < l.length → l.getD i 0 = x := fun i hi => by
    rw [hl, List.getD_eq_getElem?_getD, List.getElem?_replicate, if_pos (by omega)]
    rfl
  rcases h.2.2.2.1 x hx with ⟨_, h2⟩ | ⟨_, h2⟩
  · omega
  · rw [hn] at h2; exact h2
end Go.Proofs.YtjlkjebmilfgoaaGreat

/- Words on memory for layer 10: slices that read as cells, what is kept below a block, numbers and symbols as cells. -/
namespace Go.Proofs.YtjlkjebmilfgoaaGreat
open Go.RowKit
section
variable {w w' w'' : World} {B C : Nat} {A : Option Addr} {vs : List Value} {S : Nat → Prop}
end

theorem ints_atX (l : List Nat) (i : Nat) (h : i < l.length) : (ints l)[i]? = some (.int .i64 (l.getD i 0 : Nat)) := by simp [ints, h]
theorem ints_z (l : List Nat) : ints l = zints (l.map fun x : Nat => (x : Int)) := by simp [ints, zints]
theorem zints_oneX (l : List Int) : ∀ v ∈ zints l, v.oneCell' = true := by simp [zints, Value.oneCell']
/-- Two cells of a symbol. -/
def ruc (r : Ru) : List Value := [.int .i64 r.s, .int .i64 r.m]
def ruV (r : Ru) : Value := .agg #[.int .i64 r.s, .int .i64 r.m]
def rus (ts : List Ru) : List Value := ts.flatMap ruc
theorem rus_at : ∀ (ts : List Ru) (i : Nat) (t : Ru), ts[i]? = some t → ∀ (j : Nat) (v : Value), (ruc t)[j]? = some v → (rus ts)[i * 2 + j]? = some v
  | [], _, _, h, _, _, _ => by simp at h
  | x :: r, 0, t, h, j, v, hv => by
    obtain rfl : x = t := by simpa using h
    have hj : j < (ruc x).length := by
      rcases Nat.lt_or_ge j (ruc x).length with h1 | h1
      · exact h1
      · rw [List.getElem?_eq_none h1] at hv; cases hv
    simp only [rus, List.flatMap_cons, Nat.zero_mul, Nat.zero_add]
    rw [List.getElem?_append_left hj, hv]
  | x :: r, i + 1, t, h, j, v, hv => by
    have := rus_at r i t (by simpa using h) j v hv
    simp only [rus, List.flatMap_cons] at this ⊢
    rw [List.getElem?_append_right (by simp [ruc]; omega), show (i + 1) * 2 + j - (ruc x).length = i * 2 + j from by simp [ruc]; omega, this]
theorem rus_snoc (ts : List Ru) (t : Ru) : rus ts ++ ruc t = rus (ts ++ [t]) := by simp [rus]
theorem rus_length (ts : List Ru) : (rus ts).length = ts.length * 2 := by
  induction ts with
  | nil => rfl
  | cons x r ih => simp [rus, ruc] at ih ⊢; omega
/-- The cells of one symbol. -/
theorem See.symX {w : World} {B : Nat} {A : Option Addr} {ts : List Ru} (h : See w B A (rus ts)) (i : Nat) (t : Ru) (ht : ts[i]? = some t) : ∃ b off, A = some ⟨b, off, none⟩ ∧ b < B ∧
    w.cell? ⟨b, off + i * 2, none⟩ = some (.int .i64 t.s) ∧ w.cell? ⟨b, off + i * 2 + 1, none⟩ = some (.int .i64 t.m) := by
  obtain ⟨b, off, rfl, hb, c0⟩ := h _ _ (rus_at ts i t ht 0 _ rfl)
  obtain ⟨b1, off1, e1, _, c1⟩ := h _ _ (rus_at ts i t ht 1 _ rfl)
  simp only [Option.some.injEq, Addr.mk.injEq, and_true] at e1
  obtain ⟨rfl, rfl⟩ := e1
  exact ⟨b, off, rfl, hb, c0, by rw [Nat.add_assoc]; exact c1⟩
theorem info36 : (Tryz.prog.info? 105).map (fun i => (i.zero, i.size, i.bytes)) = some (some (.agg #[.int .i64 0, .int .i64 0]), 2, 16) := by kernel_rfl
theorem zero36 : (Value.agg #[.int .i64 0, .int .i64 0]).cells.size = 2 := by simp [Value.cells]
theorem Src.oneRu (w : World) (s m : Int) (c : Nat) (t : TypeId) : Src Tryz.prog 2 73 (.slice (some ⟨w.heap.size, 0, none⟩) 1 c) 1 [.int .i64 s, .int .i64 m] (w.alloc (.cells #[.int .i64 s, .int .i64 m] t)) := by
  refine Src.ofSlice _ Tryz.underlying73 _ 1 c _ rfl (fun j u hu => ?_) (by simp [Value.oneCell'])
  have h := Is.new w t [.int .i64 s, .int .i64 m]
  rw [Addr.add_lit, Nat.zero_add]
  exact h.cell j hu
/-- A row of numbers as what append takes. -/
theorem Src.ofMade {w0 w : World} {g n c : Nat} {l : List Nat} (h : Made 3 w0 (some ⟨g, 0, none⟩) n c (ints l) w) : Src Tryz.prog 1 44 (.slice (some ⟨g, 0, none⟩) n c) n (ints l) w := by
  refine Src.ofSlice _ Tryz.underlying44 _ n c _ (by rw [Nat.mul_one]; exact h.1.1) (fun j u hu => ?_) (ints_one l)
  obtain ⟨g', e1, e2, _⟩ := h.1.cell hu
  obtain rfl : g' = g := by simpa using e1.symm
  rw [Addr.add_lit, Nat.zero_add]
  exact e2
theorem Made.nil (e : TypeId) (w : World) : Made e w none 0 0 [] w := ⟨Row.nil e w, Only.refl _ w, by rintro j ⟨ad, e, _⟩; cases e⟩
end Go.Proofs.YtjlkjebmilfgoaaGreat

/- Rows of structs of the call's own, and append onto such a row (over any program). -/
namespace Go.Proofs.YtjlkjebmilfgoaaGreat
open Go.RowKit

section
variable {S : Nat → Prop} {e : TypeId} {sz : Nat} {w w' : World} {A : Option Addr} {n c : Nat} {vs : List Value}
end
end Go.Proofs.YtjlkjebmilfgoaaGreat

/- Layer 10: the bits behind a symbol, by the program and by the document; the least and the most that a symbol says; whether it may be. -/
namespace Go.Proofs.YtjlkjebmilfgoaaGreat
open Go.RowKit

theorem runBits (s : Int) (w : World) : Calls Tryz.prog 59 #[.int .i64 s] w fun e w' => e = .returned (.int .i64 (bitsF s)) ∧ w = w' := by
  unfold bitsF
  by_cases h1 : s = 16
  · subst h1
    go_enter Tryz.func59, Tryz.ntmps59
    go_wp2
    go_ret
    exact ⟨rfl, rfl⟩
  · by_cases h2 : s = 17
    · subst h2
      go_enter Tryz.func59, Tryz.ntmps59
      go_wp2
      go_ret
      exact ⟨rfl, rfl⟩
    · by_cases h3 : s = 18
      · subst h3
        go_enter Tryz.func59, Tryz.ntmps59
        go_wp2
        go_ret
        exact ⟨rfl, rfl⟩
      · rw [if_neg h1, if_neg h2, if_neg h3]
        go_enter Tryz.func59, Tryz.ntmps59
        go_wp2
        go_ret
        exact ⟨rfl, rfl⟩
theorem leastOf_ (s : Int) (w : World) : Calls Tryz.prog 128 #[.int .i64 s] w fun e w' => e = .returned (.int .i64 (leastF s)) ∧ w = w' := by
  unfold leastF
  by_cases h1 : s = 16
  · subst h1
    go_enter Tryz.func128, Tryz.ntmps128
    go_wp2
    go_ret
    exact ⟨rfl, rfl⟩
  · by_cases h2 : s = 17
    · subst h2
      go_enter Tryz.func128, Tryz.ntmps128
      go_wp2
      go_ret
      exact ⟨rfl, rfl⟩
    · by_cases h3 : s = 18
      · subst h3
        go_enter Tryz.func128, Tryz.ntmps128
        go_wp2
        go_ret
        exact ⟨rfl, rfl⟩
      · rw [if_neg h1, if_neg h2, if_neg h3]
        go_enter Tryz.func128, Tryz.ntmps128
        go_wp2
        go_ret
        exact ⟨rfl, rfl⟩
theorem mostMore (s : Int) (w : World) : Calls Tryz.prog 129 #[.int .i64 s] w fun e w' => e = .returned (.int .i64 (mostF s)) ∧ w = w' := by
  have hb : mostF s ≤ 127 := most_le s
  have h7 := bits_le s
  have e := bits_most s
  obtain ⟨m, hm⟩ : ∃ m, mostF s = m := ⟨_, rfl⟩
  obtain ⟨b, hb2⟩ : ∃ b, bitsF s = b := ⟨_, rfl⟩
  have HB := Lib.hid hb2
  rw [hb2] at e h7
  rw [hm] at e hb ⊢
  clear hm hb2
  have e2 : ((2 ^ b : Nat) : Int) = (m : Int) + 1 := by omega
  have e3 : (2 : Int) ^ b = (m : Int) + 1 := by rw [← e2]; exact (Int.natCast_pow 2 b).symm
  clear e e2
  go_enter Tryz.func129, Tryz.ntmps129
  go_wp2_with (go_at_call 59; refine (runBits s _).mono ?_; rintro e w1 ⟨rfl, rfl⟩; rw [HB.out])
  go_ret
  exact ⟨rfl, rfl⟩
theorem isSym (s : Int) (w : World) : Calls Tryz.prog 82 #[.int .i64 s] w fun e w' => e = .returned (.bool (decide (0 ≤ s) && decide (s ≤ 18))) ∧ w = w' := by
  by_cases h1 : 0 ≤ s
  · by_cases h2 : s ≤ 18
    · rw [decide_eq_true h1, decide_eq_true h2]
      go_enter Tryz.func82, Tryz.ntmps82
      go_wp2
      go_ret
      exact ⟨rfl, rfl⟩
    · rw [decide_eq_true h1, decide_eq_false h2]
      go_enter Tryz.func82, Tryz.ntmps82
      go_wp2
      go_ret
      exact ⟨rfl, rfl⟩
  · rw [decide_eq_false h1]
    go_enter Tryz.func82, Tryz.ntmps82
    go_wp2
    go_ret
    exact ⟨rfl, rfl⟩
/-- A number that may stand in a row. -/
def okN (x : Int) : Prop := 0 ≤ x ∧ x ≤ 15
theorem noNumber (x : Int) (w : World) : Calls Tryz.prog 78 #[.int .i64 x] w fun e w' => e = .returned (.bool (decide (x < 0) || decide (15 < x))) ∧ w = w' := by
  by_cases h1 : x < 0
  · rw [decide_eq_true h1]
    go_enter Tryz.func78, Tryz.ntmps78
    go_wp2
    go_ret
    exact ⟨rfl, rfl⟩
  · by_cases h2 : 15 < x
    · rw [decide_eq_false h1, decide_eq_true h2]
      go_enter Tryz.func78, Tryz.ntmps78
      go_wp2
      go_ret
      exact ⟨rfl, rfl⟩
    · rw [decide_eq_false h1, decide_eq_false h2]
      go_enter Tryz.func78, Tryz.ntmps78
      go_wp2
      go_ret
      exact ⟨rfl, rfl⟩
end Go.Proofs.YtjlkjebmilfgoaaGreat
