/- Layer 8, the program: what is said, and copies of it. -/
import Derived.Test.YtjlkjebmilfgoaaGreatM7
import Derived.Test.YtjlkjebmilfgoaaGreatM8
import Derived.Test.YtjlkjebmilfgoaaGreatM9
import Derived.Test.YtjlkjebmilfgoaaGreatKOT
import Derived.Test.YtjlkjebmilfgoaaGreatRTree
/- Layer 8, the program: numbers of the stream's reader; whether there is room. -/
namespace Go.Proofs.YtjlkjebmilfgoaaGreat
open Go.RowKit

theorem nm_of (s : ByteArray) (a n : Nat) : le s.data.toList / 2 ^ a % 2 ^ n = nm (bitsOf s.data.toList) a n := by unfold nm; rw [le2_bitsOf]

def mAbove (B : List UInt8) (a x v : Nat) : Nat × Nat × Nat := if B.length < a + v then (3, a, 0) else (0, a + v, x + nm B a v)

end Go.Proofs.YtjlkjebmilfgoaaGreat

/- Layer 8, the program: the stream in memory; whether there is room; a byte said. -/
namespace Go.Proofs.YtjlkjebmilfgoaaGreat
open Go.RowKit

/-- What the stream turns. -/
def Mine (b d : Nat) (A : Option Addr) (j : Nat) : Prop := j = b ∨ j = d ∨ Lies A j

section
variable {w w' wx w2 : World} {b d : Nat} {most : Int} {A A2 : Option Addr} {n c c2 m : Nat} {kv p1 p2 : Value} {out r : List UInt8} {S : Nat → Prop}
end

def RoomPost (w : World) (q : Bool) (e : Ending) (w' : World) : Prop := e = .returned (.bool q) ∧ ∃ k, w' = w.drewN k

def mOne (most : Int) (a : Nat) (y : UInt8) (out : List UInt8) : Ans := if most < out.length + 1 then (7, a, out) else (0, a, out ++ [y])

end Go.Proofs.YtjlkjebmilfgoaaGreat

/- A symbol that is read takes a bit at least, and is one of the code's. -/
namespace Go.Proofs.YtjlkjebmilfgoaaGreat

theorem scan_step (l : List Nat) (b : List UInt8) (f K n p : Nat) : scan l b (f + 1) K n p = if b.length ≤ p then (0, p, 3) else if 2 * n + bt b p < fi l K + cn l K then (sy l (st l K + (2 * n + bt b p - fi l K)), p + 1, 0) else scan l b f (K + 1) (2 * n + bt b p) (p + 1) := rfl
theorem scan_moves (l : List Nat) (b : List UInt8) : ∀ (f K n p : Nat), (scan l b f K n p).2.2 = 0 → p < (scan l b f K n p).2.1 ∧ (scan l b f K n p).2.1 ≤ b.length
  | 0, K, n, p, h => by simp [scan] at h
  | f + 1, K, n, p, h => by
    rw [scan_step] at h ⊢
    by_cases h1 : b.length ≤ p
    · rw [if_pos h1] at h
      simp at h
    · rw [if_neg h1] at h ⊢
      by_cases h2 : 2 * n + bt b p < fi l K + cn l K
      · rw [if_pos h2]
        exact ⟨Nat.lt_succ_self _, by simp; omega⟩
      · rw [if_neg h2] at h ⊢
        have := scan_moves l b f (K + 1) (2 * n + bt b p) (p + 1) h
        omega
theorem sy_lt (l : List Nat) (p : Nat) : sy l p < l.length ∨ sy l p = 0 := by
  unfold sy
  cases h : (List.range l.length).find? fun s => decide (0 < ln l s) && decide (ps l s = p) with
  | none => exact .inr rfl
  | some x => exact .inl (by simpa using List.mem_of_find?_eq_some h)
theorem scan_symbol (l : List Nat) (b : List UInt8) : ∀ (f K n p : Nat), (scan l b f K n p).1 < l.length ∨ (scan l b f K n p).1 = 0
  | 0, K, n, p => .inr (by simp [scan])
  | f + 1, K, n, p => by
    rw [scan_step]
    split
    · exact .inr rfl
    · split
      · exact sy_lt _ _
      · exact scan_symbol l b f _ _ _
theorem rdp_moves (l : List Nat) (b : List UInt8) (a : Nat) (h : (rdp l b a).2.2 = 0) : a < (rdp l b a).2.1 ∧ (rdp l b a).2.1 ≤ b.length := scan_moves l b _ _ _ _ h
theorem rdp_symbol (l : List Nat) (b : List UInt8) (a : Nat) (h : l.length ≤ 288) : (rdp l b a).1 < 288 := by
  rcases scan_symbol l b (lg l) 1 0 a with h1 | h1
  · exact Nat.lt_of_lt_of_le h1 h
  · show (scan l b (lg l) 1 0 a).1 < 288
    omega
/-- The error of a symbol is one that the walk tells. -/
theorem scan_err (l : List Nat) (b : List UInt8) : ∀ (f K n p : Nat), (scan l b f K n p).2.2 ≤ 10
  | 0, K, n, p => by simp [scan]
  | f + 1, K, n, p => by
    rw [scan_step]
    split
    · simp
    · split
      · simp
      · exact scan_err l b f _ _ _
theorem rdp_err (l : List Nat) (b : List UInt8) (a : Nat) : (rdp l b a).2.2 ≤ 10 := scan_err l b _ _ _ _

theorem mLen_ok (B : List UInt8) (s a : Nat) (h : (mLen B s a).1 = 0) : a ≤ (mLen B s a).2.1 ∧ (mLen B s a).2.1 ≤ B.length ∧ s ≤ 285 ∧ (mLen B s a).2.2 = lv s + nm B a (lw s) := by
  unfold mLen at h ⊢
  split at h
  · cases h
  · split at h
    · cases h
    · rename_i h1 h2
      rw [if_neg h1, if_neg h2]
      exact ⟨Nat.le_add_right _ _, by simp; omega, by omega, rfl⟩
theorem mDist_ok (B : List UInt8) (l : List Nat) (a : Nat) (h : (mDist B l a).1 = 0) : a ≤ (mDist B l a).2.1 ∧ (mDist B l a).2.1 ≤ B.length ∧ 1 ≤ (mDist B l a).2.2 ∧ (mDist B l a).2.2 ≤ 40000 := by
  unfold mDist at h ⊢
  split at h
  · rename_i h1
    exact absurd h h1
  · rename_i h1
    have hm := rdp_moves l B a (by omega)
    split at h
    · cases h
    · rename_i h2
      split at h
      · cases h
      · rename_i h3
        rw [if_neg h1, if_neg h2, if_neg h3]
        have ht : (rdp l B a).1 < 30 := by omega
        generalize (rdp l B a).1 = y at h3 ht ⊢
        generalize (rdp l B a).2.1 = a2 at h3 hm ⊢
        have hy := nm_lt B a2 (db y)
        have hd : ∀ s : Fin 30, 1 ≤ df s.val ∧ df s.val + 2 ^ db s.val ≤ 32769 := by decide +kernel
        have := hd ⟨y, ht⟩
        simp only at this ⊢
        omega
theorem mBack_ok (B : List UInt8) (l : List Nat) (most : Int) (s a : Nat) (out : List UInt8) (h : (mBack B l most s a out).1 = 0) :
    a ≤ (mBack B l most s a out).2.1 ∧ (mBack B l most s a out).2.1 ≤ B.length ∧ ((mBack B l most s a out).2.2.length : Int) ≤ most := by
  unfold mBack at h ⊢
  split at h
  · rename_i h1; exact absurd h h1
  · rename_i h1
    split at h
    · rename_i h2; exact absurd h h2
    · rename_i h2
      split at h
      · cases h
      · rename_i h3
        split at h
        · cases h
        · rename_i h4
          rw [if_neg h1, if_neg h2, if_neg h3, if_neg h4]
          have q1 := mLen_ok B s a (by omega)
          have q2 := mDist_ok B l (mLen B s a).2.1 (by omega)
          refine ⟨Nat.le_trans q1.1 q2.1, q2.2.1, ?_⟩
          simp only [copyF_length]
          omega
end Go.Proofs.YtjlkjebmilfgoaaGreat

/- Layer 8, the program: bytes said once more. -/
namespace Go.Proofs.YtjlkjebmilfgoaaGreat
open Go.RowKit

theorem step_append_row {P : Program} {k : IntKind} {B : Nat} {w : World} {ops : Array Oper} {o : Oper} {a : Act} {K : Act → World → Prop} {Q : Exit → Act → World → Prop} {E : Prop} (hgd : o.guard = none) (s x : Operand) (t tx e : TypeId)
    (ho : o.op = .call { callee := .builtin .append, args := #[s, x], argTypes := #[t, tx] }) (ht : P.underlying t = some (.slice e))
    (hi : (P.info? e).map (fun i => (i.zero, i.size, i.bytes)) = some (some (.int k 0), 1, B)) (A : Option Addr) (n c m : Nat) (l r : List Value) (y : Value) (hsv : a.eval s = .slice A n c) (hxv : a.eval x = y)
    (h : Row e w A n c l) (hr : r.length = m) (hs : Src P 1 tx y m r w) (hB : B ≤ 8) (hb : n + m ≤ 1099511627776)
    (hk : ∀ A' c' w', Row e w' A' (n + m) c' (l ++ r) → Only (Lies A) w w' → (A' = A ∨ A' = some ⟨w.heap.size, 0, none⟩) → K (a.put o.dst (.slice A' (n + m) c')) w') :
    if Region.wanted o (yielded ops a.tmps) = true then Oper.wp P o a w K Q else E := by
  have hw : Region.wanted o (yielded ops a.tmps) = true := by simp [Region.wanted, hgd]
  rw [if_pos hw]
  obtain ⟨A', c', w', hrun, h2, h3, h4⟩ := run_append_row (ty := o.type) ht hi h hr hs hB hb
  unfold Oper.wp execOp
  simp only [ho, resolve, invoke, builtin, Sem.run_bind, Sem.run_pure, Result.andThen_ok, List.map_toArray, List.map_cons, List.map_nil, hsv, hxv, hrun]
  exact hk A' c' w' h2 h3 h4

end Go.Proofs.YtjlkjebmilfgoaaGreat
