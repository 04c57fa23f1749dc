/- Layer 8, the program: a block, and a stream of blocks. -/
import Derived.Test.YtjlkjebmilfgoaaGreatBound
import Derived.Test.YtjlkjebmilfgoaaGreatFixC
/- Layer 8, the program: what stands behind a block's kind. -/
namespace Go.Proofs.YtjlkjebmilfgoaaGreat
open Go.RowKit

/-- The codes of kind 1 are not made yet, or stand apart from what the stream turns, and from Z. -/
def Fx (w : World) (b d : Nat) (A : Option Addr) (Z : Nat → Prop) (p1 p2 : Value) : Prop := (p1 = .pointer none ∧ p2 = .pointer none) ∨
  ∃ T1 T2 lo hi, p1 = .pointer (some ⟨T1, 0, none⟩) ∧ p2 = .pointer (some ⟨T2, 0, none⟩) ∧ Cods w lo hi T1 T2 fixA fixB ∧ b < lo ∧ ∀ j, lo ≤ j → j ≤ hi → ¬ Mine b d A j ∧ ¬ Z j
theorem Fx.keep {w w' : World} {b d : Nat} {A A' : Option Addr} {Z : Nat → Prop} {p1 p2 : Value} (h : Fx w b d A Z p1 p2) (k : Only (Mine b d A) w w') (hl : ∀ j, Lies A' j → Lies A j ∨ w.heap.size ≤ j) : Fx w' b d A' Z p1 p2 := by
  rcases h with h | ⟨T1, T2, lo, hi, e1, e2, hc, hb, hf⟩
  · exact .inl h
  · refine .inr ⟨T1, T2, lo, hi, e1, e2, hc.keep k (fun j a b => (hf j a b).1), hb, fun j h1 h2 => ⟨?_, (hf j h1 h2).2⟩⟩
    have := hc.hh
    rintro (e | e | e)
    · exact (hf j h1 h2).1 (.inl e)
    · exact (hf j h1 h2).1 (.inr (.inl e))
    · exact (hl j e).elim (fun x => (hf j h1 h2).1 (.inr (.inr x))) (fun x => by omega)

end Go.Proofs.YtjlkjebmilfgoaaGreat

/- Layer 8, the program: a stream, read up to its end. -/
namespace Go.Proofs.YtjlkjebmilfgoaaGreat
open Go.RowKit

section
variable {w wx wy : World} {b d : Nat} {s : ByteArray} {most : Int} {a n c nk ck : Nat} {A Ak : Option Addr} {p1 p2 : Value} {out : List UInt8} {ks : List Nat}
end

end Go.Proofs.YtjlkjebmilfgoaaGreat

/- Layer 8, the program: Stream, All and Blocks. -/
namespace Go.Proofs.YtjlkjebmilfgoaaGreat
open Go.RowKit

theorem Row.text5 {w : World} {A : Option Addr} {n c : Nat} {l : List UInt8} (h : Row 5 w A n c (bcells l)) (hl : l.length = n) : (convert 34 9 (.slice A n c)).run Tryz.prog w = .ok (.string ⟨l.toArray⟩) w := by
  have hc := fun i v hv => h.cell (i := i) (v := v) hv
  obtain ⟨h1, ⟨rfl, rfl, rfl, hv⟩ | ⟨g, cur, m, rfl, h2, _⟩⟩ := h
  · obtain rfl : l = [] := by simpa [bcells] using hv
    rw [run_convert_bytes_nil w 34 5 Tryz.underlying34 Tryz.underlying5 0 0 9 Tryz.underlying9]
    rfl
  · have hcc : ∀ i, i < n → w.cell? ⟨g, 0 + i, none⟩ = some (.int .u8 ((l.map fun b => (b.toNat : Int)).getD i 0)) := by
      intro i hi
      obtain ⟨g', e1, e2, _⟩ := hc i _ (bcells_at l i (by omega))
      obtain rfl : g = g' := by simpa using e1
      have hl2 : i < l.length := by omega
      rw [Nat.zero_add, e2]
      simp [hl2]
    rw [run_convert_bytes_arg w 34 5 Tryz.underlying34 Tryz.underlying5 g 0 n c (l.map fun b => (b.toNat : Int)) (by simpa using hl) hcc 9 Tryz.underlying9]
    have e : strOfNums (l.map fun b => (b.toNat : Int)) = ⟨l.toArray⟩ := by simp [strOfNums, Function.comp_def]
    rw [e]

/-- What a stream says, how many bytes it takes. -/
def mText (r : Nat × Nat × List UInt8 × List Nat) : ByteArray := if r.1 ≠ 0 then ByteArray.empty else ⟨r.2.2.1.toArray⟩
def mTaken (r : Nat × Nat × List UInt8 × List Nat) : Nat := if r.1 ≠ 0 then 0 else (r.2.1 + 7) / 8
def mKinds (r : Nat × Nat × List UInt8 × List Nat) : List Nat := if r.1 ≠ 0 then [] else r.2.2.2

def StreamPost (w : World) (r : Nat × Nat × List UInt8 × List Nat) (e : Ending) (w' : World) : Prop := e = .returned (.tuple #[.string (mText r), .int .i64 (mTaken r : Nat), .int .i64 r.1]) ∧ Only (fun _ => False) w w'

/-- A stream ends within its bits. -/
theorem mStr_ok (B : List UInt8) (most : Int) (M : Nat) (hM : most ≤ M) : ∀ (f a : Nat) (out : List UInt8) (ks : List Nat), a ≤ B.length → out.length ≤ M → (mStr B most f a out ks).1 = 0 → (mStr B most f a out ks).2.1 ≤ B.length ∧ (mStr B most f a out ks).2.2.1.length ≤ M ∧ (mStr B most f a out ks).2.2.2.length ≤ ks.length + f
  | 0, a, out, ks, _, _, h => by cases h
  | f + 1, a, out, ks, ha, ho, h => by
    rw [mStr_step] at h ⊢
    by_cases h1 : B.length < a + 3
    · rw [if_pos h1] at h; cases h
    · rw [if_neg h1] at h ⊢
      have hb := mBlock_ok B most M (nm B (a + 1) 2) (a + 3) out hM (by omega) ho
      by_cases h2 : (mBlock B most (nm B (a + 1) 2) (a + 3) out).1 ≠ 0
      · rw [if_pos h2] at h; exact absurd h h2
      · rw [if_neg h2] at h ⊢
        have hb := hb (by omega)
        by_cases h3 : nm B a 1 = 1
        · rw [if_pos h3]
          exact ⟨hb.2.1, hb.2.2, by simp⟩
        · rw [if_neg h3] at h ⊢
          have := mStr_ok B most M hM f _ _ (ks ++ [nm B (a + 1) 2]) hb.2.1 hb.2.2 h
          rw [List.length_append] at this
          simp at this
          exact ⟨this.1, this.2.1, by omega⟩
theorem mStream_ok (B : List UInt8) (most : Int) (M : Nat) (hM : most ≤ M) (h : (mStream B most).1 = 0) : (mStream B most).2.1 ≤ B.length ∧ (mStream B most).2.2.1.length ≤ M ∧ (mStream B most).2.2.2.length ≤ B.length + 1 := by
  have := mStr_ok B most M hM (B.length + 1) 0 [] [] (Nat.zero_le _) (Nat.zero_le _) h
  simpa [mStream] using this

def KindsPost (w : World) (r : Nat × Nat × List UInt8 × List Nat) (e : Ending) (w' : World) : Prop := ∃ A c, e = .returned (.tuple #[.slice A (mKinds r).length c, .int .i64 r.1]) ∧ See w' w'.heap.size A (ints (mKinds r)) ∧ Only (fun _ => False) w w'
/-- What All comes to. -/
def mAll (z : Nat) (r : Nat × Nat × List UInt8 × List Nat) : ByteArray × Nat := if r.1 ≠ 0 then (ByteArray.empty, r.1) else if mTaken r < z then (ByteArray.empty, 2) else (mText r, 0)
def AllPost (w : World) (q : ByteArray × Nat) (e : Ending) (w' : World) : Prop := e = .returned (.tuple #[.string q.1, .int .i64 q.2]) ∧ Only (fun _ => False) w w'
end Go.Proofs.YtjlkjebmilfgoaaGreat
