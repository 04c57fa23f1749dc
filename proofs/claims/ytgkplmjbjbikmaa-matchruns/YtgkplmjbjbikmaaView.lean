/- Words on memory for layer 9: slices that read as cells, what is kept below a block, bytes as text. -/
import Derived.Test.YtgkplmjbjbikmaaBase
import Derived.Test.YtgkplmjbjbikmaaMMath
import Derived.Test.YtgkplmjbjbikmaaChecked
import Derived.Below
import Derived.ChangeSlices
import Derived.Deep.LoopGhost
import Derived.Deep.RegionLaw
import Derived.Deep.RegionHeld3
import Derived.BigRegion
import Derived.BigQuiet
import Derived.Deep.MidRow
import Derived.Laws.Rows
import Derived.Laws.Tables
import Derived.Deep.DeepCutAuto
namespace Go.Proofs.Ytgkplmjbjbikmaa
open Go.RowKit
/-- The slice at A reads as the cells vs, below block B. -/
def See (w : World) (B : Nat) (A : Option Addr) (vs : List Value) : Prop :=
  ∀ (i : Nat) (v : Value), vs[i]? = some v → ∃ b off, A = some ⟨b, off, none⟩ ∧ b < B ∧ w.cell? ⟨b, off + i, none⟩ = some v
/-- Nothing below B has turned. -/
def Keep (B : Nat) (w w' : World) : Prop := Only (fun j => B ≤ j) w w'

section
variable {w w' w'' : World} {B C : Nat} {A : Option Addr} {vs : List Value} {S : Nat → Prop}
theorem Only.keep (h : Only S w w') (B : Nat) (hS : ∀ j, S j → B ≤ j) : Keep B w w' := h.mono hS
theorem Only.keep0 (h : Only (fun _ => False) w w') (B : Nat) : Keep B w w' := h.mono fun _ f => f.elim
theorem Keep.refl (B : Nat) (w : World) : Keep B w w := Only.refl _ w
theorem Keep.trans (h : Keep B w w') (k : Keep B w' w'') : Keep B w w'' := Only.trans h k
theorem Keep.less (h : Keep C w w') (hB : B ≤ C) : Keep B w w' := Only.mono h fun _ hj => Nat.le_trans hB hj
theorem Keep.below (h : Keep B w w') (hB : B ≤ w.heap.size) : Below B w w' := Only.below h B hB fun _ hk hs => by omega
theorem cell_lt {a : Addr} {v : Value} (h : w.cell? a = some v) : a.block < w.heap.size := by
  rcases Nat.lt_or_ge a.block w.heap.size with hlt | hge
  · exact hlt
  · simp [World.cell?, Array.getElem?_eq_none hge] at h
theorem See.keep (h : See w B A vs) (k : Keep B w w') : See w' B A vs := by
  intro i v hv
  obtain ⟨b, off, hA, hb, hc⟩ := h i v hv
  exact ⟨b, off, hA, hb, (World.cell?_of_block (Only.block k b (cell_lt hc) (by omega))).trans hc⟩
theorem See.new (h : See w B A vs) (k : Only (fun _ => False) w w') : See w' B A vs := h.keep (k.keep0 B)
theorem See.more (h : See w B A vs) (hB : B ≤ C) : See w C A vs := fun i v hv => by
  obtain ⟨b, off, hA, hb, hc⟩ := h i v hv
  exact ⟨b, off, hA, by omega, hc⟩
theorem Row.see {e : TypeId} {n c : Nat} (h : Row e w A n c vs) : See w w.heap.size A vs := by
  intro i v hv
  obtain ⟨g, hA, hc, _⟩ := h.cell hv
  exact ⟨g, 0, hA, cell_lt hc, by rw [Nat.zero_add]; exact hc⟩
theorem Made.see {e : TypeId} {n c : Nat} (h : Made e w A n c vs w') : See w' w'.heap.size A vs := h.1.see
theorem Is.see {g : Nat} {t : TypeId} (h : Is w g t vs) : See w w.heap.size (some ⟨g, 0, none⟩) vs := by
  intro i v hv
  exact ⟨g, 0, rfl, h.lt, by rw [Nat.zero_add]; exact h.cell i hv⟩
end

theorem made_is {e : TypeId} {w wx : World} {n : Nat} {vs : List Value} (h : Is wx w.heap.size e vs) (o : Only (fun _ => False) w wx) (hn : vs.length = n) (hm : n ≤ maxLen) : Made e w (some ⟨w.heap.size, 0, none⟩) n n vs wx :=
  ⟨Row.of_is h hn hm, o, by rintro j ⟨ad, e, rfl⟩; obtain rfl := Option.some.inj e; exact Nat.le_refl _⟩
theorem Is.new2 (w : World) (o : Obj) (t : TypeId) (cs : List Value) : Is ((w.alloc o).alloc (.cells cs.toArray t)) (w.heap.size + 1) t cs := by
  have h := Is.new (w.alloc o) t cs
  have e : (w.alloc o).heap.size = w.heap.size + 1 := by simp
  rw [e] at h
  exact h
/-- Bytes as cells. -/
def bcells (l : List UInt8) : List Value := l.map fun b => .int .u8 b.toNat
theorem bcells_length (l : List UInt8) : (bcells l).length = l.length := List.length_map ..
theorem bcells_snoc (l : List UInt8) (x : UInt8) : bcells l ++ [.int .u8 (x.toNat : Nat)] = bcells (l ++ [x]) := by simp [bcells]
theorem bcells_at (l : List UInt8) (i : Nat) (h : i < l.length) : (bcells l)[i]? = some (.int .u8 ((l.getD i 0).toNat : Nat)) := by simp [bcells, h]
/-- Three cells of a token. -/
def tkc (t : Tk) : List Value := [.int .u8 t.b.toNat, .int .i64 t.n, .int .i64 t.k]
def tkV (t : Tk) : Value := .agg #[.int .u8 t.b.toNat, .int .i64 t.n, .int .i64 t.k]
theorem info5 : (Try.prog.info? 5).map (fun i => (i.zero, i.size, i.bytes)) = some (some (.int .u8 0), 1, 1) := by kernel_rfl
end Go.Proofs.Ytgkplmjbjbikmaa
