/- Words on memory for layer 10: slices that read as cells, what is kept below a block, numbers and symbols as cells. -/
import Derived.Test.YtlhffflemajlfaaBase
import Derived.Test.YtlhffflemajlfaaMMath
import Derived.Test.YtlhffflemajlfaaChecked
import Derived.Below
import Derived.ChangeSlices
import Derived.Deep.LoopGhost
import Derived.Deep.RegionLaw
import Derived.Deep.RegionHeld3
import Derived.BigRegion
import Derived.BigQuiet
import Derived.Deep.MidRow
import Derived.Laws.Rows
import Derived.Laws.Tables
import Derived.Deep.DeepCutAuto
namespace Go.Proofs.Ytlhffflemajlfaa
open Go.RowKit
/-- The slice at A reads as the cells vs, below block B. -/
def See (w : World) (B : Nat) (A : Option Addr) (vs : List Value) : Prop :=
  ∀ (i : Nat) (v : Value), vs[i]? = some v → ∃ b off, A = some ⟨b, off, none⟩ ∧ b < B ∧ w.cell? ⟨b, off + i, none⟩ = some v
/-- Nothing below B has turned. -/
def Keep (B : Nat) (w w' : World) : Prop := Only (fun j => B ≤ j) w w'

section
variable {w w' w'' : World} {B C : Nat} {A : Option Addr} {vs : List Value} {S : Nat → Prop}
theorem Only.keep (h : Only S w w') (B : Nat) (hS : ∀ j, S j → B ≤ j) : Keep B w w' := h.mono hS
theorem Only.keep0 (h : Only (fun _ => False) w w') (B : Nat) : Keep B w w' := h.mono fun _ f => f.elim
theorem Keep.refl (B : Nat) (w : World) : Keep B w w := Only.refl _ w
theorem Keep.trans (h : Keep B w w') (k : Keep B w' w'') : Keep B w w'' := Only.trans h k
theorem Keep.less (h : Keep C w w') (hB : B ≤ C) : Keep B w w' := Only.mono h fun _ hj => Nat.le_trans hB hj
theorem Keep.below (h : Keep B w w') (hB : B ≤ w.heap.size) : Below B w w' := Only.below h B hB fun _ hk hs => by omega
theorem cell_lt {a : Addr} {v : Value} (h : w.cell? a = some v) : a.block < w.heap.size := by
  rcases Nat.lt_or_ge a.block w.heap.size with hlt | hge
  · exact hlt
  · simp [World.cell?, Array.getElem?_eq_none hge] at h
theorem See.keep (h : See w B A vs) (k : Keep B w w') : See w' B A vs := by
  intro i v hv
  obtain ⟨b, off, hA, hb, hc⟩ := h i v hv
  exact ⟨b, off, hA, hb, (World.cell?_of_block (Only.block k b (cell_lt hc) (by omega))).trans hc⟩
theorem See.new (h : See w B A vs) (k : Only (fun _ => False) w w') : See w' B A vs := h.keep (k.keep0 B)
theorem See.more (h : See w B A vs) (hB : B ≤ C) : See w C A vs := fun i v hv => by
  obtain ⟨b, off, hA, hb, hc⟩ := h i v hv
  exact ⟨b, off, hA, by omega, hc⟩
theorem Row.see {e : TypeId} {n c : Nat} (h : Row e w A n c vs) : See w w.heap.size A vs := by
  intro i v hv
  obtain ⟨g, hA, hc, _⟩ := h.cell hv
  exact ⟨g, 0, hA, cell_lt hc, by rw [Nat.zero_add]; exact hc⟩
theorem Made.see {e : TypeId} {n c : Nat} (h : Made e w A n c vs w') : See w' w'.heap.size A vs := h.1.see
theorem Is.see {g : Nat} {t : TypeId} (h : Is w g t vs) : See w w.heap.size (some ⟨g, 0, none⟩) vs := by
  intro i v hv
  exact ⟨g, 0, rfl, h.lt, by rw [Nat.zero_add]; exact h.cell i hv⟩
end

theorem made_is {e : TypeId} {w wx : World} {n : Nat} {vs : List Value} (h : Is wx w.heap.size e vs) (o : Only (fun _ => False) w wx) (hn : vs.length = n) (hm : n ≤ maxLen) : Made e w (some ⟨w.heap.size, 0, none⟩) n n vs wx :=
  ⟨Row.of_is h hn hm, o, by rintro j ⟨ad, e, rfl⟩; obtain rfl := Option.some.inj e; exact Nat.le_refl _⟩
theorem Is.new2 (w : World) (o : Obj) (t : TypeId) (cs : List Value) : Is ((w.alloc o).alloc (.cells cs.toArray t)) (w.heap.size + 1) t cs := by
  have h := Is.new (w.alloc o) t cs
  have e : (w.alloc o).heap.size = w.heap.size + 1 := by simp
  rw [e] at h
  exact h
/-- Numbers as cells. -/
def ints (l : List Nat) : List Value := l.map fun x => .int .i64 (x : Nat)
def zints (l : List Int) : List Value := l.map fun x => .int .i64 x
theorem ints_length (l : List Nat) : (ints l).length = l.length := List.length_map ..
theorem zints_length (l : List Int) : (zints l).length = l.length := List.length_map ..
theorem ints_at (l : List Nat) (i : Nat) (h : i < l.length) : (ints l)[i]? = some (.int .i64 (l.getD i 0 : Nat)) := by simp [ints, h]
theorem zints_at (l : List Int) (i : Nat) (h : i < l.length) : (zints l)[i]? = some (.int .i64 (l.getD i 0)) := by simp [zints, h]
theorem ints_z (l : List Nat) : ints l = zints (l.map fun x : Nat => (x : Int)) := by simp [ints, zints]
theorem ints_one (l : List Nat) : ∀ v ∈ ints l, v.oneCell' = true := by simp [ints, Value.oneCell']
theorem zints_one (l : List Int) : ∀ v ∈ zints l, v.oneCell' = true := by simp [zints, Value.oneCell']
/-- Two cells of a symbol. -/
def ruc (r : Ru) : List Value := [.int .i64 r.s, .int .i64 r.m]
def ruV (r : Ru) : Value := .agg #[.int .i64 r.s, .int .i64 r.m]
def rus (ts : List Ru) : List Value := ts.flatMap ruc
theorem rus_at : ∀ (ts : List Ru) (i : Nat) (t : Ru), ts[i]? = some t → ∀ (j : Nat) (v : Value), (ruc t)[j]? = some v → (rus ts)[i * 2 + j]? = some v
  | [], _, _, h, _, _, _ => by simp at h
  | x :: r, 0, t, h, j, v, hv => by
    obtain rfl : x = t := by simpa using h
    have hj : j < (ruc x).length := by
      rcases Nat.lt_or_ge j (ruc x).length with h1 | h1
      · exact h1
      · rw [List.getElem?_eq_none h1] at hv; cases hv
    simp only [rus, List.flatMap_cons, Nat.zero_mul, Nat.zero_add]
    rw [List.getElem?_append_left hj, hv]
  | x :: r, i + 1, t, h, j, v, hv => by
    have := rus_at r i t (by simpa using h) j v hv
    simp only [rus, List.flatMap_cons] at this ⊢
    rw [List.getElem?_append_right (by simp [ruc]; omega), show (i + 1) * 2 + j - (ruc x).length = i * 2 + j from by simp [ruc]; omega, this]
theorem rus_snoc (ts : List Ru) (t : Ru) : rus ts ++ ruc t = rus (ts ++ [t]) := by simp [rus]
theorem rus_length (ts : List Ru) : (rus ts).length = ts.length * 2 := by
  induction ts with
  | nil => rfl
  | cons x r ih => simp [rus, ruc] at ih ⊢; omega
/-- The cells of one symbol. -/
theorem See.sym {w : World} {B : Nat} {A : Option Addr} {ts : List Ru} (h : See w B A (rus ts)) (i : Nat) (t : Ru) (ht : ts[i]? = some t) : ∃ b off, A = some ⟨b, off, none⟩ ∧ b < B ∧
    w.cell? ⟨b, off + i * 2, none⟩ = some (.int .i64 t.s) ∧ w.cell? ⟨b, off + i * 2 + 1, none⟩ = some (.int .i64 t.m) := by
  obtain ⟨b, off, rfl, hb, c0⟩ := h _ _ (rus_at ts i t ht 0 _ rfl)
  obtain ⟨b1, off1, e1, _, c1⟩ := h _ _ (rus_at ts i t ht 1 _ rfl)
  simp only [Option.some.injEq, Addr.mk.injEq, and_true] at e1
  obtain ⟨rfl, rfl⟩ := e1
  exact ⟨b, off, rfl, hb, c0, by rw [Nat.add_assoc]; exact c1⟩
theorem info3 : (Try.prog.info? 3).map (fun i => (i.zero, i.size, i.bytes)) = some (some (.int .i64 0), 1, 8) := by kernel_rfl
theorem info36 : (Try.prog.info? 36).map (fun i => (i.zero, i.size, i.bytes)) = some (some (.agg #[.int .i64 0, .int .i64 0]), 2, 16) := by kernel_rfl
theorem zero36 : (Value.agg #[.int .i64 0, .int .i64 0]).cells.size = 2 := by simp [Value.cells]
theorem Src.oneRu (w : World) (s m : Int) (c : Nat) (t : TypeId) : Src Try.prog 2 24 (.slice (some ⟨w.heap.size, 0, none⟩) 1 c) 1 [.int .i64 s, .int .i64 m] (w.alloc (.cells #[.int .i64 s, .int .i64 m] t)) := by
  refine Src.ofSlice _ Try.underlying24 _ 1 c _ rfl (fun j u hu => ?_) (by simp [Value.oneCell'])
  have h := Is.new w t [.int .i64 s, .int .i64 m]
  rw [Addr.add_lit, Nat.zero_add]
  exact h.cell j hu
/-- A row of numbers as what append takes. -/
theorem Src.ofMade {w0 w : World} {g n c : Nat} {l : List Nat} (h : Made 3 w0 (some ⟨g, 0, none⟩) n c (ints l) w) : Src Try.prog 1 22 (.slice (some ⟨g, 0, none⟩) n c) n (ints l) w := by
  refine Src.ofSlice _ Try.underlying22 _ n c _ (by rw [Nat.mul_one]; exact h.1.1) (fun j u hu => ?_) (ints_one l)
  obtain ⟨g', e1, e2, _⟩ := h.1.cell hu
  obtain rfl : g' = g := by simpa using e1.symm
  rw [Addr.add_lit, Nat.zero_add]
  exact e2
theorem Made.alloc {e : TypeId} {w0 wx : World} {A : Option Addr} {n c : Nat} {vs : List Value} (h : Made e w0 A n c vs wx) (o : Obj) : Made e w0 A n c vs (wx.alloc o) := ⟨h.1.alloc o, h.2.1.alloc o, h.2.2⟩
theorem Made.drewN {e : TypeId} {w wx : World} {A : Option Addr} {n c : Nat} {vs : List Value} (h : Made e w A n c vs wx) (k : Nat) : Made e w A n c vs (wx.drewN k) := ⟨h.1.drewN k, h.2.1.drewN k, h.2.2⟩
theorem Made.nil (e : TypeId) (w : World) : Made e w none 0 0 [] w := ⟨Row.nil e w, Only.refl _ w, by rintro j ⟨ad, e, _⟩; cases e⟩
/-- make: a row of zeros. -/
theorem run_make_row {P : Program} {t e : TypeId} {kd : IntKind} {B : Nat} (ht : P.underlying t = some (.slice e)) (hi : (P.info? e).map (fun i => (i.zero, i.size, i.bytes)) = some (some (.int kd 0), 1, B)) (hB : B ≤ 8) (k : Nat) (hk : k ≤ 1073741824) (w : World) :
    (Instr.makeSlice t (.int .i64 k) (.int .i64 k)).run P w = .ok (.slice (some ⟨w.heap.size, 0, none⟩) k k) (w.alloc (.cells (List.replicate k (.int kd 0)).toArray e)) := by
  obtain ⟨i, hi, hz, hsz, hby⟩ := info_parts hi
  have hfit : B * k ≤ 8 * k := Nat.mul_le_mul_right _ hB
  have h := run_make (P := P) w t e i (.int kd 0) ht hi hz .i64 .i64 k k (by omega) (by omega) (by rw [hby]; omega) (by omega)
  have e1 : madeCells (Value.int kd 0).cells (k * 1) = (List.replicate k (Value.int kd 0)).toArray := by
    apply Array.ext'
    rw [Value.cells, toList_madeCells_one]
    · simp
    all_goals intros; simp_all
  rw [Int.toNat_natCast, hsz, e1] at h
  exact h
theorem Is.row {w : World} {g : Nat} {t : TypeId} {cs : List Value} (h : Is w g t cs) (ds : List Value) : Is (w.setRow g ds.toArray) g t ds := setRow_heap w g _ _ t _ h
theorem Is.farRow {w : World} {g k : Nat} {t : TypeId} {cs : List Value} (h : Is w g t cs) (hk : g ≠ k) (ds : Array Value) : Is (w.setRow k ds) g t cs := (setRow_other w k g ds hk).trans h
theorem Only.row {S : Nat → Prop} {a w : World} (h : Only S a w) {g : Nat} (hg : S g ∨ a.heap.size ≤ g) (ds : Array Value) : Only S a (w.setRow g ds) :=
  ⟨h.os, h.tape, h.output, by simpa using h.size, fun k hk hs => (setRow_other w g k ds fun e => hg.elim (fun x => hs (e ▸ x)) (fun x => by omega)).trans (h.block k hk hs)⟩
/-- A whole array laid into a block that is known. -/
theorem wpList_store_is {P : Program} {ops : Array Oper} {rest : List Oper} {o : Oper} {a : Act} {w : World} {Q : Exit → Act → World → Prop} (hgd : o.guard = none) (ty : TypeId) (x y : Operand) (ho : o.op = .store ty x y)
    (g : Nat) (cells : List Value) (hx : a.eval x = .pointer (some ⟨g, 0, none⟩)) (hy : a.eval y = .agg cells.toArray) (t : TypeId) (old : List Value) (hg : Is w g t old)
    (hi : (P.info? ty).map (·.size) = some cells.length) (hold : old.length = cells.length) (h1 : ∀ v ∈ cells, v.oneCell' = true)
    (h : ∀ w', Is w' g t cells → Only (fun j => j = g) w w' → wpList P ops Q rest (a.put o.dst undef) w') : wpList P ops Q (o :: rest) a w :=
  wpList_store_row hgd ty x y ho g cells.toArray hx hy t old.toArray hg (by simpa using hi) (by simpa using hold) (all_oneCell_toArray h1) (h _ (hg.row cells) ((Only.refl (fun j => j = g) w).row (.inl rfl) _))
theorem wpList_load_is {P : Program} {ops : Array Oper} {rest : List Oper} {o : Oper} {a : Act} {w : World} {Q : Exit → Act → World → Prop} (hgd : o.guard = none) (ty : TypeId) (x : Operand) (ho : o.op = .load ty x)
    (g : Nat) (hx : a.eval x = .pointer (some ⟨g, 0, none⟩)) (t : TypeId) (cells : List Value) (hg : Is w g t cells) {n : Nat} {e : TypeId} (hu : P.underlying ty = some (.array n e))
    (hi : (P.info? ty).map (·.size) = some cells.length) (h : wpList P ops Q rest (a.put o.dst (.agg cells.toArray)) w) : wpList P ops Q (o :: rest) a w :=
  wpList_load_row hgd ty x ho g hx t cells.toArray (0, 0) _ hg hu rfl (by simpa using hi) h
end Go.Proofs.Ytlhffflemajlfaa
