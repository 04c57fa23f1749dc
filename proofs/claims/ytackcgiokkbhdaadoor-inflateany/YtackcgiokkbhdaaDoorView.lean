/- Words on memory for layer 5: slices that read as numbers, what is kept below a block. -/
import Derived.Test.YtackcgiokkbhdaaDoorBText
import Derived.Test.YtackcgiokkbhdaaDoorScan
import Derived.Test.YtackcgiokkbhdaaDoorTMath
import Derived.Test.YtackcgiokkbhdaaDoorChecked
import Derived.Below
import Derived.ChangeSlices
import Derived.Deep.LoopGhost
import Derived.BigQuiet
import Derived.Deep.DeepCutAuto
import Derived.Deep.RegionLaw
import Derived.Deep.RegionHeld3
import Derived.BigRegion
import Derived.Deep.MidRow
import Derived.Laws.Rows
import Derived.Laws.Tables
namespace Go.Proofs.YtackcgiokkbhdaaDoor
open Go.RowKit

/-- The slice at A reads as the cells vs, below block B. -/
def See (w : World) (B : Nat) (A : Option Addr) (vs : List Value) : Prop :=
  ∀ (i : Nat) (v : Value), vs[i]? = some v → ∃ b off, A = some ⟨b, off, none⟩ ∧ b < B ∧ w.cell? ⟨b, off + i, none⟩ = some v
/-- Nothing below B has turned. -/
def Keep (B : Nat) (w w' : World) : Prop := Only (fun j => B ≤ j) w w'

section
variable {w w' w'' : World} {B C : Nat} {A : Option Addr} {vs : List Value} {S : Nat → Prop}
theorem Only.keep (h : Only S w w') (B : Nat) (hS : ∀ j, S j → B ≤ j) : Keep B w w' := h.mono hS
theorem Only.keep0 (h : Only (fun _ => False) w w') (B : Nat) : Keep B w w' := h.mono fun _ f => f.elim
theorem Keep.refl (B : Nat) (w : World) : Keep B w w := Only.refl _ w
theorem Keep.trans (h : Keep B w w') (k : Keep B w' w'') : Keep B w w'' := Only.trans h k
theorem Keep.less (h : Keep C w w') (hB : B ≤ C) : Keep B w w' := Only.mono h fun _ hj => Nat.le_trans hB hj
theorem Keep.below (h : Keep B w w') (hB : B ≤ w.heap.size) : Below B w w' := Only.below h B hB fun _ hk hs => by omega
theorem cell_lt {a : Addr} {v : Value} (h : w.cell? a = some v) : a.block < w.heap.size := by
  rcases Nat.lt_or_ge a.block w.heap.size with hlt | hge
  · exact hlt
  · simp [World.cell?, Array.getElem?_eq_none hge] at h
theorem See.keep (h : See w B A vs) (k : Keep B w w') : See w' B A vs := by
  intro i v hv
  obtain ⟨b, off, hA, hb, hc⟩ := h i v hv
  exact ⟨b, off, hA, hb, (World.cell?_of_block (Only.block k b (cell_lt hc) (by omega))).trans hc⟩
theorem See.new (h : See w B A vs) (k : Only (fun _ => False) w w') : See w' B A vs := h.keep (k.keep0 B)
theorem See.more (h : See w B A vs) (hB : B ≤ C) : See w C A vs := fun i v hv => by
  obtain ⟨b, off, hA, hb, hc⟩ := h i v hv
  exact ⟨b, off, hA, by omega, hc⟩
theorem Row.see {e : TypeId} {n c : Nat} (h : Row e w A n c vs) : See w w.heap.size A vs := by
  intro i v hv
  obtain ⟨g, hA, hc, _⟩ := h.cell hv
  exact ⟨g, 0, hA, cell_lt hc, by rw [Nat.zero_add]; exact hc⟩
theorem Made.see {e : TypeId} {n c : Nat} (h : Made e w A n c vs w') : See w' w'.heap.size A vs := h.1.see
theorem Is.see {g : Nat} {t : TypeId} (h : Is w g t vs) : See w w.heap.size (some ⟨g, 0, none⟩) vs := by
  intro i v hv
  exact ⟨g, 0, rfl, h.lt, by rw [Nat.zero_add]; exact h.cell i hv⟩
end

/-- Numbers as cells. -/
def ints (l : List Nat) : List Value := l.map fun x => .int .i64 (x : Nat)
def zints (l : List Int) : List Value := l.map fun x => .int .i64 x
theorem ints_length (l : List Nat) : (ints l).length = l.length := List.length_map ..
theorem zints_length (l : List Int) : (zints l).length = l.length := List.length_map ..
theorem ints_at (l : List Nat) (i : Nat) (h : i < l.length) : (ints l)[i]? = some (.int .i64 (ln l i : Nat)) := by simp [ints, ln, h]
theorem ints_set (l : List Nat) (i y : Nat) : (ints l).set i (.int .i64 (y : Nat)) = ints (l.set i y) := by simp [ints, List.map_set]
theorem zints_at (l : List Int) (i : Nat) (h : i < l.length) : (zints l)[i]? = some (.int .i64 (l.getD i 0)) := by simp [zints, h]
theorem ints_one (l : List Nat) : ∀ v ∈ ints l, v.oneCell' = true := by simp [ints, Value.oneCell']
/-- A place of a list that is made by places. -/
theorem map_at (n : Nat) (f : Nat → Nat) (i : Nat) (h : i < n) : ln ((List.range n).map f) i = f i := by simp [ln, h]
theorem map_set (n : Nat) (f g : Nat → Nat) (s y : Nat) (hs : g s = y) (h : ∀ t, t < n → t ≠ s → g t = f t) : ((List.range n).map f).set s y = (List.range n).map g := by
  apply List.ext_getElem
  · simp
  · intro i h1 h2
    simp at h1
    rw [List.getElem_set]
    split
    · rename_i e; subst e; simp [hs]
    · rename_i e; simp [h i h1 (fun x => e x.symm)]
theorem map_same (n : Nat) (f g : Nat → Nat) (h : ∀ t, t < n → g t = f t) : (List.range n).map f = (List.range n).map g :=
  List.map_congr_left fun t ht => (h t (by simpa using ht)).symm
theorem map_list (l : List Nat) (n : Nat) (f : Nat → Nat) (hl : l.length = n) (h : ∀ t, t < n → ln l t = f t) : l = (List.range n).map f := by
  apply List.ext_getElem
  · simp [hl]
  · intro i h1 h2
    have := h i (by omega)
    simp [ln, h1] at this
    simp [this]

/-- Lengths that may be. -/
def Okay (z : List Int) : Prop := z.length ≤ 288 ∧ ∀ x ∈ z, 0 ≤ x ∧ x ≤ 15
theorem Okay.nat {z : List Int} (h : Okay z) : ∃ l : List Nat, zints z = ints l ∧ l.length = z.length ∧ l.length ≤ 288 ∧ Low l := by
  refine ⟨z.map Int.toNat, ?_, by simp, by simpa using h.1, ?_⟩
  · simp only [zints, ints, List.map_map]
    refine List.map_congr_left fun x hx => ?_
    have := h.2 x hx
    simp
    omega
  · intro x hx
    obtain ⟨y, hy, rfl⟩ := List.mem_map.1 hx
    have := h.2 y hy
    omega

theorem info3 : (Tryd.prog.info? 3).map (fun i => (i.zero, i.size, i.bytes)) = some (some (.int .i64 0), 1, 8) := by kernel_rfl
theorem info43 : (Tryd.prog.info? 43).map (fun i => (i.zero, i.size, i.bytes)) = some (some (.int .u16 0), 1, 2) := by kernel_rfl
theorem made_is {e : TypeId} {w wx : World} {n : Nat} {vs : List Value} (h : Is wx w.heap.size e vs) (o : Only (fun _ => False) w wx) (hn : vs.length = n) (hm : n ≤ maxLen) : Made e w (some ⟨w.heap.size, 0, none⟩) n n vs wx :=
  ⟨Row.of_is h hn hm, o, by rintro j ⟨ad, e, rfl⟩; obtain rfl := Option.some.inj e; exact Nat.le_refl _⟩
/-- make: a row of zeros. -/
theorem run_make_row {P : Program} {t e : TypeId} {kd : IntKind} {B : Nat} (ht : P.underlying t = some (.slice e)) (hi : (P.info? e).map (fun i => (i.zero, i.size, i.bytes)) = some (some (.int kd 0), 1, B)) (hB : B ≤ 8) (k : Nat) (hk : k ≤ 1073741824) (w : World) :
    (Instr.makeSlice t (.int .i64 k) (.int .i64 k)).run P w = .ok (.slice (some ⟨w.heap.size, 0, none⟩) k k) (w.alloc (.cells (List.replicate k (.int kd 0)).toArray e)) := by
  obtain ⟨i, hi, hz, hsz, hby⟩ := info_parts hi
  have hfit : B * k ≤ 8 * k := Nat.mul_le_mul_right _ hB
  have h := run_make (P := P) w t e i (.int kd 0) ht hi hz .i64 .i64 k k (by omega) (by omega) (by rw [hby]; omega) (by omega)
  have e1 : madeCells (Value.int kd 0).cells (k * 1) = (List.replicate k (Value.int kd 0)).toArray := by
    apply Array.ext'
    rw [Value.cells, toList_madeCells_one]
    · simp
    all_goals intros; simp_all
  rw [Int.toNat_natCast, hsz, e1] at h
  exact h
theorem Made.setAt {e : TypeId} {w wx : World} {g n c : Nat} {vs : List Value} (h : Made e w (some ⟨g, 0, none⟩) n c vs wx) (p : Nat) (u : Value) : Made e w (some ⟨g, 0, none⟩) n c (vs.set p u) (wx.setCell ⟨g, p, none⟩ u) :=
  ⟨h.1.set p u, h.2.1.set (p := ⟨g, p, none⟩) (.inr (h.2.2 g ⟨_, rfl, rfl⟩)) _, h.2.2⟩
theorem Made.drewN {e : TypeId} {w wx : World} {A : Option Addr} {n c : Nat} {vs : List Value} (h : Made e w A n c vs wx) (k : Nat) : Made e w A n c vs (wx.drewN k) := ⟨h.1.drewN k, h.2.1.drewN k, h.2.2⟩
theorem zeros_made {e : TypeId} {w : World} {kd : IntKind} (n : Nat) (hn : n ≤ 1073741824) : Made e w (some ⟨w.heap.size, 0, none⟩) n n (List.replicate n (.int kd 0)) (w.alloc (.cells (List.replicate n (.int kd 0)).toArray e)) :=
  made_is (Is.new w e _) ((Only.refl _ w).alloc _) (by simp) (by unfold maxLen; omega)
theorem Is.new2 (w : World) (o : Obj) (t : TypeId) (cs : List Value) : Is ((w.alloc o).alloc (.cells cs.toArray t)) (w.heap.size + 1) t cs := by
  have h := Is.new (w.alloc o) t cs
  have e : (w.alloc o).heap.size = w.heap.size + 1 := by simp
  rw [e] at h
  exact h
theorem Is.row {w : World} {g : Nat} {t : TypeId} {cs : List Value} (h : Is w g t cs) (ds : List Value) : Is (w.setRow g ds.toArray) g t ds := setRow_heap w g _ _ t _ h
theorem Is.farRow {w : World} {g k : Nat} {t : TypeId} {cs : List Value} (h : Is w g t cs) (hk : g ≠ k) (ds : Array Value) : Is (w.setRow k ds) g t cs := (setRow_other w k g ds hk).trans h
theorem Only.row {S : Nat → Prop} {a w : World} (h : Only S a w) {g : Nat} (hg : S g ∨ a.heap.size ≤ g) (ds : Array Value) : Only S a (w.setRow g ds) :=
  ⟨h.os, h.tape, h.output, by simpa using h.size, fun k hk hs => (setRow_other w g k ds fun e => hg.elim (fun x => hs (e ▸ x)) (fun x => by omega)).trans (h.block k hk hs)⟩
/-- A whole array laid into a block that is known. -/
theorem wpList_store_is {P : Program} {ops : Array Oper} {rest : List Oper} {o : Oper} {a : Act} {w : World} {Q : Exit → Act → World → Prop} (hgd : o.guard = none) (ty : TypeId) (x y : Operand) (ho : o.op = .store ty x y)
    (g : Nat) (cells : List Value) (hx : a.eval x = .pointer (some ⟨g, 0, none⟩)) (hy : a.eval y = .agg cells.toArray) (t : TypeId) (old : List Value) (hg : Is w g t old)
    (hi : (P.info? ty).map (·.size) = some cells.length) (hold : old.length = cells.length) (h1 : ∀ v ∈ cells, v.oneCell' = true)
    (h : ∀ w', Is w' g t cells → Only (fun j => j = g) w w' → wpList P ops Q rest (a.put o.dst undef) w') : wpList P ops Q (o :: rest) a w :=
  wpList_store_row hgd ty x y ho g cells.toArray hx hy t old.toArray hg (by simpa using hi) (by simpa using hold) (all_oneCell_toArray h1) (h _ (hg.row cells) ((Only.refl (fun j => j = g) w).row (.inl rfl) _))
theorem wpList_load_is {P : Program} {ops : Array Oper} {rest : List Oper} {o : Oper} {a : Act} {w : World} {Q : Exit → Act → World → Prop} (hgd : o.guard = none) (ty : TypeId) (x : Operand) (ho : o.op = .load ty x)
    (g : Nat) (hx : a.eval x = .pointer (some ⟨g, 0, none⟩)) (t : TypeId) (cells : List Value) (hg : Is w g t cells) {n : Nat} {e : TypeId} (hu : P.underlying ty = some (.array n e))
    (hi : (P.info? ty).map (·.size) = some cells.length) (h : wpList P ops Q rest (a.put o.dst (.agg cells.toArray)) w) : wpList P ops Q (o :: rest) a w :=
  wpList_load_row hgd ty x ho g hx t cells.toArray (0, 0) _ hg hu rfl (by simpa using hi) h
theorem bcells_length (l : List UInt8) : (bcells l).length = l.length := List.length_map ..
theorem bcells_snoc (l : List UInt8) (x : UInt8) : bcells l ++ [.int .u8 (x.toNat : Nat)] = bcells (l ++ [x]) := by simp [bcells]
theorem bcells_at (l : List UInt8) (i : Nat) (h : i < l.length) : (bcells l)[i]? = some (.int .u8 ((l.getD i 0).toNat : Nat)) := by simp [bcells, h]
/-- Three cells of a token. -/
def tkc (t : Tk) : List Value := [.int .u8 t.b.toNat, .int .i64 t.n, .int .i64 t.k]
def tkV (t : Tk) : Value := .agg #[.int .u8 t.b.toNat, .int .i64 t.n, .int .i64 t.k]
/-- What is seen lies from lo on, so what turns only other blocks leaves it. -/
theorem See.apart {w w' : World} {B lo : Nat} {A : Option Addr} {vs : List Value} {X : Nat → Prop} (h : See w B A vs) (hl : ∀ j, Lies A j → lo ≤ j) (k : Only X w w') (hd : ∀ j, lo ≤ j → j < B → ¬ X j) : See w' B A vs := by
  intro i v hv
  obtain ⟨b, off, hA, hb, hc⟩ := h i v hv
  exact ⟨b, off, hA, hb, (World.cell?_of_block (k.block b (cell_lt hc) (hd b (hl b ⟨_, hA, rfl⟩) hb))).trans hc⟩
end Go.Proofs.YtackcgiokkbhdaaDoor
