/- Words on memory for layer 6: slices that read as numbers, what is kept below a block, rows with room. -/
import Derived.Test.YtjbohidkjlnalaaBase
import Derived.Test.YtjbohidkjlnalaaPMath
import Derived.Test.YtjbohidkjlnalaaChecked
import Derived.Below
import Derived.ChangeSlices
import Derived.Deep.LoopGhost
import Derived.Deep.RegionLaw
import Derived.Deep.RegionHeld3
import Derived.BigRegion
import Derived.Deep.MidRow
import Derived.Laws.Rows
import Derived.Laws.Tables
namespace Go.Proofs.Ytjbohidkjlnalaa
open Go.RowKit

/-- The slice at A reads as the cells vs, below block B. -/
def See (w : World) (B : Nat) (A : Option Addr) (vs : List Value) : Prop :=
  ∀ (i : Nat) (v : Value), vs[i]? = some v → ∃ b off, A = some ⟨b, off, none⟩ ∧ b < B ∧ w.cell? ⟨b, off + i, none⟩ = some v
/-- Nothing below B has turned. -/
def Keep (B : Nat) (w w' : World) : Prop := Only (fun j => B ≤ j) w w'

section
variable {w w' w'' : World} {B C : Nat} {A : Option Addr} {vs : List Value} {S : Nat → Prop}
theorem Only.keep (h : Only S w w') (B : Nat) (hS : ∀ j, S j → B ≤ j) : Keep B w w' := h.mono hS
theorem Only.keep0 (h : Only (fun _ => False) w w') (B : Nat) : Keep B w w' := h.mono fun _ f => f.elim
theorem Keep.refl (B : Nat) (w : World) : Keep B w w := Only.refl _ w
theorem Keep.trans (h : Keep B w w') (k : Keep B w' w'') : Keep B w w'' := Only.trans h k
theorem Keep.less (h : Keep C w w') (hB : B ≤ C) : Keep B w w' := Only.mono h fun _ hj => Nat.le_trans hB hj
theorem Keep.below (h : Keep B w w') (hB : B ≤ w.heap.size) : Below B w w' := Only.below h B hB fun _ hk hs => by omega
theorem cell_lt {a : Addr} {v : Value} (h : w.cell? a = some v) : a.block < w.heap.size := by
  rcases Nat.lt_or_ge a.block w.heap.size with hlt | hge
  · exact hlt
  · simp [World.cell?, Array.getElem?_eq_none hge] at h
theorem See.keep (h : See w B A vs) (k : Keep B w w') : See w' B A vs := by
  intro i v hv
  obtain ⟨b, off, hA, hb, hc⟩ := h i v hv
  exact ⟨b, off, hA, hb, (World.cell?_of_block (Only.block k b (cell_lt hc) (by omega))).trans hc⟩
theorem See.new (h : See w B A vs) (k : Only (fun _ => False) w w') : See w' B A vs := h.keep (k.keep0 B)
theorem See.more (h : See w B A vs) (hB : B ≤ C) : See w C A vs := fun i v hv => by
  obtain ⟨b, off, hA, hb, hc⟩ := h i v hv
  exact ⟨b, off, hA, by omega, hc⟩
theorem Row.see {e : TypeId} {n c : Nat} (h : Row e w A n c vs) : See w w.heap.size A vs := by
  intro i v hv
  obtain ⟨g, hA, hc, _⟩ := h.cell hv
  exact ⟨g, 0, hA, cell_lt hc, by rw [Nat.zero_add]; exact hc⟩
theorem Made.see {e : TypeId} {n c : Nat} (h : Made e w A n c vs w') : See w' w'.heap.size A vs := h.1.see
theorem Is.see {g : Nat} {t : TypeId} (h : Is w g t vs) : See w w.heap.size (some ⟨g, 0, none⟩) vs := by
  intro i v hv
  exact ⟨g, 0, rfl, h.lt, by rw [Nat.zero_add]; exact h.cell i hv⟩
end

/-- Numbers as cells. -/
def ints (l : List Nat) : List Value := l.map fun x => .int .i64 (x : Nat)
def zints (l : List Int) : List Value := l.map fun x => .int .i64 x
theorem ints_length (l : List Nat) : (ints l).length = l.length := List.length_map ..
theorem zints_length (l : List Int) : (zints l).length = l.length := List.length_map ..
theorem ints_at (l : List Nat) (i : Nat) (h : i < l.length) : (ints l)[i]? = some (.int .i64 (ln l i : Nat)) := by simp [ints, ln, h]
theorem ints_set (l : List Nat) (i y : Nat) : (ints l).set i (.int .i64 (y : Nat)) = ints (l.set i y) := by simp [ints, List.map_set]
theorem zints_at (l : List Int) (i : Nat) (h : i < l.length) : (zints l)[i]? = some (.int .i64 (l.getD i 0)) := by simp [zints, h]
theorem ints_one (l : List Nat) : ∀ v ∈ ints l, v.oneCell' = true := by simp [ints, Value.oneCell']
/-- A place of a list that is made by places. -/
theorem map_at (n : Nat) (f : Nat → Nat) (i : Nat) (h : i < n) : ln ((List.range n).map f) i = f i := by simp [ln, h]
theorem map_set (n : Nat) (f g : Nat → Nat) (s y : Nat) (hs : g s = y) (h : ∀ t, t < n → t ≠ s → g t = f t) : ((List.range n).map f).set s y = (List.range n).map g := by
  apply List.ext_getElem
  · simp
  · intro i h1 h2
    simp at h1
    rw [List.getElem_set]
    split
    · rename_i e; subst e; simp [hs]
    · rename_i e; simp [h i h1 (fun x => e x.symm)]
theorem map_same (n : Nat) (f g : Nat → Nat) (h : ∀ t, t < n → g t = f t) : (List.range n).map f = (List.range n).map g :=
  List.map_congr_left fun t ht => (h t (by simpa using ht)).symm
theorem map_list (l : List Nat) (n : Nat) (f : Nat → Nat) (hl : l.length = n) (h : ∀ t, t < n → ln l t = f t) : l = (List.range n).map f := by
  apply List.ext_getElem
  · simp [hl]
  · intro i h1 h2
    have := h i (by omega)
    simp [ln, h1] at this
    simp [this]

/-- Counts that may be. -/
def Okay (z : List Int) : Prop := z.length ≤ 288 ∧ ∀ x ∈ z, 0 ≤ x ∧ x ≤ 1048576
def Low (l : List Nat) : Prop := ∀ x ∈ l, x ≤ 1048576
theorem ln_mem (l : List Nat) (i : Nat) (h : i < l.length) : ln l i ∈ l := by simp [ln, h]
theorem ln_le {l : List Nat} (h : Low l) (i : Nat) : ln l i ≤ 1048576 := by
  rcases Nat.lt_or_ge i l.length with h1 | h1
  · exact h _ (ln_mem l i h1)
  · simp [ln, h1]
theorem Okay.nat {z : List Int} (h : Okay z) : ∃ l : List Nat, zints z = ints l ∧ l.length = z.length ∧ l.length ≤ 288 ∧ Low l := by
  refine ⟨z.map Int.toNat, ?_, by simp, by simpa using h.1, ?_⟩
  · simp only [zints, ints, List.map_map]
    refine List.map_congr_left fun x hx => ?_
    have := h.2 x hx
    simp
    omega
  · intro x hx
    obtain ⟨y, hy, rfl⟩ := List.mem_map.1 hx
    have := h.2 y hy
    omega

theorem info3 : (Try.prog.info? 3).map (fun i => (i.zero, i.size, i.bytes)) = some (some (.int .i64 0), 1, 8) := by kernel_rfl
theorem made_is {e : TypeId} {w wx : World} {n : Nat} {vs : List Value} (h : Is wx w.heap.size e vs) (o : Only (fun _ => False) w wx) (hn : vs.length = n) (hm : n ≤ maxLen) : Made e w (some ⟨w.heap.size, 0, none⟩) n n vs wx :=
  ⟨Row.of_is h hn hm, o, by rintro j ⟨ad, e, rfl⟩; obtain rfl := Option.some.inj e; exact Nat.le_refl _⟩
/-- make: a row of zeros. -/
theorem run_make_row {P : Program} {t e : TypeId} {kd : IntKind} {B : Nat} (ht : P.underlying t = some (.slice e)) (hi : (P.info? e).map (fun i => (i.zero, i.size, i.bytes)) = some (some (.int kd 0), 1, B)) (hB : B ≤ 8) (k : Nat) (hk : k ≤ 1073741824) (w : World) :
    (Instr.makeSlice t (.int .i64 k) (.int .i64 k)).run P w = .ok (.slice (some ⟨w.heap.size, 0, none⟩) k k) (w.alloc (.cells (List.replicate k (.int kd 0)).toArray e)) := by
  obtain ⟨i, hi, hz, hsz, hby⟩ := info_parts hi
  have hfit : B * k ≤ 8 * k := Nat.mul_le_mul_right _ hB
  have h := run_make (P := P) w t e i (.int kd 0) ht hi hz .i64 .i64 k k (by omega) (by omega) (by rw [hby]; omega) (by omega)
  have e1 : madeCells (Value.int kd 0).cells (k * 1) = (List.replicate k (Value.int kd 0)).toArray := by
    apply Array.ext'
    rw [Value.cells, toList_madeCells_one]
    · simp
    all_goals intros; simp_all
  rw [Int.toNat_natCast, hsz, e1] at h
  exact h
theorem Made.setAt {e : TypeId} {w wx : World} {g n c : Nat} {vs : List Value} (h : Made e w (some ⟨g, 0, none⟩) n c vs wx) (p : Nat) (u : Value) : Made e w (some ⟨g, 0, none⟩) n c (vs.set p u) (wx.setCell ⟨g, p, none⟩ u) :=
  ⟨h.1.set p u, h.2.1.set (p := ⟨g, p, none⟩) (.inr (h.2.2 g ⟨_, rfl, rfl⟩)) _, h.2.2⟩
theorem Made.drewN {e : TypeId} {w wx : World} {A : Option Addr} {n c : Nat} {vs : List Value} (h : Made e w A n c vs wx) (k : Nat) : Made e w A n c vs (wx.drewN k) := ⟨h.1.drewN k, h.2.1.drewN k, h.2.2⟩
theorem zeros_made {e : TypeId} {w : World} {kd : IntKind} (n : Nat) (hn : n ≤ 1073741824) : Made e w (some ⟨w.heap.size, 0, none⟩) n n (List.replicate n (.int kd 0)) (w.alloc (.cells (List.replicate n (.int kd 0)).toArray e)) :=
  made_is (Is.new w e _) ((Only.refl _ w).alloc _) (by simp) (by unfold maxLen; omega)
theorem Is.new2 (w : World) (o : Obj) (t : TypeId) (cs : List Value) : Is ((w.alloc o).alloc (.cells cs.toArray t)) (w.heap.size + 1) t cs := by
  have h := Is.new (w.alloc o) t cs
  have e : (w.alloc o).heap.size = w.heap.size + 1 := by simp
  rw [e] at h
  exact h
theorem Is.row {w : World} {g : Nat} {t : TypeId} {cs : List Value} (h : Is w g t cs) (ds : List Value) : Is (w.setRow g ds.toArray) g t ds := setRow_heap w g _ _ t _ h
theorem Is.farRow {w : World} {g k : Nat} {t : TypeId} {cs : List Value} (h : Is w g t cs) (hk : g ≠ k) (ds : Array Value) : Is (w.setRow k ds) g t cs := (setRow_other w k g ds hk).trans h
theorem Only.row {S : Nat → Prop} {a w : World} (h : Only S a w) {g : Nat} (hg : S g ∨ a.heap.size ≤ g) (ds : Array Value) : Only S a (w.setRow g ds) :=
  ⟨h.os, h.tape, h.output, by simpa using h.size, fun k hk hs => (setRow_other w g k ds fun e => hg.elim (fun x => hs (e ▸ x)) (fun x => by omega)).trans (h.block k hk hs)⟩
theorem ints_zeros (n : Nat) : List.replicate n (Value.int .i64 0) = ints (List.replicate n 0) := by simp [ints]
theorem Only.one (w : World) (g i : Nat) (u : Value) : Only (fun j => j = g) w (w.setCell ⟨g, i, none⟩ u) := (Only.refl (fun j => j = g) w).set (p := ⟨g, i, none⟩) (.inl rfl) u
theorem Made.far {e : TypeId} {w wx : World} {g n c : Nat} {vs : List Value} (h : Made e w (some ⟨g, 0, none⟩) n c vs wx) (N x : Nat) (u : Value) (hN : N ≠ g) (hw : w.heap.size ≤ N) : Made e w (some ⟨g, 0, none⟩) n c vs (wx.setCell ⟨N, x, none⟩ u) :=
  ⟨h.1.only (Only.one wx N x u) (by rintro j ⟨ad, e1, rfl⟩ e2; obtain rfl := Option.some.inj e1; exact hN e2.symm), h.2.1.set (p := ⟨N, x, none⟩) (.inr hw) _, h.2.2⟩
theorem See.src {P : Program} {tx e : TypeId} (hk : P.underlying tx = some (.slice e)) {w : World} {B n c : Nat} {a : Addr} {vs : List Value} (h : See w B (some a) vs) (hn : vs.length = n) (h1 : ∀ v ∈ vs, v.oneCell' = true) : Src P 1 tx (.slice (some a) n c) n vs w := by
  refine Src.ofSlice w hk a n c vs (by omega) (fun j u hu => ?_) h1
  obtain ⟨b, off, e1, _, hc⟩ := h j u hu
  obtain rfl := Option.some.inj e1
  rw [Addr.add_lit]
  exact hc
def ClonePost (w : World) (vs : List Value) (n : Nat) (e : Ending) (w' : World) : Prop := ∃ A c, e = .returned (.slice A n c) ∧ Made 3 w A n c vs w'

set_option maxHeartbeats 1000000 in
theorem clone (A : Option Addr) (n c B : Nat) (vs : List Value) (w : World) (h : See w B A vs) (hn : vs.length = n) (hb : n ≤ 1000000) (h1 : ∀ v ∈ vs, v.oneCell' = true) :
    Calls Try.prog 31 #[.slice A n c] w (ClonePost w vs n) := by
  cases A with
  | none =>
    have hv : vs = [] := by
      cases vs with
      | nil => rfl
      | cons v r => obtain ⟨b, off, e, _⟩ := h 0 v rfl; cases e
    subst hv
    obtain rfl : n = 0 := by simpa using hn.symm
    clear h hn h1 hb
    have hE : (binOp .eql 22 (.slice none 0 c) (.slice none 0 0)).run Try.prog w = .ok (.bool true) w := by kernel_rfl
    go_enter Try.func31, Try.ntmps31
    go_wp2
    go_ret
    exact ⟨none, 0, rfl, Row.nil 3 w, Only.refl _ w, by rintro j ⟨ad, e, _⟩; cases e⟩
  | some a =>
    have HS := Lib.hid h
    have HN := Lib.hid hn
    have H1 := Lib.hid h1
    clear h hn h1
    have hE : (binOp .eql 22 (.slice (some a) n c) (.slice none 0 0)).run Try.prog w = .ok (.bool false) w := by kernel_rfl
    go_enter Try.func31, Try.ntmps31
    go_wp2_with (at_builtin
                 refine wpList_append_row rfl (.tmp 5) (.tmp 6) 22 22 3 rfl Try.underlying22 info3 (some ⟨w.heap.size, 0, none⟩) 0 0 n [] vs (.slice (some a) n c) rfl rfl (Row.of_is (Is.new w 3 []) rfl (by unfold maxLen; omega)) HN.out (See.src Try.underlying22 (HS.out.new ((Only.refl _ w).alloc _)) HN.out H1.out) (by omega) (by omega) ?_
                 intro A2 c2 w2 hrow2 honly2 hlies2
                 have HR := Lib.hid hrow2
                 have HO := Lib.hid honly2
                 have HL := Lib.hid hlies2
                 clear hrow2 honly2 hlies2)
    go_ret
    have hr := HR.out
    rw [Nat.zero_add, List.nil_append] at hr
    refine ⟨A2, c2, rfl, hr, ((Only.refl _ w).alloc _).andThen HO.out ?_, ?_⟩
    · rintro j ⟨ad, e1, rfl⟩
      obtain rfl := Option.some.inj e1
      exact .inr (Nat.le_refl _)
    · rintro j ⟨ad, e1, rfl⟩
      rcases HL.out with e | e
      · rw [e] at e1
        obtain rfl := Option.some.inj e1
        exact Nat.le_refl _
      · rw [e] at e1
        obtain rfl := Option.some.inj e1
        simp
theorem zints_one (l : List Int) : ∀ v ∈ zints l, v.oneCell' = true := by simp [zints, Value.oneCell']
/-- What a row of numbers that is handed in reads as. -/
theorem open_row {H : Type} {enc : TypeId × Value → H} {w : World} {spare : Nat → Bool} {held : Bool} {A : Option Addr} {n c : Nat} {d : DataW H} {p : List MemPlace} (h : DataW.Trod enc Try.prog w 0 spare held 22 (.slice A n c) d p) :
    n ≤ maxLen ∧ ∃ z : List Int, z.length = n ∧ See w w.heap.size A (zints z) := by
  obtain ⟨fuel, hf⟩ := h
  rcases Go.ChangeShapes.open_ints Try.underlying22 Try.underlying3 (by kernel_rfl) hf with ⟨hcs, _⟩ | ⟨a, len, cap, zs, hcs, _, hl, hm, hz, _, hc, _⟩
  · simp [Value.cells] at hcs
    obtain ⟨rfl, rfl, rfl⟩ := hcs
    exact ⟨Nat.zero_le _, [], rfl, fun i v hv => by simp [zints] at hv⟩
  · simp [Value.cells] at hcs
    obtain ⟨rfl, rfl, rfl⟩ := hcs
    have hzl : n ≤ zs.length := by rw [hz]; split <;> omega
    refine ⟨by omega, zs.take n, by simp [hzl], fun i v hv => ?_⟩
    have hi : i < n := by
      rcases Nat.lt_or_ge i n with h1 | h1
      · exact h1
      · rw [List.getElem?_eq_none (by rw [zints_length, List.length_take]; omega)] at hv
        cases hv
    rw [zints_at _ i (by rw [List.length_take]; omega)] at hv
    have h1 := hc i (by omega)
    obtain ⟨b, off, spot⟩ := a
    have h0 := hc 0 (by omega)
    simp only [Addr.add, if_true] at h0
    have hs : spot = none := World.cell?_spot h0
    subst hs
    rw [Addr.add_lit] at h1
    refine ⟨b, off, rfl, cell_lt h1, ?_⟩
    rw [h1, ← hv]
    simp [List.getD_eq_getElem?_getD, hi]

end Go.Proofs.Ytjbohidkjlnalaa
