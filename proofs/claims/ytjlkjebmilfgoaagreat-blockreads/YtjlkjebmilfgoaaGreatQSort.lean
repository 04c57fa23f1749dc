/- The library's stable sort by a table of numbers, as the program calls it. -/
import Derived.Test.YtjlkjebmilfgoaaGreatQStable
import Derived.Test.YtjlkjebmilfgoaaGreatQB
import Derived.BigQuiet
namespace Go.Proofs.YtjlkjebmilfgoaaGreat
open Go.Shelf Go.RowKit Go.Lib Go.Sort

theorem sortStable {α : Type} [Inhabited α] (enc : α → Value) (cf : α → α → Int) (hO : SWO (ltOf cf)) (g : Nat) (cb : Array Value) (blk off cap : Nat) (d : Array α) (w0 : World)
    (eg : ∀ args w, (callFunc g args).run Tryz.prog w = .ok (.enter g args) w) (hcmp : CmpLays1 Tryz.prog g cb enc cf blk off d.size w0) (R : Row1 enc w0 blk off d) (hsz : d.size < 1152921504606846976) :
    Calls Tryz.prog 123 #[.slice (some ⟨blk, off, none⟩) d.size cap, .func (.func g) #[] cb] w0 (Sorted enc cf blk off w0 d) := by
  have HC := Lib.hid (stable enc cf hO g cb blk off cap d w0 eg hcmp R hsz)
  have HP : Hid (∀ e w, Sorted enc cf blk off w0 d e w → e = .returned (.tuple #[])) := Lib.hid fun e w h => h.1
  clear hcmp R hO
  generalize Sorted enc cf blk off w0 d = Post at HC HP ⊢
  go_enter Tryz.func123, Tryz.ntmps123
  go_wp2_with fail
  refine HC.out.mono ?_
  intro e w1 h1
  obtain rfl := HP.out _ _ h1
  have H1 := Lib.hid h1
  clear h1
  go_wp2
  go_end0
  exact H1.out

/-- Nothing to sort: whatever compares is not asked. -/
theorem sortNone (A : Option Addr) (cap : Nat) (fv : Value) (w : World) : Calls Tryz.prog 123 #[.slice A 0 cap, fv] w fun e w' => e = .returned (.tuple #[]) ∧ w = w' := by
  have H38 : Hid (∀ w, Calls Tryz.prog 138 #[.slice A 0 cap, .int .i64 0, .int .i64 0, fv] w fun e w' => e = .returned (.tuple #[]) ∧ w = w') := Lib.hid fun w => by
    go_enter Tryz.func138, Tryz.ntmps138
    go_wp2_with fail
    go_loopg [8] 0 (fun gk i wx => i = .int .i64 1 ∧ wx = w)
    case atStart => exact ⟨rfl, rfl⟩
    case round =>
      obtain ⟨rfl, rfl⟩ := hrel
      go_wp2
      go_end0
      exact ⟨rfl, rfl⟩
  have H33 : Hid (∀ w, Calls Tryz.prog 134 #[.slice A 0 cap, .int .i64 0, fv] w fun e w' => e = .returned (.tuple #[]) ∧ w = w') := Lib.hid fun w => by
    go_enter Tryz.func134, Tryz.ntmps134
    go_wp2_with fail
    go_loopg [7, 8] 0 (fun gk i j wx => i = .int .i64 0 ∧ j = .int .i64 20 ∧ wx = w)
    case atStart => exact ⟨rfl, rfl, rfl⟩
    case round =>
      obtain ⟨rfl, rfl, rfl⟩ := hrel
      go_wp2_with fail
      refine (H38.out wr).mono ?_
      rintro e w1 ⟨rfl, rfl⟩
      go_wp2_with fail
      go_loopg [6] 0 (fun gk i wx => i = .int .i64 20 ∧ wx = wr)
      case atStart => exact ⟨rfl, rfl⟩
      case round =>
        obtain ⟨rfl, rfl⟩ := hrel
        go_wp2
        go_end0
        exact ⟨rfl, rfl⟩
  go_enter Tryz.func123, Tryz.ntmps123
  go_wp2_with fail
  refine (H33.out w).mono ?_
  rintro e w1 ⟨rfl, rfl⟩
  go_wp2
  go_end0
  exact ⟨rfl, rfl⟩

/-- By how often each symbol comes. -/
def byCount (c : List Nat) (a b : Nat) : Int := Lib.compareInt (ln c a : Nat) (ln c b : Nat)
theorem byCount_lt (c : List Nat) (x y : Nat) : ltOf (byCount c) x y = decide (ln c x < ln c y) := by
  unfold ltOf byCount Lib.compareInt
  by_cases h1 : ln c x < ln c y
  · have : (ln c x : Int) < (ln c y : Int) := by omega
    simp [h1]
  · by_cases h2 : ln c y < ln c x <;> simp [h1, h2]
theorem byCount_swo (c : List Nat) : SWO (ltOf (byCount c)) := by
  refine ⟨fun x => ?_, fun x y z h1 h2 => ?_, fun x y z h1 h2 => ?_⟩
  · rw [byCount_lt]; simp
  · rw [byCount_lt] at *; simp at *; omega
  · rw [byCount_lt] at *; simp at *; omega

/-- By how often they come, then by themselves. -/
def By (c : List Nat) (a b : Nat) : Prop := ln c a < ln c b ∨ (ln c a = ln c b ∧ a ≤ b)
instance (c : List Nat) (a b : Nat) : Decidable (By c a b) := by unfold By; infer_instance
theorem By.rise {c l : List Nat} (h : l.Pairwise (By c)) : Rise (l.map (ln c)) := List.pairwise_map.2 (h.imp fun h => by unfold By at h; omega)
theorem By.trans {c : List Nat} {x y z : Nat} (h1 : By c x y) (h2 : By c y z) : By c x z := by unfold By at *; omega
theorem By.total (c : List Nat) (x y : Nat) : By c x y ∨ By c y x := by unfold By; omega
/-- Symbols in the order in which the program sorts them. -/
def canon (c l : List Nat) : List Nat := l.mergeSort fun a b => decide (By c a b)
theorem canon_eq {c l ss : List Nat} (hp : ss.Perm l) (h : ss.Pairwise (By c)) : ss = canon c l := by
  have h1 : (canon c l).Pairwise (By c) := (List.pairwise_mergeSort (le := fun a b => decide (By c a b)) (fun x y z h1 h2 => decide_eq_true ((of_decide_eq_true h1).trans (of_decide_eq_true h2))) (fun x y => by rcases By.total c x y with h | h <;> simp [h]) l).imp fun h => of_decide_eq_true h
  exact (hp.trans (List.mergeSort_perm l _).symm).eq_of_pairwise (fun a b _ _ h1 h2 => by unfold By at h1 h2; omega) h h1

/-- The closure that compares: two symbols that the table has, in whatever world in which its cell holds the table. -/
theorem closure (c : List Nat) (A : Option Addr) (n k q B x y : Nat) (w : World) (h : See w B A (ints c)) (hn : c.length = n) (hx : x < n) (hy : y < n) (hq : ∀ m, (w.drewN m).cell? ⟨q, 0, none⟩ = some (.slice A n k)) :
    Calls Tryz.prog 124 #[.int .i64 (x : Nat), .int .i64 (y : Nat), .pointer (some ⟨q, 0, none⟩)] w fun e w' => e = .returned (.int .i64 (byCount c x y)) ∧ ∃ m, w' = w.drewN m := by
  obtain ⟨b, off, rfl, _, h1⟩ := h x _ (ints_at c x (by omega))
  obtain ⟨b2, off2, e2, _, h2⟩ := h y _ (ints_at c y (by omega))
  obtain ⟨rfl, rfl⟩ : b = b2 ∧ off = off2 := by simpa using e2
  have h1 : ∀ m, (w.drewN m).cell? ⟨b, off + x, none⟩ = some (.int .i64 (ln c x : Nat)) := fun _ => h1
  have h2 : ∀ m, (w.drewN m).cell? ⟨b, off + y, none⟩ = some (.int .i64 (ln c y : Nat)) := fun _ => h2
  have hc : ∀ m, Calls Tryz.prog 125 #[.int .i64 (ln c x : Nat), .int .i64 (ln c y : Nat)] (w.drewN m) fun e w' => e = .returned (.int .i64 (byCount c x y)) ∧ ∃ m2, w' = w.drewN m2 := fun m => (Tryz.cmp_Compare_int _ _ _).mono fun e w' ⟨he, hw⟩ => ⟨he, m, hw⟩
  generalize byCount c x y = r at hc ⊢
  obtain ⟨X, hX⟩ : ∃ X, ln c x = X := ⟨_, rfl⟩
  obtain ⟨Y, hY⟩ : ∃ Y, ln c y = Y := ⟨_, rfl⟩
  rw [hX] at h1 hc
  rw [hY] at h2 hc
  clear hX hY h e2 hn
  go_enter Tryz.func124, Tryz.ntmps124
  go_wp2_with fail
  go_quiet (first | (go_at_call 125; exact hc _))
  go_wp2
  go_ret
  exact ⟨rfl, _, rfl⟩

/-- What the sort may have turned: the row alone. -/
theorem SW.only {α : Type} [Inhabited α] {enc : α → Value} {w0 w : World} {blk off : Nat} {d : Array α} (h : SW enc w0 blk off d w) : Only (fun j => j = blk) w0 w := by
  obtain ⟨n, os, rfl⟩ := h
  refine ⟨rfl, rfl, rfl, ?_, fun k hk hs => ?_⟩
  · unfold sortWorld
    rw [size_grow, size_putRow]
    exact Nat.le_add_right _ _
  · unfold sortWorld
    rw [heap_grow_old _ _ (by rw [size_putRow]; exact hk)]
    unfold putRow mapBlock
    simp only [Array.getElem?_modify]
    rw [if_neg (fun e => hs e.symm)]
    rfl
/-- A symbol as one of n. -/
def fin (n : Nat) (h : 0 < n) (x : Nat) : Fin n := ⟨x % n, Nat.mod_lt _ h⟩
def encF {n : Nat} (x : Fin n) : Value := .int .i64 (x.val : Nat)

theorem sorted (c ss : List Nat) (A : Option Addr) (n k q B g cap m : Nat) (w : World) (h : See w B A (ints c)) (hB : B ≤ g) (hn : c.length = n) (hn0 : 0 < n) (hq : w.cell? ⟨q, 0, none⟩ = some (.slice A n k)) (hqg : q ≠ g)
    (hr : Row 3 w (some ⟨g, 0, none⟩) m cap (ints ss)) (hs : ∀ x ∈ ss, x < n) (hinc : ss.Pairwise (fun a b => a < b)) (hm : m < 1152921504606846976) :
    Calls Tryz.prog 123 #[.slice (some ⟨g, 0, none⟩) m cap, .func (.func 124) #[] #[.pointer (some ⟨q, 0, none⟩)]] w fun e w' => e = .returned (.tuple #[]) ∧ Only (fun j => j = g) w w' ∧
      ∃ ss', ss'.Perm ss ∧ ss'.length = m ∧ See w' w'.heap.size (some ⟨g, 0, none⟩) (ints ss') ∧ ss'.Pairwise (By c) := by
  have hlen : ss.length = m := by have := hr.len; rw [ints_length] at this; exact this
  letI : Inhabited (Fin n) := ⟨fin n hn0 0⟩
  have hval : ∀ x ∈ ss, (fin n hn0 x).val = x := fun x hx => Nat.mod_eq_of_lt (hs x hx)
  obtain ⟨d, hd⟩ : ∃ d : Array (Fin n), d = (ss.map (fin n hn0)).toArray := ⟨_, rfl⟩
  have hds : d.size = m := by rw [hd]; simpa using hlen
  have hat : ∀ j, j < m → (d[j]!).val = ln ss j ∧ ln ss j ∈ ss := fun j hj => by
    have hjs : j < ss.length := by omega
    have hm : ln ss j ∈ ss := by simp [ln, hjs]
    refine ⟨?_, hm⟩
    rw [getElem!_pos d j (by omega)]
    have : d[j]'(by omega) = fin n hn0 (ln ss j) := by subst hd; simp [ln, hjs]
    rw [this]
    exact hval _ hm
  have hg : g < w.heap.size := hr.lies g ⟨_, rfl, rfl⟩
  have hH : Holds encF w g 0 d := by
    intro j hj
    obtain ⟨g', e1, e2, e3⟩ := hr.cell (ints_at ss j (by omega))
    obtain rfl : g = g' := by simpa using e1
    rw [Nat.zero_add]
    refine ⟨?_, e3⟩
    rw [e2, encF, (hat j (by omega)).1]
  have R : Row1 (encF (n := n)) w g 0 d := ⟨fun _ => rfl, hH, hg⟩
  have hcmp : CmpLays1 Tryz.prog 124 #[.pointer (some ⟨q, 0, none⟩)] (encF (n := n)) (fun a b => byCount c a.val b.val) g 0 d.size w := by
    intro mm os dk hdk x y
    have hw : SW (encF (n := n)) w g 0 dk (sortWorld encF w g 0 mm dk os) := ⟨mm, os, rfl⟩
    generalize sortWorld encF w g 0 mm dk os = W at hw ⊢
    have ho := SW.only hw
    refine (closure c A n k q B x.val y.val W (h.keep (ho.keep B fun j hj => by omega)) hn x.isLt y.isLt fun _ => ?_).mono fun e w' ⟨he, p, hp⟩ => ⟨he, p, #[], by rw [hp, grow_empty]⟩
    exact (World.cell?_of_block (ho.block q (cell_lt hq) hqg)).trans hq
  have hO : SWO (ltOf fun a b : Fin n => byCount c a.val b.val) := ⟨fun x => (byCount_swo c).irrefl x.val, fun x y z => (byCount_swo c).trans x.val y.val z.val, fun x y z => (byCount_swo c).ntrans x.val y.val z.val⟩
  have hc := sortStable (encF (n := n)) (fun a b => byCount c a.val b.val) hO 124 #[.pointer (some ⟨q, 0, none⟩)] g 0 cap d w (enters_of Tryz.func124 (by kernel_rfl) rfl) hcmp R (by omega)
  rw [hds] at hc
  refine hc.mono ?_
  rintro e w' ⟨rfl, d', hw, hp, hso⟩
  have hd's : d'.size = m := by rw [hp.1, hds]
  refine ⟨rfl, SW.only hw, d'.toList.map Fin.val, ?_, by simpa using hd's, ?_, ?_⟩
  · have h1 := hp.2.2.1.2.2
    have e1 : d'.extract 0 d.size = d' := by rw [hds, ← hd's]; simp
    have e2 : d.extract 0 d.size = d := by simp
    rw [e1, e2] at h1
    have h2 := h1.map Fin.val
    refine h2.trans ?_
    rw [hd]
    simp only [List.map_map]
    rw [List.map_congr_left (f := Fin.val ∘ fin n hn0) (g := id) fun x hx => hval x hx, List.map_id]
  · intro j v hv
    have hj : j < d'.size := by
      rcases Nat.lt_or_ge j d'.size with h1 | h1
      · exact h1
      · rw [List.getElem?_eq_none (by simpa [ints] using h1)] at hv
        cases hv
    have h1 := SW.c1 hw R (by omega) j hj
    refine ⟨g, 0, rfl, Nat.lt_of_lt_of_le hg (SW.only hw).size, ?_⟩
    rw [h1, ← hv, getElem!_pos d' j hj]
    simp [ints, encF, hj]
  · have hst : St (ltOf fun a b : Fin n => byCount c a.val b.val) (fun x => x.val) d := fun i j hij hj _ _ => by
      show (d[i]!).val ≤ (d[j]!).val
      rw [(hat i (by omega)).1, (hat j (by omega)).1]
      have h1 := List.pairwise_iff_getElem.1 hinc i j (by omega) (by omega) hij
      simp only [ln, List.getD_eq_getElem?_getD, List.getElem?_eq_getElem (show i < ss.length by omega), List.getElem?_eq_getElem (show j < ss.length by omega), Option.getD_some]
      omega
    have hst2 := hp.2.2.2 _ hst
    rw [List.pairwise_iff_getElem]
    intro i j hi hj hij
    simp only [List.length_map, Array.length_toList] at hi hj
    have h1 := hso i j (Nat.zero_le _) hij (by omega)
    have h3 := hst2 i j hij hj
    have h1 : ltOf (byCount c) (d'[j]!).val (d'[i]!).val = false := h1
    have h3 : ltOf (byCount c) (d'[i]!).val (d'[j]!).val = false → ltOf (byCount c) (d'[j]!).val (d'[i]!).val = false → (d'[i]!).val ≤ (d'[j]!).val := h3
    have h4 := fun q => h3 q h1
    rw [byCount_lt, getElem!_pos d' j hj, getElem!_pos d' i hi] at h1 h4
    simp only [decide_eq_false_iff_not, Nat.not_lt] at h1 h4
    simp only [By, List.getElem_map, Array.getElem_toList]
    rcases Nat.lt_or_ge (ln c (d'[i]).val) (ln c (d'[j]).val) with h5 | h5
    · exact .inl h5
    · exact .inr ⟨by omega, h4 h5⟩
end Go.Proofs.YtjlkjebmilfgoaaGreat
