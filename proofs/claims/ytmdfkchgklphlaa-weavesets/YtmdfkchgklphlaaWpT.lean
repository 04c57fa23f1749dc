/- Layer 16, the program: slices.SortFunc over a row of seats. -/
import Derived.Test.YtmdfkchgklphlaaWpK
import Derived.Shelf.SlSortCmp.NoneTotal
namespace Go.Proofs.Ytmdfkchgklphlaa
open Go.RowKit Go.Shelf

/-- A row of structs that the sort has laid anew. -/
theorem rs_sorted {e : TypeId} {sz : Nat} {w : World} {g n c : Nat} {vs : List Value} (h : Rs e sz w (some ⟨g, 0, none⟩) n c vs) (F : Array Value) (hF : F.size = n * sz) (q : Nat) (os : Array Obj) :
    Rs e sz (Sort.grow (Sort.putRow id (Sort.ahead w q) g 0 F) os) (some ⟨g, 0, none⟩) n c F.toList ∧ Only (fun j => j = g) w (Sort.grow (Sort.putRow id (Sort.ahead w q) g 0 F) os) := by
  obtain ⟨hl, ⟨h0, _⟩ | ⟨g', cur, hg, h2, h3, h4, h5, h6⟩⟩ := h
  · cases h0
  obtain rfl : g = g' := by injection hg with k; injection k
  have hlt : g < w.heap.size := block_lt h2
  have hsz : (Sort.putRow id (Sort.ahead w q) g 0 F).heap.size = w.heap.size := by
    unfold Sort.putRow Sort.mapBlock
    simp [Sort.ahead]
  have hat : (Sort.grow (Sort.putRow id (Sort.ahead w q) g 0 F) os).heap[g]? = some (.cells (Sort.putCells id 0 F cur) e (0, 0)) := by
    rw [Sort.heap_grow_old _ _ (by rw [hsz]; exact hlt)]
    unfold Sort.putRow Sort.mapBlock
    simp only [Array.getElem?_modify, if_true]
    show (w.heap[g]?).map _ = _
    rw [h2]
    rfl
  have hm : n * sz ≤ c * sz := Nat.mul_le_mul_right _ h3
  refine ⟨⟨by rw [Array.length_toList, hF], .inr ⟨g, _, rfl, hat, h3, h4, by unfold Sort.putCells; rw [Array.size_mapIdx, h5], ?_⟩⟩, ⟨rfl, rfl, rfl, by rw [Sort.size_grow, hsz]; exact Nat.le_add_right _ _, fun k hk hs => ?_⟩⟩
  · apply List.ext_getElem?
    intro i
    rw [List.getElem?_take]
    by_cases hi : i < n * sz
    · rw [if_pos hi, Array.getElem?_toList, Array.getElem?_toList]
      unfold Sort.putCells
      rw [Array.getElem?_mapIdx, Array.getElem?_eq_getElem (show i < cur.size by omega), Array.getElem?_eq_getElem (show i < F.size by omega), Option.map_some, if_pos (by omega), Nat.sub_zero, getElem!_pos F i (by omega)]
      rfl
    · rw [if_neg hi, Array.getElem?_toList, Array.getElem?_eq_none (by omega)]
  · rw [Sort.heap_grow_old _ _ (by rw [hsz]; exact hk)]
    unfold Sort.putRow Sort.mapBlock
    simp only [Array.getElem?_modify]
    rw [if_neg (fun e => hs e.symm)]
    rfl
/-- It holds its cells. -/
theorem rs_holds {e : TypeId} {sz : Nat} {w : World} {g n c : Nat} {F : Array Value} (h : Rs e sz w (some ⟨g, 0, none⟩) n c F.toList) : Sort.Holds id w g 0 F := fun j hj => by
  obtain ⟨g', e1, d⟩ := h.cell (i := j) (v := F[j]) (by rw [Array.getElem?_toList, Array.getElem?_eq_getElem hj])
  obtain rfl : g = g' := by injection e1 with k; injection k
  rw [Nat.zero_add, getElem!_pos F j hj]
  refine ⟨d, ?_⟩
  obtain ⟨_, ⟨h0, _⟩ | ⟨g', cur, hg, h2, _⟩⟩ := h
  · cases h0
  obtain rfl : g = g' := by injection hg with k; injection k
  simp [World.frozen?, h2]

/-- A seat whose text is not too long. -/
abbrev SeaL := { s : Sea // s.1.length ≤ 100000 }
instance : Inhabited SeaL := ⟨⟨sea0, by show 0 ≤ _; omega⟩⟩
def encL (s : SeaL) : List Value := seaV s.1
def cfL (a b : SeaL) : Int := cfS a.1 b.1
theorem flat_sea (d : Array SeaL) : (Sort.flatK encL 2 d).toList = seaC (d.toList.map (·.1)) := by
  apply List.ext_getElem?
  intro t
  have hl : (seaC (d.toList.map (·.1))).length = d.size * 2 := by rw [seaC_length, List.length_map, Array.length_toList]
  rcases Nat.lt_or_ge t (d.size * 2) with h | h
  · have h1 := Sort.get_flatK encL 2 d t h
    rw [getElem!_pos _ t (by rw [Sort.size_flatK]; exact h)] at h1
    rw [Array.getElem?_toList, Array.getElem?_eq_getElem (by rw [Sort.size_flatK]; exact h), h1]
    have hi : t / 2 < d.size := by omega
    obtain ⟨e0, e1⟩ := seaC_at (d.toList.map (·.1)) (t / 2) (by rw [List.length_map, Array.length_toList]; exact hi)
    have ed : (d.toList.map (·.1)).getD (t / 2) sea0 = (d[t / 2]!).1 := by
      rw [List.getD_eq_getElem?_getD, List.getElem?_map, Array.getElem?_toList, Array.getElem?_eq_getElem hi, getElem!_pos d _ hi]
      rfl
    rw [ed] at e0 e1
    rcases Nat.mod_two_eq_zero_or_one t with g | g
    · rw [g]
      rw [show t / 2 * 2 = t by omega] at e0
      exact e0.symm
    · rw [g]
      rw [show t / 2 * 2 + 1 = t by omega] at e1
      exact e1.symm
  · exact (List.getElem?_eq_none (by rw [Array.length_toList, Sort.size_flatK]; exact h)).trans (List.getElem?_eq_none (by rw [hl]; exact h)).symm
theorem ltL (a b : SeaL) : ltOf cfL a b = decide (cfL a b < 0) := rfl
theorem ltL_iff (a b : SeaL) : ltOf cfL a b = true ↔ ltS a.1 b.1 := by
  rw [ltL, decide_eq_true_iff]
  exact cfS_lt a.1 b.1
theorem ltL_no (a b : SeaL) : ltOf cfL a b = false ↔ ¬ ltS a.1 b.1 := by
  rw [← ltL_iff, Bool.not_eq_true]
theorem swoL : Sort.SWO (ltOf cfL) := ⟨fun x => (ltL_no x x).2 (ltS_irrefl _), fun x y z h1 h2 => (ltL_iff x z).2 (ltS_trans ((ltL_iff x y).1 h1) ((ltL_iff y z).1 h2)), fun x y z h1 h2 => (ltL_no x z).2 fun g => by
  rw [ltL_no] at h1 h2
  rcases ltS_cases x.1 y.1 with k | k | k
  · exact h1 k
  · exact h2 (k ▸ g)
  · exact h2 (ltS_trans k g)⟩

set_option maxRecDepth 20000 in
set_option maxHeartbeats 2000000 in
/-- A row of seats is sorted. -/
theorem psort (g m cap : Nat) (out : List Sea) (w : World) (h : Rs 41 2 w (some ⟨g, 0, none⟩) m cap (seaC out)) (hl : out.length = m) (hs : ∀ s ∈ out, s.1.length ≤ 100000) (hm : m ≤ 1000000) :
    Calls Try.prog 20 #[.slice (some ⟨g, 0, none⟩) m cap, .func (.func 21) #[] #[]] w fun e w' => e = .returned (.tuple #[]) ∧ Only (fun j => j = g) w w' ∧ ∃ D : List Sea, D.Perm out ∧ Up D ∧ Rs 41 2 w' (some ⟨g, 0, none⟩) m cap (seaC D) := by
  obtain ⟨d, hd⟩ : ∃ d : Array SeaL, d.toList.map (·.1) = out := ⟨(out.attachWith _ hs).toArray, List.attachWith_map_subtype_val hs⟩
  have hds : d.size = m := by rw [← hl, ← hd, List.length_map, Array.length_toList]
  have hg : g < w.heap.size := by
    obtain ⟨_, ⟨h0, _⟩ | ⟨g', cur, hg, h2, _⟩⟩ := h
    · cases h0
    obtain rfl : g = g' := by injection hg with k; injection k
    exact block_lt h2
  have hH : Sort.HoldsK encL 2 w g 0 d := rs_holds (e := 41) (sz := 2) (n := m) (c := cap) (by rw [flat_sea, hd]; exact h)
  have hcmp : CmpLays Try.prog 21 #[] encL 2 cfL g 0 d.size w := fun _ _ _ _ x y => pcmpS x.1 y.1 _ x.2
  have H := AnyQ.slices_SortFunc_total Try.sortSeats 2 Try.isAgg41 Try.sizeOf41 encL (fun _ => rfl) (fun x v hv => by
    simp only [encL, seaV, List.mem_cons, List.not_mem_nil, or_false] at hv
    rcases hv with rfl | rfl <;> rfl) cfL swoL 21 #[] g 0 cap d w (enters_of Try.func21 (by kernel_rfl) rfl) hcmp hH hg (by omega) (fun x y h1 h2 => by
    rw [ltL_no] at h1 h2
    rcases ltS_cases x.1 y.1 with k | k | k
    · exact (h1 k).elim
    · exact Subtype.ext k
    · exact (h2 k).elim)
  rw [hds] at H
  refine Calls.mono H ?_
  rintro e w' ⟨rfl, n, os, rfl⟩
  obtain ⟨d', hd'⟩ : ∃ d' : Array SeaL, (d.toList.mergeSort fun x y => !(ltOf cfL) y x).toArray = d' := ⟨_, rfl⟩
  have hp : d'.toList.Perm d.toList := by
    rw [← hd']
    exact List.mergeSort_perm ..
  have hu : d'.toList.Pairwise fun x y => (!(ltOf cfL) y x) = true := by
    rw [← hd']
    refine List.pairwise_mergeSort (fun a b c h1 h2 => ?_) (fun a b => ?_) _
    · rw [Bool.not_eq_true'] at h1 h2 ⊢
      exact swoL.ntrans c b a h2 h1
    · rcases ltS_cases a.1 b.1 with k | k | k
      · rw [(ltL_no b a).2 (ltS_not k)]
        rfl
      · rw [(ltL_no b a).2 (by rw [k]; exact ltS_irrefl _)]
        rfl
      · rw [(ltL_no a b).2 (ltS_not k), Bool.not_false, Bool.or_true]
  rw [hd']
  have hsz : d'.size = m := by rw [← Array.length_toList, hp.length_eq, Array.length_toList, hds]
  obtain ⟨h1, h2⟩ := rs_sorted h (Sort.flatK encL 2 d') (by rw [Sort.size_flatK, hsz]) n os
  rw [flat_sea] at h1
  refine ⟨rfl, h2, d'.toList.map (fun s : SeaL => s.1), by rw [← hd]; exact hp.map _, ?_, h1⟩
  refine List.pairwise_map.2 ?_
  exact hu.imp fun {a b} k => (ltL_no b a).1 (by rwa [Bool.not_eq_true'] at k)
/-- Nothing to sort. -/
theorem psort0 (A : Option Addr) (cap : Nat) (fv : Value) (w : World) : Calls Try.prog 20 #[.slice A 0 cap, fv] w fun e w' => e = .returned (.tuple #[]) ∧ w' = w :=
  AnyF.slices_SortFunc_none Try.sortSeats A cap fv w
end Go.Proofs.Ytmdfkchgklphlaa
