/- Layer 15: rows of deeds and of nodes that come in, a node by value. -/
import Derived.Test.YtaeaomlhbdbbfaaGreatDoorTnV
import Derived.Test.YtaeaomlhbdbbfaaGreatDoorGOpen
namespace Go.Proofs.YtaeaomlhbdbbfaaGreatDoor
open Go.RowKit Go.ChangeShapes Go.WideShapes Go.Deep

section
variable {H : Type} {enc : TypeId × Value → H} {w : World} {spare : Nat → Bool} {held : Bool}
theorem cellsS : Tryz.prog.cellsOf 9 = 1 := by kernel_rfl
theorem cellsB : Tryz.prog.cellsOf 4 = 1 := by kernel_rfl
theorem cellsI : Tryz.prog.cellsOf 3 = 1 := by kernel_rfl
theorem cellsU : Tryz.prog.cellsOf 5 = 1 := by kernel_rfl
theorem cellsNd : Tryz.prog.cellsOf 29 = 5 := by kernel_rfl
theorem cellsDd : Tryz.prog.cellsOf 31 = 6 := by kernel_rfl
theorem nds_flat (ps : List Nd) : ps.flatMap ndVals = nds ps := by
  induction ps with
  | nil => rfl
  | cons p r ih => rw [List.flatMap_cons, ih]; rfl
def ddVals (d : Dd) : List Value := .int .u8 d.k :: ndVals d.n
theorem dds_flat (ds : List Dd) : ds.flatMap ddVals = dds ds := by
  induction ds with
  | nil => rfl
  | cons d r ih => rw [List.flatMap_cons, ih]; rfl
theorem bounds_64 {z : Int} (h : (Lit.int .i64 z).wf = true) : -9223372036854775808 ≤ z ∧ z ≤ 9223372036854775807 := by
  simp only [Lit.wf, Bool.and_eq_true, decide_eq_true_eq] at h
  exact h
set_option maxRecDepth 20000 in
/-- A node's five cells. -/
theorem one_node {fuel : Nat} {cs : List Value} {x : DataW H × List MemPlace} (h : DataW.trod enc Tryz.prog w 0 spare held fuel 29 cs = some x) : ∃ n : Nd, cs = ndVals n ∧ NdR n := by
  obtain ⟨xs, k, _, _, hlen, hxl, hff⟩ := DataW.trod_struct Tryz.underlying29 h
  rw [cellsNd] at hlen
  match cs, hlen with
  | [e0, e1, e2, e3, e4], _ =>
    have f0 := hff 0 _ rfl
    have f1 := hff 1 _ rfl
    have f2 := hff 2 _ rfl
    have f3 := hff 3 _ rfl
    have f4 := hff 4 _ rfl
    match xs, hxl with
    | [y0, y1, y2, y3, y4], _ =>
      simp [cellsS] at f0
      simp [cellsB] at f1
      simp [cellsS] at f2
      simp [cellsI] at f3
      simp [cellsI] at f4
      obtain ⟨pa, h0, _, _⟩ := DataW.trod_string Tryz.underlying9 f0
      obtain ⟨di, h1, _⟩ := DataW.trod_bool Tryz.underlying4 f1
      obtain ⟨da, h2, _, _⟩ := DataW.trod_string Tryz.underlying9 f2
      obtain ⟨mo, h3, _, w3⟩ := DataW.trod_int Tryz.underlying3 f3
      obtain ⟨ti, h4, _, w4⟩ := DataW.trod_int Tryz.underlying3 f4
      simp at h0 h1 h2 h3 h4
      subst h0 h1 h2 h3 h4
      exact ⟨⟨pa.data.toList, di, da.data.toList, mo, ti⟩, rfl, (bounds_64 w3).1, (bounds_64 w3).2, (bounds_64 w4).1, (bounds_64 w4).2⟩
set_option maxRecDepth 20000 in
theorem one_deed15 {fuel : Nat} {cs : List Value} {x : DataW H × List MemPlace} (h : DataW.trod enc Tryz.prog w 0 spare held fuel 31 cs = some x) : ∃ d : Dd, cs = ddVals d ∧ NdR d.n ∧ d.k < 256 := by
  obtain ⟨xs, k, _, _, hlen, hxl, hff⟩ := DataW.trod_struct Tryz.underlying31 h
  rw [cellsDd] at hlen
  match cs, hlen with
  | [e0, e1, e2, e3, e4, e5], _ =>
    have f0 := hff 0 _ rfl
    have f1 := hff 1 _ rfl
    match xs, hxl with
    | [y0, y1], _ =>
      simp [cellsU] at f0
      simp [cellsNd] at f1
      obtain ⟨k, h0, _, w0⟩ := DataW.trod_int Tryz.underlying5 f0
      obtain ⟨n, h1, h2⟩ := one_node f1
      simp at h0
      subst h0
      simp only [Lit.wf, Bool.and_eq_true, decide_eq_true_eq] at w0
      have w1 : 0 ≤ k := w0.1
      have w2 : k ≤ 255 := w0.2
      refine ⟨⟨k.toNat, n⟩, ?_, h2, by show k.toNat < 256; omega⟩
      rw [ddVals, ← h1, Int.toNat_of_nonneg w1]
set_option maxRecDepth 20000 in
/-- A node by value. -/
theorem open_nodeV {b0 : Nat} {v : Value} {d : DataW H} {p : List MemPlace} (hv : Value.okWide Tryz.prog w .any b0 29 v) (h : DataW.Trod enc Tryz.prog w 0 spare held 29 v d p) : ∃ n : Nd, v = .agg (ndVals n).toArray ∧ NdR n := by
  obtain ⟨cs, rfl, _, _⟩ : ∃ cs, v = .agg cs ∧ cs.size = Tryz.prog.cellsOf 29 ∧ Row.okWide Tryz.prog w .any b0 29 cs := by simpa [Value.okWide, Tryz.underlying29] using hv
  obtain ⟨fuel, hf⟩ := h
  obtain ⟨n, h1, h2⟩ := one_node hf
  have h3 : cs.toList = ndVals n := h1
  exact ⟨n, by rw [← h3], h2⟩
theorem open_nodes {A : Option Addr} {n c : Nat} {d : DataW H} {p : List MemPlace} (h : DataW.Trod enc Tryz.prog w 0 spare held 27 (.slice A n c) d p) : n ≤ maxLen ∧ ∃ ps : List Nd, ps.length = n ∧ See w w.heap.size A (nds ps) ∧ ∀ p ∈ ps, NdR p := by
  obtain ⟨h1, ps, h2, h3, h4⟩ := open_any Tryz.underlying27 ndVals NdR (by decide) cellsNd (fun _ => rfl) (fun fuel cs x hx => one_node hx) h
  rw [nds_flat] at h3
  exact ⟨h1, ps, h2, h3, h4⟩
theorem open_deeds15 {A : Option Addr} {n c : Nat} {d : DataW H} {p : List MemPlace} (h : DataW.Trod enc Tryz.prog w 0 spare held 22 (.slice A n c) d p) : n ≤ maxLen ∧ ∃ ds : List Dd, ds.length = n ∧ See w w.heap.size A (dds ds) ∧ ∀ d ∈ ds, NdR d.n ∧ d.k < 256 := by
  obtain ⟨h1, ds, h2, h3, h4⟩ := open_any Tryz.underlying22 ddVals (fun d => NdR d.n ∧ d.k < 256) (by decide) cellsDd (fun _ => rfl) (fun fuel cs x hx => one_deed15 hx) h
  rw [dds_flat] at h3
  exact ⟨h1, ds, h2, h3, h4⟩
end
end Go.Proofs.YtaeaomlhbdbbfaaGreatDoor
