/- The list of deeds that the laws of layer 1 take: what its reading says of memory. -/
import Derived.Test.YthocfdkheikeoaaAwake
import Derived.Deep.Slices
import Derived.Deep.Fields
import Derived.ChangeSame
import Derived.OpenShut
namespace Go.Proofs.Ythocfdkheikeoaa
open Go.RowKit Go.ChangeShapes Go.WideShapes Go.Deep

structure Dd where
  k : Nat
  v : Nat
  n : Int
  s : ByteArray

/-- The slice 'A, n, ..' reads as the deeds ds, below block B. -/
def Deeds (w : World) (B : Nat) (A : Option Addr) (n : Nat) (ds : List Dd) : Prop :=
  ds.length = n ∧ ∀ (i : Nat) (d : Dd), ds[i]? = some d → d.k < 256 ∧ d.v < 4294967296 ∧ d.s.size ≤ maxLen ∧ ∃ b off, A = some ⟨b, off, none⟩ ∧ b < B ∧
    w.cell? ⟨b, off + i * 4, none⟩ = some (.int .u8 d.k) ∧ w.cell? ⟨b, off + i * 4 + 1, none⟩ = some (.int .u32 d.v) ∧ w.cell? ⟨b, off + i * 4 + 2, none⟩ = some (.int .i64 d.n) ∧ w.cell? ⟨b, off + i * 4 + 3, none⟩ = some (.string d.s)

theorem Deeds.below {w w' : World} {B : Nat} {A : Option Addr} {n : Nat} {ds : List Dd} (h : Deeds w B A n ds) (k : Below B w w') : Deeds w' B A n ds := by
  refine ⟨h.1, fun i d hd => ?_⟩
  obtain ⟨h1, h2, h3, b, off, hA, hb, c0, c1, c2, c3⟩ := h.2 i d hd
  exact ⟨h1, h2, h3, b, off, hA, hb, (k.cell hb).trans c0, (k.cell hb).trans c1, (k.cell hb).trans c2, (k.cell hb).trans c3⟩

theorem cells33 : Try.prog.cellsOf 33 = 4 := by kernel_rfl
theorem cells5 : Try.prog.cellsOf 5 = 1 := by kernel_rfl
theorem cells31 : Try.prog.cellsOf 31 = 1 := by kernel_rfl
theorem cells3 : Try.prog.cellsOf 3 = 1 := by kernel_rfl
theorem cells9 : Try.prog.cellsOf 9 = 1 := by kernel_rfl

/-- One deed out of four cells. -/
theorem one_deed {H : Type} {enc : TypeId × Value → H} {w : World} {base fuel : Nat} {spare : Nat → Bool} {held : Bool} {cs : List Value} {x : DataW H × List MemPlace} (h : DataW.trod enc Try.prog w base spare held fuel 33 cs = some x) :
    ∃ d : Dd, d.k < 256 ∧ d.v < 4294967296 ∧ d.s.size ≤ maxLen ∧ cs = [.int .u8 d.k, .int .u32 d.v, .int .i64 d.n, .string d.s] := by
  obtain ⟨xs, n, _, _, hlen, hxl, hf⟩ := DataW.trod_struct Try.underlying33 h
  rw [cells33] at hlen
  match cs, hlen with
  | [e0, e1, e2, e3], _ =>
    have f0 := hf 0 _ rfl
    have f1 := hf 1 _ rfl
    have f2 := hf 2 _ rfl
    have f3 := hf 3 _ rfl
    match xs, hxl with
    | [y0, y1, y2, y3], _ =>
      simp [cells5] at f0
      simp [cells31] at f1
      simp [cells3] at f2
      simp [cells9] at f3
      obtain ⟨a0, h0, _, w0⟩ := DataW.trod_int Try.underlying5 f0
      obtain ⟨a1, h1, _, w1⟩ := DataW.trod_int Try.underlying31 f1
      obtain ⟨a2, h2, _, w2⟩ := DataW.trod_int Try.underlying3 f2
      obtain ⟨a3, h3, _, w3⟩ := DataW.trod_string Try.underlying9 f3
      simp at h0 h1 h2 h3
      subst h0 h1 h2 h3
      have b0 := bounds_u8 w0
      have b1 := bounds_u32 w1
      refine ⟨⟨a0.toNat, a1.toNat, a2, a3⟩, by show a0.toNat < 256; omega, by show a1.toNat < 4294967296; omega, w3, ?_⟩
      simp only [List.cons.injEq, Value.int.injEq, true_and, and_true]
      omega

theorem list_of {α : Type} (n : Nat) (p : Nat → α → Prop) (h : ∀ i, i < n → ∃ d, p i d) : ∃ ds : List α, ds.length = n ∧ ∀ (i : Nat) (d : α), ds[i]? = some d → p i d := by
  induction n with
  | zero => exact ⟨[], rfl, fun i d hd => by simp at hd⟩
  | succ n ih =>
    obtain ⟨ds, hl, hp⟩ := ih fun i hi => h i (by omega)
    obtain ⟨d, hd⟩ := h n (by omega)
    refine ⟨ds ++ [d], by simp [hl], fun i d' hd' => ?_⟩
    rcases Nat.lt_or_ge i ds.length with hi | hi
    · rw [List.getElem?_append_left hi] at hd'
      exact hp i d' hd'
    · rw [List.getElem?_append_right hi] at hd'
      rcases Nat.eq_zero_or_pos (i - ds.length) with h0 | h0
      · rw [h0] at hd'
        simp at hd'
        subst hd'
        rw [show i = n by omega]
        exact hd
      · rw [List.getElem?_eq_none (by simp; omega)] at hd'
        cases hd'

theorem open_deeds {H : Type} {enc : TypeId × Value → H} {w : World} {spare : Nat → Bool} {held : Bool} {A : Option Addr} {n c : Nat} {d : DataW H} {p : List MemPlace} (h : DataW.Trod enc Try.prog w 0 spare held 22 (.slice A n c) d p) :
    n ≤ maxLen ∧ ∃ ds, Deeds w w.heap.size A n ds := by
  obtain ⟨fuel, hf⟩ := h
  rcases open_slice Try.underlying22 hf with ⟨hcs, _⟩ | ⟨a, l, c', m, n', D, Pl, hcs, _, hl, hc, hm, _, hi⟩
  · simp [Value.cells] at hcs
    obtain ⟨rfl, rfl, rfl⟩ := hcs
    exact ⟨Nat.zero_le _, [], rfl, fun i d hd => by simp at hd⟩
  · simp [Value.cells] at hcs
    obtain ⟨rfl, rfl, rfl⟩ := hcs
    obtain ⟨b, off, spot⟩ := a
    have hspot : 0 < n → spot = none := by
      intro h0
      obtain ⟨cs', h1, h2⟩ := hi 0 (by rw [hm]; split <;> omega)
      rw [cells33] at h1
      obtain ⟨_, h4, h5⟩ := World.cells?_some h1
      obtain ⟨d, _, _, _, rfl⟩ := one_deed h2
      have e0 := h5 0 (by omega)
      simp only [List.getElem?_cons_zero, Addr.add, Nat.zero_mul, if_true] at e0
      exact World.cell?_spot e0
    refine ⟨by omega, list_of n _ fun i hin => ?_⟩
    obtain rfl := hspot (by omega)
    have him : i < m := by rw [hm]; split <;> omega
    obtain ⟨cs', h1, h2⟩ := hi i him
    rw [cells33] at h1
    obtain ⟨_, h4, h5⟩ := World.cells?_some h1
    obtain ⟨d, k1, k2, k3, rfl⟩ := one_deed h2
    have e0 := h5 0 (by omega)
    have e1 := h5 1 (by omega)
    have e2 := h5 2 (by omega)
    have e3 := h5 3 (by omega)
    simp only [List.getElem?_cons_zero, List.getElem?_cons_succ, Addr.add_lit, Nat.add_zero] at e0 e1 e2 e3
    refine ⟨d, k1, k2, k3, b, off, rfl, ?_, e0, e1, e2, e3⟩
    rcases Nat.lt_or_ge b w.heap.size with hlt | hge
    · exact hlt
    · simp [World.cell?, Array.getElem?_eq_none hge] at e0
end Go.Proofs.Ythocfdkheikeoaa
