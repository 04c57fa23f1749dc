/- Tokens and pieces that come in: what their reading says of memory. -/
import Derived.Test.YtoclbodmibagpaaGreatTLaid
import Derived.Deep.Slices
import Derived.Deep.Fields
import Derived.ChangeSame
import Derived.OpenShut
import Derived.Test.YtoclbodmibagpaaGreatKTok
/- The tokens that InflateTokens and InflateCut take: what their reading says of memory. -/
namespace Go.Proofs.YtoclbodmibagpaaGreat
open Go.RowKit Go.ChangeShapes Go.WideShapes Go.Deep

theorem tt_cells30 : Tryz.prog.cellsOf 81 = 3 := by kernel_rfl
theorem tt_cells5 : Tryz.prog.cellsOf 5 = 1 := by kernel_rfl
theorem tt_cells3 : Tryz.prog.cellsOf 3 = 1 := by kernel_rfl

set_option maxRecDepth 100000
/-- One token out of three cells. -/
theorem tt_one_token {H : Type} {enc : TypeId × Value → H} {w : World} {base fuel : Nat} {spare : Nat → Bool} {held : Bool} {cs : List Value} {x : DataW H × List MemPlace} (h : DataW.trod enc Tryz.prog w base spare held fuel 81 cs = some x) : ∃ t : Tk, cs = tkc t := by
  obtain ⟨xs, n, _, _, hlen, hxl, hf⟩ := DataW.trod_struct Tryz.underlying81 h
  rw [tt_cells30] at hlen
  match cs, hlen with
  | [e0, e1, e2], _ =>
    have f0 := hf 0 _ rfl
    have f1 := hf 1 _ rfl
    have f2 := hf 2 _ rfl
    match xs, hxl with
    | [y0, y1, y2], _ =>
      simp [tt_cells5] at f0
      simp [tt_cells3] at f1
      simp [tt_cells3] at f2
      obtain ⟨a0, h0, _, w0⟩ := DataW.trod_int Tryz.underlying5 f0
      obtain ⟨a1, h1, _, w1⟩ := DataW.trod_int Tryz.underlying3 f1
      obtain ⟨a2, h2, _, w2⟩ := DataW.trod_int Tryz.underlying3 f2
      simp at h0 h1 h2
      subst h0 h1 h2
      have b0 := bounds_u8 w0
      refine ⟨⟨UInt8.ofNat a0.toNat, a1, a2⟩, ?_⟩
      simp only [tkc, List.cons.injEq, Value.int.injEq, true_and, and_true]
      rw [UInt8.toNat_ofNat_of_lt' (by show a0.toNat < 256; omega)]
      omega
theorem tt_tks_get : ∀ (ts : List Tk) (k : Nat) (v : Value), (tks ts)[k]? = some v → ∃ (i j : Nat) (t : Tk), k = i * 3 + j ∧ ts[i]? = some t ∧ (tkc t)[j]? = some v
  | [], k, v, h => by simp [tks] at h
  | x :: r, k, v, h => by
    simp only [tks, List.flatMap_cons] at h
    rcases Nat.lt_or_ge k 3 with hk | hk
    · rw [List.getElem?_append_left (by simpa [tkc] using hk)] at h
      exact ⟨0, k, x, by omega, rfl, h⟩
    · rw [List.getElem?_append_right (by simpa [tkc] using hk)] at h
      obtain ⟨i, j, t, h1, h2, h3⟩ := tt_tks_get r (k - 3) v (by simpa [tkc, tks] using h)
      exact ⟨i + 1, j, t, by omega, by simpa using h2, h3⟩
theorem tt_list_of {α : Type} (n : Nat) (p : Nat → α → Prop) (h : ∀ i, i < n → ∃ d, p i d) : ∃ ds : List α, ds.length = n ∧ ∀ (i : Nat) (d : α), ds[i]? = some d → p i d := by
  induction n with
  | zero => exact ⟨[], rfl, fun i d hd => by simp at hd⟩
  | succ n ih =>
    obtain ⟨ds, hl, hp⟩ := ih fun i hi => h i (by omega)
    obtain ⟨d, hd⟩ := h n (by omega)
    refine ⟨ds ++ [d], by simp [hl], fun i d' hd' => ?_⟩
    rcases Nat.lt_or_ge i ds.length with hi | hi
    · rw [List.getElem?_append_left hi] at hd'
      exact hp i d' hd'
    · rw [List.getElem?_append_right hi] at hd'
      rcases Nat.eq_zero_or_pos (i - ds.length) with h0 | h0
      · rw [h0] at hd'
        simp at hd'
        subst hd'
        rw [show i = n by omega]
        exact hd
      · rw [List.getElem?_eq_none (by simp; omega)] at hd'
        cases hd'
theorem open_tokens {H : Type} {enc : TypeId × Value → H} {w : World} {spare : Nat → Bool} {held : Bool} {A : Option Addr} {n c : Nat} {d : DataW H} {p : List MemPlace} (h : DataW.Trod enc Tryz.prog w 0 spare held 22 (.slice A n c) d p) :
    ∃ ts : List Tk, ts.length = n ∧ See w w.heap.size A (tks ts) := by
  obtain ⟨fuel, hf⟩ := h
  rcases open_slice Tryz.underlying22 hf with ⟨hcs, _⟩ | ⟨a, l, c', m, n', D, Pl, hcs, _, hl, hc, hm, _, hi⟩
  · simp [Value.cells] at hcs
    obtain ⟨rfl, rfl, rfl⟩ := hcs
    exact ⟨[], rfl, fun i d hd => by simp [tks] at hd⟩
  · simp [Value.cells] at hcs
    obtain ⟨rfl, rfl, rfl⟩ := hcs
    obtain ⟨b, off, spot⟩ := a
    have hspot : 0 < n → spot = none := by
      intro h0
      obtain ⟨cs', h1, h2⟩ := hi 0 (by rw [hm]; split <;> omega)
      rw [tt_cells30] at h1
      obtain ⟨_, h4, h5⟩ := World.cells?_some h1
      obtain ⟨t, rfl⟩ := tt_one_token h2
      have e0 := h5 0 (by omega)
      simp only [tkc, List.getElem?_cons_zero, Addr.add, Nat.zero_mul, if_true] at e0
      exact World.cell?_spot e0
    obtain ⟨ts, ht, hp⟩ := tt_list_of n (fun i t => ∀ j v, (tkc t)[j]? = some v → w.cell? ⟨b, off + (i * 3 + j), none⟩ = some v) fun i hin => by
      obtain rfl := hspot (by omega)
      have him : i < m := by rw [hm]; split <;> omega
      obtain ⟨cs', h1, h2⟩ := hi i him
      rw [tt_cells30] at h1
      obtain ⟨_, h4, h5⟩ := World.cells?_some h1
      obtain ⟨t, rfl⟩ := tt_one_token h2
      refine ⟨t, fun j v hj => ?_⟩
      have hj3 : j < 3 := by
        rcases Nat.lt_or_ge j 3 with hh | hh
        · exact hh
        · rw [List.getElem?_eq_none (by simpa [tkc] using hh)] at hj; cases hj
      have e0 := h5 j hj3
      rw [Addr.add_lit, Addr.add_lit, hj] at e0
      rw [show off + (i * 3 + j) = off + i * 3 + j from by omega]
      exact e0
    refine ⟨ts, ht, fun k v hk => ?_⟩
    obtain ⟨i, j, t, rfl, h2, h3⟩ := tt_tks_get ts k v hk
    have hin : i < n := by
      rcases Nat.lt_or_ge i n with hh | hh
      · exact hh
      · rw [List.getElem?_eq_none (by omega)] at h2; cases h2
    obtain rfl := hspot (by omega)
    have hc := hp i t h2 j v h3
    exact ⟨b, off, rfl, cell_lt hc, hc⟩
end Go.Proofs.YtoclbodmibagpaaGreat

/- Layer 11: pieces that come in: what their reading says of memory. -/
namespace Go.Proofs.YtoclbodmibagpaaGreat
open Go.RowKit Go.ChangeShapes Go.WideShapes Go.Deep

/-- A piece as it lies: its number, its bytes, its tokens. -/
structure PcM where
  k : Nat
  S : ByteArray
  A : Option Addr
  n : Nat
  c : Nat
  ts : List Tk
def pcc (p : PcM) : List Value := [.int .u8 p.k, .string p.S, .slice p.A p.n p.c]
theorem op_cellsP : Tryz.prog.cellsOf 24 = 3 := by kernel_rfl
theorem op_cells9 : Tryz.prog.cellsOf 9 = 1 := by kernel_rfl
theorem op_cellsT : Tryz.prog.cellsOf 22 = 1 := by kernel_rfl
set_option maxRecDepth 100000
/-- One piece out of three cells. -/
theorem one_piece {H : Type} {enc : TypeId × Value → H} {w : World} {fuel : Nat} {spare : Nat → Bool} {held : Bool} {cs : List Value} {x : DataW H × List MemPlace} (h : DataW.trod enc Tryz.prog w 0 spare held fuel 24 cs = some x) :
    ∃ p : PcM, cs = pcc p ∧ p.k < 256 ∧ p.ts.length = p.n ∧ See w w.heap.size p.A (tks p.ts) := by
  obtain ⟨xs, n, _, _, hlen, hxl, hff⟩ := DataW.trod_struct Tryz.underlying24 h
  rw [op_cellsP] at hlen
  match cs, hlen with
  | [e0, e1, e2], _ =>
    have f0 := hff 0 _ rfl
    have f1 := hff 1 _ rfl
    have f2 := hff 2 _ rfl
    match xs, hxl with
    | [y0, y1, y2], _ =>
      simp [tt_cells5] at f0
      simp [op_cells9] at f1
      simp [op_cellsT] at f2
      obtain ⟨κ, h0, _, w0⟩ := DataW.trod_int Tryz.underlying5 f0
      obtain ⟨S, h1, _, _⟩ := DataW.trod_string Tryz.underlying9 f1
      simp at h0 h1
      subst h0 h1
      have b0 := bounds_u8 w0
      obtain ⟨k, rfl⟩ : ∃ k : Nat, κ = k := ⟨κ.toNat, by omega⟩
      rcases DataW.trod_slice Tryz.underlying22 f2 with ⟨h2, _⟩ | ⟨a, len, cap, _, _, _, _, h2, _⟩
      · simp at h2
        subst h2
        exact ⟨⟨k, S, none, 0, 0, []⟩, rfl, (by show k < 256; omega), rfl, fun i d hd => by simp [tks] at hd⟩
      · simp at h2
        subst h2
        obtain ⟨ts, h3, h4⟩ := open_tokens (A := some a) (n := len) (c := cap) ⟨n, f2⟩
        exact ⟨⟨k, S, some a, len, cap, ts⟩, rfl, (by show k < 256; omega), h3, h4⟩
theorem open_pieces {H : Type} {enc : TypeId × Value → H} {w : World} {spare : Nat → Bool} {held : Bool} {A : Option Addr} {n c : Nat} {d : DataW H} {p : List MemPlace} (h : DataW.Trod enc Tryz.prog w 0 spare held 43 (.slice A n c) d p) :
    ∃ ps : List PcM, ps.length = n ∧ ∀ (i : Nat) (q : PcM), ps[i]? = some q → q.k < 256 ∧ q.ts.length = q.n ∧ See w w.heap.size q.A (tks q.ts) ∧ ∃ b off, A = some ⟨b, off, none⟩ ∧ b < w.heap.size ∧
      w.cell? ⟨b, off + i * 3, none⟩ = some (.int .u8 q.k) ∧ w.cell? ⟨b, off + i * 3 + 1, none⟩ = some (.string q.S) ∧ w.cell? ⟨b, off + i * 3 + 2, none⟩ = some (.slice q.A q.n q.c) := by
  obtain ⟨fuel, hf⟩ := h
  rcases open_slice Tryz.underlying43 hf with ⟨hcs, _⟩ | ⟨a, l, c', m, n', D, Pl, hcs, _, hl, hc, hm, _, hi⟩
  · simp [Value.cells] at hcs
    obtain ⟨rfl, rfl, rfl⟩ := hcs
    exact ⟨[], rfl, fun i q hq => by simp at hq⟩
  · simp [Value.cells] at hcs
    obtain ⟨rfl, rfl, rfl⟩ := hcs
    obtain ⟨b, off, spot⟩ := a
    have hspot : 0 < n → spot = none := by
      intro h0
      obtain ⟨cs', h1, h2⟩ := hi 0 (by rw [hm]; split <;> omega)
      rw [op_cellsP] at h1
      obtain ⟨_, h4, h5⟩ := World.cells?_some h1
      obtain ⟨t, rfl, _⟩ := one_piece h2
      have e0 := h5 0 (by omega)
      simp only [pcc, List.getElem?_cons_zero, Addr.add, Nat.zero_mul, if_true] at e0
      exact World.cell?_spot e0
    exact tt_list_of n _ fun i hin => by
      obtain rfl := hspot (by omega)
      have him : i < m := by rw [hm]; split <;> omega
      obtain ⟨cs', h1, h2⟩ := hi i him
      rw [op_cellsP] at h1
      obtain ⟨_, h4, h5⟩ := World.cells?_some h1
      obtain ⟨q, rfl, k1, k2, k3⟩ := one_piece h2
      have e0 := h5 0 (by omega)
      have e1 := h5 1 (by omega)
      have e2 := h5 2 (by omega)
      rw [Addr.add_lit, Addr.add_lit] at e0 e1 e2
      rw [Nat.add_zero] at e0
      exact ⟨q, k1, k2, k3, b, off, rfl, cell_lt e0, e0, e1, e2⟩
end Go.Proofs.YtoclbodmibagpaaGreat
