/- Tokens and pieces that come in: what their reading says of memory; what tokens say, by the document. -/
import Derived.Test.YtjlkjebmilfgoaaGreatTLaid
import Derived.Deep.Slices
import Derived.Deep.Fields
import Derived.ChangeSame
import Derived.OpenShut
import Derived.Test.YtjlkjebmilfgoaaGreatKTok
/- Tokens and pieces that come in: what their reading says of memory. -/
/- The tokens that InflateTokens and InflateCut take: what their reading says of memory. -/
namespace Go.Proofs.YtjlkjebmilfgoaaGreat
open Go.RowKit Go.ChangeShapes Go.WideShapes Go.Deep

theorem tt_cells30 : Tryz.prog.cellsOf 81 = 3 := by kernel_rfl
theorem tt_cells5 : Tryz.prog.cellsOf 5 = 1 := by kernel_rfl
theorem tt_cells3 : Tryz.prog.cellsOf 3 = 1 := by kernel_rfl

set_option maxRecDepth 100000
/-- One token out of three cells. -/
theorem tt_one_token {H : Type} {enc : TypeId × Value → H} {w : World} {base fuel : Nat} {spare : Nat → Bool} {held : Bool} {cs : List Value} {x : DataW H × List MemPlace} (h : DataW.trod enc Tryz.prog w base spare held fuel 81 cs = some x) : ∃ t : Tk, cs = tkc t := by
  obtain ⟨xs, n, _, _, hlen, hxl, hf⟩ := DataW.trod_struct Tryz.underlying81 h
  rw [tt_cells30] at hlen
  match cs, hlen with
  | [e0, e1, e2], _ =>
    have f0 := hf 0 _ rfl
    have f1 := hf 1 _ rfl
    have f2 := hf 2 _ rfl
    match xs, hxl with
    | [y0, y1, y2], _ =>
      simp [tt_cells5] at f0
      simp [tt_cells3] at f1
      simp [tt_cells3] at f2
      obtain ⟨a0, h0, _, w0⟩ := DataW.trod_int Tryz.underlying5 f0
      obtain ⟨a1, h1, _, w1⟩ := DataW.trod_int Tryz.underlying3 f1
      obtain ⟨a2, h2, _, w2⟩ := DataW.trod_int Tryz.underlying3 f2
      simp at h0 h1 h2
      subst h0 h1 h2
      have b0 := bounds_u8 w0
      refine ⟨⟨UInt8.ofNat a0.toNat, a1, a2⟩, ?_⟩
      simp only [tkc, List.cons.injEq, Value.int.injEq, true_and, and_true]
      rw [UInt8.toNat_ofNat_of_lt' (by show a0.toNat < 256; omega)]
      omega
theorem tt_tks_get : ∀ (ts : List Tk) (k : Nat) (v : Value), (tks ts)[k]? = some v → ∃ (i j : Nat) (t : Tk), k = i * 3 + j ∧ ts[i]? = some t ∧ (tkc t)[j]? = some v
  | [], k, v, h => by simp [tks] at h
  | x :: r, k, v, h => by
    simp only [tks, List.flatMap_cons] at h
    rcases Nat.lt_or_ge k 3 with hk | hk
    · rw [List.getElem?_append_left (by simpa [tkc] using hk)] at h
      exact ⟨0, k, x, by omega, rfl, h⟩
    · rw [List.getElem?_append_right (by simpa [tkc] using hk)] at h
      obtain ⟨i, j, t, h1, h2, h3⟩ := tt_tks_get r (k - 3) v (by simpa [tkc, tks] using h)
      exact ⟨i + 1, j, t, by omega, by simpa using h2, h3⟩
theorem tt_list_of {α : Type} (n : Nat) (p : Nat → α → Prop) (h : ∀ i, i < n → ∃ d, p i d) : ∃ ds : List α, ds.length = n ∧ ∀ (i : Nat) (d : α), ds[i]? = some d → p i d := by
  induction n with
  | zero => exact ⟨[], rfl, fun i d hd => by simp at hd⟩
  | succ n ih =>
    obtain ⟨ds, hl, hp⟩ := ih fun i hi => h i (by omega)
    obtain ⟨d, hd⟩ := h n (by omega)
    refine ⟨ds ++ [d], by simp [hl], fun i d' hd' => ?_⟩
    rcases Nat.lt_or_ge i ds.length with hi | hi
    · rw [List.getElem?_append_left hi] at hd'
      exact hp i d' hd'
    · rw [List.getElem?_append_right hi] at hd'
      rcases Nat.eq_zero_or_pos (i - ds.length) with h0 | h0
      · rw [h0] at hd'
        simp at hd'
        subst hd'
        rw [show i = n by omega]
        exact hd
      · rw [List.getElem?_eq_none (by simp; omega)] at hd'
        cases hd'
theorem open_tokens {H : Type} {enc : TypeId × Value → H} {w : World} {spare : Nat → Bool} {held : Bool} {A : Option Addr} {n c : Nat} {d : DataW H} {p : List MemPlace} (h : DataW.Trod enc Tryz.prog w 0 spare held 22 (.slice A n c) d p) :
    ∃ ts : List Tk, ts.length = n ∧ See w w.heap.size A (tks ts) := by
  obtain ⟨fuel, hf⟩ := h
  rcases open_slice Tryz.underlying22 hf with ⟨hcs, _⟩ | ⟨a, l, c', m, n', D, Pl, hcs, _, hl, hc, hm, _, hi⟩
  · simp [Value.cells] at hcs
    obtain ⟨rfl, rfl, rfl⟩ := hcs
    exact ⟨[], rfl, fun i d hd => by simp [tks] at hd⟩
  · simp [Value.cells] at hcs
    obtain ⟨rfl, rfl, rfl⟩ := hcs
    obtain ⟨b, off, spot⟩ := a
    have hspot : 0 < n → spot = none := by
      intro h0
      obtain ⟨cs', h1, h2⟩ := hi 0 (by rw [hm]; split <;> omega)
      rw [tt_cells30] at h1
      obtain ⟨_, h4, h5⟩ := World.cells?_some h1
      obtain ⟨t, rfl⟩ := tt_one_token h2
      have e0 := h5 0 (by omega)
      simp only [tkc, List.getElem?_cons_zero, Addr.add, Nat.zero_mul, if_true] at e0
      exact World.cell?_spot e0
    obtain ⟨ts, ht, hp⟩ := tt_list_of n (fun i t => ∀ j v, (tkc t)[j]? = some v → w.cell? ⟨b, off + (i * 3 + j), none⟩ = some v) fun i hin => by
      obtain rfl := hspot (by omega)
      have him : i < m := by rw [hm]; split <;> omega
      obtain ⟨cs', h1, h2⟩ := hi i him
      rw [tt_cells30] at h1
      obtain ⟨_, h4, h5⟩ := World.cells?_some h1
      obtain ⟨t, rfl⟩ := tt_one_token h2
      refine ⟨t, fun j v hj => ?_⟩
      have hj3 : j < 3 := by
        rcases Nat.lt_or_ge j 3 with hh | hh
        · exact hh
        · rw [List.getElem?_eq_none (by simpa [tkc] using hh)] at hj; cases hj
      have e0 := h5 j hj3
      rw [Addr.add_lit, Addr.add_lit, hj] at e0
      rw [show off + (i * 3 + j) = off + i * 3 + j from by omega]
      exact e0
    refine ⟨ts, ht, fun k v hk => ?_⟩
    obtain ⟨i, j, t, rfl, h2, h3⟩ := tt_tks_get ts k v hk
    have hin : i < n := by
      rcases Nat.lt_or_ge i n with hh | hh
      · exact hh
      · rw [List.getElem?_eq_none (by omega)] at h2; cases h2
    obtain rfl := hspot (by omega)
    have hc := hp i t h2 j v h3
    exact ⟨b, off, rfl, cell_lt hc, hc⟩
end Go.Proofs.YtjlkjebmilfgoaaGreat

/- Layer 11: pieces that come in: what their reading says of memory. -/
namespace Go.Proofs.YtjlkjebmilfgoaaGreat
open Go.RowKit Go.ChangeShapes Go.WideShapes Go.Deep

/-- A piece as it lies: its number, its bytes, its tokens. -/
structure PcM where
  k : Nat
  S : ByteArray
  A : Option Addr
  n : Nat
  c : Nat
  ts : List Tk
def pcc (p : PcM) : List Value := [.int .u8 p.k, .string p.S, .slice p.A p.n p.c]
theorem op_cellsP : Tryz.prog.cellsOf 24 = 3 := by kernel_rfl
theorem op_cells9 : Tryz.prog.cellsOf 9 = 1 := by kernel_rfl
theorem op_cellsT : Tryz.prog.cellsOf 22 = 1 := by kernel_rfl
set_option maxRecDepth 100000
/-- One piece out of three cells. -/
theorem one_piece {H : Type} {enc : TypeId × Value → H} {w : World} {fuel : Nat} {spare : Nat → Bool} {held : Bool} {cs : List Value} {x : DataW H × List MemPlace} (h : DataW.trod enc Tryz.prog w 0 spare held fuel 24 cs = some x) :
    ∃ p : PcM, cs = pcc p ∧ p.k < 256 ∧ p.ts.length = p.n ∧ See w w.heap.size p.A (tks p.ts) := by
  obtain ⟨xs, n, _, _, hlen, hxl, hff⟩ := DataW.trod_struct Tryz.underlying24 h
  rw [op_cellsP] at hlen
  match cs, hlen with
  | [e0, e1, e2], _ =>
    have f0 := hff 0 _ rfl
    have f1 := hff 1 _ rfl
    have f2 := hff 2 _ rfl
    match xs, hxl with
    | [y0, y1, y2], _ =>
      simp [tt_cells5] at f0
      simp [op_cells9] at f1
      simp [op_cellsT] at f2
      obtain ⟨κ, h0, _, w0⟩ := DataW.trod_int Tryz.underlying5 f0
      obtain ⟨S, h1, _, _⟩ := DataW.trod_string Tryz.underlying9 f1
      simp at h0 h1
      subst h0 h1
      have b0 := bounds_u8 w0
      obtain ⟨k, rfl⟩ : ∃ k : Nat, κ = k := ⟨κ.toNat, by omega⟩
      rcases DataW.trod_slice Tryz.underlying22 f2 with ⟨h2, _⟩ | ⟨a, len, cap, _, _, _, _, h2, _⟩
      · simp at h2
        subst h2
        exact ⟨⟨k, S, none, 0, 0, []⟩, rfl, (by show k < 256; omega), rfl, fun i d hd => by simp [tks] at hd⟩
      · simp at h2
        subst h2
        obtain ⟨ts, h3, h4⟩ := open_tokens (A := some a) (n := len) (c := cap) ⟨n, f2⟩
        exact ⟨⟨k, S, some a, len, cap, ts⟩, rfl, (by show k < 256; omega), h3, h4⟩
theorem open_pieces {H : Type} {enc : TypeId × Value → H} {w : World} {spare : Nat → Bool} {held : Bool} {A : Option Addr} {n c : Nat} {d : DataW H} {p : List MemPlace} (h : DataW.Trod enc Tryz.prog w 0 spare held 43 (.slice A n c) d p) :
    ∃ ps : List PcM, ps.length = n ∧ ∀ (i : Nat) (q : PcM), ps[i]? = some q → q.k < 256 ∧ q.ts.length = q.n ∧ See w w.heap.size q.A (tks q.ts) ∧ ∃ b off, A = some ⟨b, off, none⟩ ∧ b < w.heap.size ∧
      w.cell? ⟨b, off + i * 3, none⟩ = some (.int .u8 q.k) ∧ w.cell? ⟨b, off + i * 3 + 1, none⟩ = some (.string q.S) ∧ w.cell? ⟨b, off + i * 3 + 2, none⟩ = some (.slice q.A q.n q.c) := by
  obtain ⟨fuel, hf⟩ := h
  rcases open_slice Tryz.underlying43 hf with ⟨hcs, _⟩ | ⟨a, l, c', m, n', D, Pl, hcs, _, hl, hc, hm, _, hi⟩
  · simp [Value.cells] at hcs
    obtain ⟨rfl, rfl, rfl⟩ := hcs
    exact ⟨[], rfl, fun i q hq => by simp at hq⟩
  · simp [Value.cells] at hcs
    obtain ⟨rfl, rfl, rfl⟩ := hcs
    obtain ⟨b, off, spot⟩ := a
    have hspot : 0 < n → spot = none := by
      intro h0
      obtain ⟨cs', h1, h2⟩ := hi 0 (by rw [hm]; split <;> omega)
      rw [op_cellsP] at h1
      obtain ⟨_, h4, h5⟩ := World.cells?_some h1
      obtain ⟨t, rfl, _⟩ := one_piece h2
      have e0 := h5 0 (by omega)
      simp only [pcc, List.getElem?_cons_zero, Addr.add, Nat.zero_mul, if_true] at e0
      exact World.cell?_spot e0
    exact tt_list_of n _ fun i hin => by
      obtain rfl := hspot (by omega)
      have him : i < m := by rw [hm]; split <;> omega
      obtain ⟨cs', h1, h2⟩ := hi i him
      rw [op_cellsP] at h1
      obtain ⟨_, h4, h5⟩ := World.cells?_some h1
      obtain ⟨q, rfl, k1, k2, k3⟩ := one_piece h2
      have e0 := h5 0 (by omega)
      have e1 := h5 1 (by omega)
      have e2 := h5 2 (by omega)
      rw [Addr.add_lit, Addr.add_lit] at e0 e1 e2
      rw [Nat.add_zero] at e0
      exact ⟨q, k1, k2, k3, b, off, rfl, cell_lt e0, e0, e1, e2⟩
end Go.Proofs.YtjlkjebmilfgoaaGreat

/- Layer 7: what tokens say, by the document. -/
namespace Go.Proofs.YtjlkjebmilfgoaaGreat
open Go.RowKit

set_option maxHeartbeats 8000000 in
theorem rexpand (A : Option Addr) (n c B : Nat) (ts : List Tk) (most : Int) (w : World) (h : See w B A (tks ts)) (hn : ts.length = n) (h60 : n ≤ 60) (hb1 : -9223372036854775808 ≤ most) (hb2 : most ≤ 9223372036854775807) : Calls Tryz.prog 18 #[.slice A n c, .int .i64 most] w (ExPost w (expandF most ts [])) := by
  have HS := Lib.hid h
  have HN := Lib.hid hn
  clear h hn
  go_enter Tryz.func18, Tryz.ntmps18
  go_wp2_with fail
  go_loopg [6, 7] n (fun gk v6 i wx => ∃ (j q : Nat) (A' : Option Addr) (c' : Nat) (l : List UInt8), i = .int .i64 j ∧ v6 = .slice A' q c' ∧ j + gk ≤ n ∧ n ≤ j + gk ∧ q ≤ 258 * j ∧ Hid (ExAt w ts most j l A' q c' wx))
  case atStart => exact ⟨0, 0, none, 0, [], rfl, rfl, by omega, by omega, by omega, Lib.hid ⟨rfl, rfl, Row.nil 5 w, Only.refl _ w, by rintro j ⟨ad, e, _⟩; cases e⟩⟩
  case round =>
    obtain ⟨j, q, A', c', l, rfl, rfl, hg1, hg2, hq, HE⟩ := hrel
    obtain ⟨gO, hgO⟩ : ∃ gO, gk = gO := ⟨_, rfl⟩
    by_cases hlt : j < n
    · obtain ⟨t, ht⟩ : ∃ t, ts[j]? = some t := ⟨ts[j]'(by rw [HN.out]; exact hlt), by simp [HN.out, hlt]⟩
      obtain ⟨b0, off, rfl, _, c0, c1, c2⟩ := (HS.out.new HE.out.2.2.2.1).token j t ht
      have HT := Lib.hid ht
      obtain ⟨b, tn, tk⟩ := t
      simp only at c0 c1 c2
      clear ht
      go_upto_region 6 with fail
      obtain ⟨wa, hwa⟩ : ∃ wa, wr.alloc (.cells #[.int .u8 b.toNat, .int .i64 tn, .int .i64 tk] 81) = wa := ⟨_, rfl⟩
      obtain ⟨g, hg⟩ : ∃ g, wr.heap.size = g := ⟨_, rfl⟩
      have hIa : Is wa g 81 (tkc ⟨b, tn, tk⟩) := by rw [← hwa, ← hg]; exact Is.new wr 81 _
      have HEa : Hid (ExAt w ts most j l A' q c' wa) := Lib.hid ⟨HE.out.1, HE.out.2.1, hwa ▸ HE.out.2.2.alloc _⟩
      have HG : Hid (¬ Lies A' g) := Lib.hid fun hl => by have := HE.out.2.2.1.lies g hl; omega
      have ca0 := hIa.cell 0 rfl
      have ca1 := hIa.cell 1 rfl
      have ca2 := hIa.cell 2 rfl
      have HIa := Lib.hid hIa
      rw [hwa, hg]
      clear hwa hg hIa HE c0 c1 c2
      by_cases hmay : mayB ⟨b, tn, tk⟩ = true
      · have HM := Lib.hid hmay
        clear hmay
        go_upto_region 8 with (go_at_call 37; refine (rmay ⟨b, tn, tk⟩ wa).mono ?_; rintro e w2 ⟨rfl, ho⟩; rw [HM.out]; have HO := Lib.hid ho; clear ho)
        have HI2 : Hid (Is w2 g 81 (tkc ⟨b, tn, tk⟩)) := Lib.hid (HIa.out.only HO.out fun f => f)
        have HE2 : Hid (ExAt w ts most j l A' q c' w2) := Lib.hid ⟨HEa.out.1, HEa.out.2.1, HEa.out.2.2.1.only HO.out (fun _ _ f => f), HEa.out.2.2.2.1.trans HO.out, HEa.out.2.2.2.2⟩
        have ca0 := HI2.out.cell 0 rfl
        have ca1 := HI2.out.cell 1 rfl
        have ca2 := HI2.out.cell 2 rfl
        clear HEa HIa
        by_cases hk : (q : Int) < tk
        · have HX : Hid (expandF most ts [] = ([], 2)) := Lib.hid (by rw [← HE2.out.2.1]; exact expand_far most ts j _ l HT.out HM.out (by rw [HE2.out.1]; exact hk))
          go_wp2
          go_ret2
          rw [HX.out]
          exact ⟨rfl, HE2.out.2.2.2.1⟩
        · have hk2 : tk ≤ (q : Int) := by omega
          rcases may_cases _ HM.out with ⟨h1, h2⟩ | ⟨h1, h2, h3, h4⟩
          · simp only at h1 h2
            subst h1 h2
            have HY : Hid (sayN ⟨b, 0, 0⟩ = 1) := Lib.hid rfl
            by_cases hm0 : most < 1
            · have HX : Hid (expandF most ts [] = ([], 7)) := Lib.hid (by rw [← HE2.out.2.1]; exact expand_much most ts j _ l HT.out HM.out (by rw [HE2.out.1]; exact hk2) (by rw [HE2.out.1, HY.out]; omega))
              go_wp2
              go_ret2
              rw [HX.out]
              exact ⟨rfl, HE2.out.2.2.2.1⟩
            · have hm1 : 1 ≤ most := by omega
              by_cases hm : most - 1 < (q : Int)
              · have HX : Hid (expandF most ts [] = ([], 7)) := Lib.hid (by rw [← HE2.out.2.1]; exact expand_much most ts j _ l HT.out HM.out (by rw [HE2.out.1]; exact hk2) (by rw [HE2.out.1, HY.out]; omega))
                go_wp2
                go_ret2
                rw [HX.out]
                exact ⟨rfl, HE2.out.2.2.2.1⟩
              · have hm2 : (q : Int) ≤ most - 1 := by omega
                obtain ⟨y, hy⟩ : ∃ y, b.toNat = y := ⟨_, rfl⟩
                rw [hy] at ca0
                have HB := Lib.hid hy
                clear hy
                go_upto_region 16 with fail
                go_wp2_with (at_builtin
                             refine wpList_append_row rfl (.tmp 47) (.tmp 50) 34 34 5 rfl Tryz.underlying34 info5 A' q c' 1 (bcells l) [.int .u8 (y : Nat)] (.slice (some ⟨w2.heap.size, 0, none⟩) 1 1) (by rfl) (by rfl) (HE2.out.2.2.1.alloc _) rfl (Src.oneInt Tryz.underlying34 w2 .u8 y 1 5) (by omega) (by omega) ?_
                             intro A3 c3 w3 hrow2 honly2 hlies2
                             have HR := Lib.hid hrow2
                             have HO3 := Lib.hid honly2
                             have HLI := Lib.hid hlies2
                             clear hrow2 honly2 hlies2)
                go_roundg (gO - 1)
                case measure => omega
                case rel =>
                  have hr := HR.out
                  rw [← HB.out, bcells_snoc] at hr
                  refine ⟨j + 1, q + 1, A3, c3, l ++ [b], by go_num, rfl, by omega, by omega, by omega, Lib.hid ⟨by simp [HE2.out.1], ?_, HE2.out.2.2.append hr HO3.out HLI.out⟩⟩
                  rw [← HE2.out.2.1]
                  exact (expand_on most ts j _ l HT.out HM.out (by rw [HE2.out.1]; exact hk2) (by rw [HE2.out.1, HY.out]; omega)).symm
          · simp only at h1 h2 h3 h4
            have HY : Hid (sayN ⟨b, tn, tk⟩ = tn) := Lib.hid (by unfold sayN; rw [if_neg (by simp only; omega)])
            have hn1 : (tn == 0) = false := by simp; omega
            have hn2 : ¬ tn = 0 := by omega
            by_cases hm0 : most < tn
            · have HX : Hid (expandF most ts [] = ([], 7)) := Lib.hid (by rw [← HE2.out.2.1]; exact expand_much most ts j _ l HT.out HM.out (by rw [HE2.out.1]; exact hk2) (by rw [HE2.out.1, HY.out]; omega))
              go_wp2
              go_ret2
              rw [HX.out]
              exact ⟨rfl, HE2.out.2.2.2.1⟩
            · have hm1 : tn ≤ most := by omega
              by_cases hm : most - tn < (q : Int)
              · have HX : Hid (expandF most ts [] = ([], 7)) := Lib.hid (by rw [← HE2.out.2.1]; exact expand_much most ts j _ l HT.out HM.out (by rw [HE2.out.1]; exact hk2) (by rw [HE2.out.1, HY.out]; omega))
                go_wp2
                go_ret2
                rw [HX.out]
                exact ⟨rfl, HE2.out.2.2.2.1⟩
              · have hm2 : (q : Int) ≤ most - tn := by omega
                obtain ⟨N, hN⟩ : ∃ N : Nat, tn = N := ⟨tn.toNat, by omega⟩
                obtain ⟨K, hK⟩ : ∃ K : Nat, tk = K := ⟨tk.toNat, by omega⟩
                have HNX : Hid (layF ⟨b, tn, tk⟩ l = copyF K N l) := Lib.hid (by unfold layF; rw [if_neg hn2]; simp [hN, hK])
                subst hN hK
                have HL : Hid (LaidAt w g (tkc ⟨b, N, K⟩) A' q c' (copyF K 0 l) w2) := Lib.hid ⟨HE2.out.1, HE2.out.2.2, HI2.out, HG.out⟩
                have h3' : 3 ≤ N := by omega
                have h2' : N ≤ 258 := by omega
                have h1' : 1 ≤ K := by omega
                have hk' : K ≤ q := by omega
                go_wp2_with fail
                clear ca0 ca1 ca2 HI2 HG
                go_loopg [6, 10] N (fun gk v6 i wx => ∃ (i' q' : Nat) (A'' : Option Addr) (c'' : Nat), i = .int .i64 i' ∧ v6 = .slice A'' q' c'' ∧ q + i' = q' ∧ i' + gk ≤ N ∧ N ≤ i' + gk ∧ Hid (LaidAt w g (tkc ⟨b, N, K⟩) A'' q' c'' (copyF K i' l) wx))
                case atStart => exact ⟨0, q, A', c', rfl, rfl, by omega, by omega, by omega, HL⟩
                case round =>
                  clear HL
                  obtain ⟨i', q', A'', c'', rfl, rfl, hq', hi1, hi2, HL⟩ := hrel
                  by_cases hlt2 : i' < N
                  · obtain ⟨p, hp⟩ : ∃ p, p + K = q' := ⟨q' - K, by omega⟩
                    have ep : (q' : Int) - (K : Int) = (p : Int) := by omega
                    have c2 := HL.out.2.2.1.cell 2 rfl
                    obtain ⟨g', rfl, hc, _⟩ := HL.out.2.1.1.cell (bcells_at (copyF K i' l) p (by rw [HL.out.1]; omega))
                    obtain ⟨x, hx⟩ : ∃ x, (copyF K i' l).getD p 0 = x := ⟨_, rfl⟩
                    obtain ⟨z, hz⟩ : ∃ z, x.toNat = z := ⟨_, rfl⟩
                    rw [hx, hz] at hc
                    have HX : Hid (copyF K i' l ++ [x] = copyF K (i' + 1) l) := Lib.hid (by rw [copyF_snoc, HL.out.1, ← hx]; congr 3; omega)
                    have HZ := Lib.hid hz
                    clear hx hz
                    go_upto_region 20 with fail
                    go_wp2_with (at_builtin
                                 refine wpList_append_row rfl (.tmp 57) (.tmp 66) 34 34 5 rfl Tryz.underlying34 info5 (some ⟨g', 0, none⟩) q' c'' 1 (bcells (copyF K i' l)) [.int .u8 (z : Nat)] (.slice (some ⟨wr.heap.size, 0, none⟩) 1 1) (by rfl) (by rfl) (HL.out.2.1.1.alloc _) rfl (Src.oneInt Tryz.underlying34 wr .u8 z 1 5) (by omega) (by omega) ?_
                                 intro A3 c3 w3 hrow2 honly2 hlies2
                                 have HR := Lib.hid hrow2
                                 have HO3 := Lib.hid honly2
                                 have HLI := Lib.hid hlies2
                                 clear hrow2 honly2 hlies2)
                    have HNN : Hid (LaidAt w g (tkc ⟨b, N, K⟩) A3 (q' + 1) c3 (copyF K (i' + 1) l) w3) := Lib.hid (by
                      rw [← HX.out]
                      have hr := HR.out
                      rw [← HZ.out] at hr
                      exact HL.out.more hr HO3.out HLI.out)
                    go_roundg (gk - 1)
                    case measure => omega
                    case rel => exact ⟨i' + 1, q' + 1, A3, c3, by go_num, rfl, by omega, by omega, by omega, HNN⟩
                  · obtain rfl : i' = N := by omega
                    go_wp2_with fail
                    go_roundg (gO - 1)
                    case measure => omega
                    case rel =>
                      refine ⟨j + 1, q', A'', c'', copyF K i' l, by go_num, rfl, by omega, by omega, by omega, Lib.hid ⟨HL.out.1, ?_, HL.out.2.1⟩⟩
                      rw [← HE2.out.2.1, ← HNX.out]
                      exact (expand_on most ts j _ l HT.out HM.out (by rw [HE2.out.1]; exact hk2) (by rw [HE2.out.1, HY.out]; omega)).symm
      · have HM : Hid (mayB ⟨b, tn, tk⟩ = false) := Lib.hid (by simpa using hmay)
        clear hmay
        have HX : Hid (expandF most ts [] = ([], 1)) := Lib.hid (by rw [← HEa.out.2.1]; exact expand_bad most ts j _ l HT.out HM.out)
        go_wp2_with (go_at_call 37; refine (rmay ⟨b, tn, tk⟩ wa).mono ?_; rintro e w2 ⟨rfl, ho⟩; rw [HM.out]; have HO := Lib.hid ho; clear ho)
        go_ret2
        rw [HX.out]
        exact ⟨rfl, HEa.out.2.2.2.1.trans HO.out⟩
    · obtain rfl : j = n := by omega
      have hc := HE.out.2.2.1.toText Tryz.underlying34 Tryz.underlying5 Tryz.underlying9
      have HX : Hid (expandF most ts [] = (l, 0)) := Lib.hid (by rw [← HE.out.2.1, List.drop_of_length_le (by rw [HN.out]; exact Nat.le_refl _)]; rfl)
      have HO := Lib.hid HE.out.2.2.2.1
      clear HE
      go_wp2
      go_ret2
      rw [HX.out]
      exact ⟨rfl, HO.out⟩
end Go.Proofs.YtjlkjebmilfgoaaGreat
