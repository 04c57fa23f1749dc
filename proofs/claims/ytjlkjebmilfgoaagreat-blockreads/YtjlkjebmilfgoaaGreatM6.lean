/- Layer 5: a table of a code. -/
import Derived.Test.YtjlkjebmilfgoaaGreatM5
import Derived.Lib.Tables
/- Layer 5: how many codes have each length up to the longest one, in the program. -/
namespace Go.Proofs.YtjlkjebmilfgoaaGreat
open Go.RowKit

/-- How many codes have 1 bit, 2 bits, and so on up to the longest one. -/
def ctl (l : List Nat) : List Nat := (List.range (lg l)).map fun i => cn l (i + 1)
theorem ctl_length (l : List Nat) : (ctl l).length = lg l := by simp [ctl]
theorem ctl_at (l : List Nat) (i : Nat) (h : i < lg l) : ln (ctl l) i = cn l (i + 1) := map_at _ _ i h
theorem ctl_see (w : World) (B H : Nat) (l : List Nat) (hB : H < B) (h : Is w H 136 (ints (cnts l))) : See w B (some ⟨H, 1, none⟩) (ints (ctl l)) := by
  intro i v hv
  have hi : i < lg l := by
    rcases Nat.lt_or_ge i (lg l) with h1 | h1
    · exact h1
    · rw [List.getElem?_eq_none (by rw [ints_length, ctl_length]; exact h1)] at hv
      cases hv
  rw [ints_at _ i (by rw [ctl_length]; exact hi), ctl_at l i hi] at hv
  have h15 := lg_le l
  refine ⟨H, 1, rfl, hB, ?_⟩
  rw [h.cell (1 + i) (ints_at _ (1 + i) (by rw [cnts_length]; omega)), show ln (cnts l) (1 + i) = cn l (1 + i) from map_at 16 _ _ (by omega), Nat.add_comm 1 i]
  exact hv

theorem slice16 (H K : Nat) (h : K ≤ 15) (W : World) : (Instr.sliceAt 136 (.pointer (some ⟨H, 0, none⟩)) (some (.int .i64 1)) (some (.int .i64 ((K + 1 : Nat) : Int))) none).run Tryz.prog W = .ok (.slice (some ⟨H, 1, none⟩) K 15) W := by
  obtain rfl | rfl | rfl | rfl | rfl | rfl | rfl | rfl | rfl | rfl | rfl | rfl | rfl | rfl | rfl | rfl : K = 0 ∨ K = 1 ∨ K = 2 ∨ K = 3 ∨ K = 4 ∨ K = 5 ∨ K = 6 ∨ K = 7 ∨ K = 8 ∨ K = 9 ∨ K = 10 ∨ K = 11 ∨ K = 12 ∨ K = 13 ∨ K = 14 ∨ K = 15 := by omega
  all_goals kernel_rfl
def LongPost (w : World) (l : List Nat) (e : Ending) (w' : World) : Prop := ∃ A c, e = .returned (.slice A (lg l) c) ∧ Made 3 w A (lg l) c (ints (ctl l)) w'

set_option maxRecDepth 20000 in
set_option maxHeartbeats 1000000 in
theorem longest (l : List Nat) (w : World) : Calls Tryz.prog 89 #[.agg (ints (cnts l)).toArray] w (LongPost w l) := by
  obtain ⟨cs, hcs⟩ : ∃ cs, ints (cnts l) = cs := ⟨_, rfl⟩
  have hlen : cs.length = 16 := by rw [← hcs, ints_length, cnts_length]
  rw [hcs]
  have HCS := Lib.hid hcs
  have HLn := Lib.hid hlen
  clear hcs hlen
  go_enter Tryz.func89, Tryz.ntmps89
  go_wp2_with fail
  have HI : Hid (Is (w.alloc (.cells cs.toArray 136)) w.heap.size 136 (ints (cnts l))) := Lib.hid (by rw [HCS.out]; exact Is.new w 136 cs)
  have HO : Hid (Only (fun _ => False) w (w.alloc (.cells cs.toArray 136))) := Lib.hid ((Only.refl _ w).alloc _)
  obtain ⟨wa, hwa⟩ : ∃ wa, w.alloc (.cells cs.toArray 136) = wa := ⟨_, rfl⟩
  obtain ⟨H, hH⟩ : ∃ H, w.heap.size = H := ⟨_, rfl⟩
  have hHa : H < wa.heap.size := by rw [← hwa, ← hH]; simp
  rw [hwa, hH] at HI
  rw [hwa] at HO
  try rw [hwa]
  try rw [hH]
  clear hwa hH
  go_loopg [3] 15 (fun gk i wx => ∃ k : Nat, i = .int .i64 k ∧ k ≤ gk ∧ k ≤ 15 ∧ Hid (lgf l k = lg l) ∧ wx = wa)
  case atStart => exact ⟨15, rfl, by omega, by omega, Lib.hid rfl, rfl⟩
  case round =>
    obtain ⟨k, rfl, hk, hk2, hg, rfl⟩ := hrel
    by_cases h0 : 0 < k
    · obtain ⟨k', rfl⟩ : ∃ k', k = k' + 1 := ⟨k - 1, by omega⟩
      have c1 := HI.out.cell (k' + 1) (ints_at _ (k' + 1) (by rw [cnts_length]; omega))
      rw [show ln (cnts l) (k' + 1) = cn l (k' + 1) from map_at 16 _ _ (by omega)] at c1
      have h1 : lgf l (k' + 1) = if cn l (k' + 1) = 0 then lgf l k' else k' + 1 := rfl
      obtain ⟨x, hx⟩ : ∃ x, cn l (k' + 1) = x := ⟨_, rfl⟩
      rw [hx] at c1 h1
      clear hx
      by_cases hz : x = 0
      · subst hz
        rw [if_pos rfl] at h1
        have HG : Hid (lgf l k' = lg l) := Lib.hid (h1.symm.trans hg.out)
        clear h1 hg
        go_wp2_with fail
        go_roundg (gk - 1)
        case measure => omega
        case rel => exact ⟨k', by go_num, by omega, by omega, HG, rfl⟩
      · rw [if_neg hz] at h1
        have HG : Hid (k' + 1 = lg l) := Lib.hid (h1.symm.trans hg.out)
        have hz2 : ¬ (x : Int) = 0 := by omega
        have hsl : (Instr.sliceAt 136 (.pointer (some ⟨H, 0, none⟩)) (some (.int .i64 1)) (some (.int .i64 ((k' : Int) + 1 + 1))) none).run Tryz.prog wr = .ok (.slice (some ⟨H, 1, none⟩) (k' + 1) 15) wr := slice16 H (k' + 1) hk2 wr
        have HC := Lib.hid (clone (some ⟨H, 1, none⟩) (k' + 1) 15 wr.heap.size (ints (ctl l)) wr (ctl_see wr _ H l hHa HI.out) (by rw [ints_length, ctl_length, HG.out]) (by omega) (ints_one _))
        clear h1 hg
        go_wp2_with fail
        refine HC.out.mono ?_
        rintro e w2 ⟨A2, c2, rfl, hm⟩
        have HM := Lib.hid hm
        clear hm HC
        go_wp2
        go_ret
        exact ⟨A2, c2, by rw [← HG.out]; rfl, by rw [← HG.out]; exact HM.out.later HO.out⟩
    · obtain rfl : k = 0 := by omega
      have HG : Hid (0 = lg l) := Lib.hid hg.out
      have hsl : (Instr.sliceAt 136 (.pointer (some ⟨H, 0, none⟩)) (some (.int .i64 1)) (some (.int .i64 1)) none).run Tryz.prog wr = .ok (.slice (some ⟨H, 1, none⟩) 0 15) wr := slice16 H 0 (by omega) wr
      have HC := Lib.hid (clone (some ⟨H, 1, none⟩) 0 15 wr.heap.size (ints (ctl l)) wr (ctl_see wr _ H l hHa HI.out) (by rw [ints_length, ctl_length, ← HG.out]) (by omega) (ints_one _))
      clear hg
      go_wp2_with fail
      refine HC.out.mono ?_
      rintro e w2 ⟨A2, c2, rfl, hm⟩
      have HM := Lib.hid hm
      clear hm HC
      go_wp2
      go_ret
      exact ⟨A2, c2, by rw [← HG.out]; rfl, by rw [← HG.out]; exact HM.out.later HO.out⟩
end Go.Proofs.YtjlkjebmilfgoaaGreat

/- Layer 5: sixteen bits turned round (math/bits.Reverse16). -/
namespace Go.Proofs.YtjlkjebmilfgoaaGreat
open Go.RowKit

theorem rev8_rv (y : Nat) (h : y < 256) : Lib.rev8 (y : Int) = (rv 8 y : Nat) := by
  have h1 : ((List.range 256).all fun y => decide (Lib.rev8 (y : Int) = (rv 8 y : Nat))) = true := by decide +kernel
  have := List.all_eq_true.1 h1 y (by simpa using h)
  simpa using this

theorem bv16 (x : Nat) (h : x < 65536) : (BitVec.ofInt 16 (x : Int)).toNat = x := by simp; omega
theorem or_u16 (x y : Nat) (hx : x < 65536) (hy : y < 65536) : bits .or .u16 (x : Int) (y : Int) = ((x ||| y : Nat) : Int) := by
  have h : x ||| y < 2 ^ 16 := Nat.or_lt_two_pow (by omega) (by omega)
  unfold bits
  show IntKind.u16.wrap (((BitVec.ofInt 16 (x : Int) ||| BitVec.ofInt 16 (y : Int)).toNat : Nat) : Int) = _
  rw [BitVec.toNat_or, bv16 x hx, bv16 y hy]
  exact IntWalk.u16_in ((x ||| y : Nat) : Int) (by omega)
theorem and_u16 (x y : Nat) (hx : x < 65536) (hy : y < 65536) : bits .and .u16 (x : Int) (y : Int) = ((x &&& y : Nat) : Int) := by
  have h : x &&& y < 2 ^ 16 := Nat.and_lt_two_pow _ (by omega)
  unfold bits
  show IntKind.u16.wrap (((BitVec.ofInt 16 (x : Int) &&& BitVec.ofInt 16 (y : Int)).toNat : Nat) : Int) = _
  rw [BitVec.toNat_and, bv16 x hx, bv16 y hy]
  exact IntWalk.u16_in ((x &&& y : Nat) : Int) (by omega)
theorem yields_index {P : Program} {a : Act} {o : Oper} (t : TypeId) (x i : Operand) (ho : o.op = .index t x i) (xv iv v : Value) (W : World) (hx : a.eval x = xv) (hi : a.eval i = iv) (hr : (Instr.index t xv iv).run P W = .ok v W) : (execOp a.eval o).run P W = .ok (.value v) W := by
  unfold execOp
  simp only [ho, hx, hi, Sem.run_bind, hr, Result.andThen_ok, Sem.run_pure]

set_option maxRecDepth 20000 in
set_option maxHeartbeats 1000000 in
theorem rev16 (x : Nat) (hx : x < 65536) (w : World) : Calls Tryz.prog 112 #[.int .u16 x] w fun e w' => e = .returned (.int .u16 (rv 16 x : Nat)) ∧ ∃ k, w' = w.drewN k := by
  have hix : ∀ (y : Nat) (_ : y < 256) (W : World), (Instr.index 9 (.string Lib.rev8tab) (.int .u16 (y : Nat))).run Tryz.prog W = .ok (.int .u8 (rv 8 y : Nat)) W := fun y hy W => by
    rw [← rev8_rv y hy]
    exact Lib.run_index_rev8tab W 9 .u16 (y : Int) Tryz.underlying9 (by omega) (by omega)
  have l1 := rv_lt 8 (x / 256)
  have l2 := rv_lt 8 (x % 256)
  have hand : bits .and .u16 (x : Int) 255 = ((x % 256 : Nat) : Int) := by
    have := and_u16 x 255 hx (by decide)
    rw [show x &&& 255 = x % 256 from and_low x 8] at this
    exact this
  have hor : bits .or .u16 ((rv 8 (x / 256) : Nat) : Int) ((256 * rv 8 (x % 256) : Nat) : Int) = ((rv 16 x : Nat) : Int) := by
    rw [or_u16 _ _ (by omega) (by omega), show (256 : Nat) = 2 ^ 8 from rfl, or_add _ _ 8 (by omega), rv_bytes]
  have h1 := hix (x / 256) (by omega)
  have h2 := hix (x % 256) (by omega)
  obtain ⟨y, hy⟩ : ∃ y, x / 256 = y := ⟨_, rfl⟩
  obtain ⟨z, hz⟩ : ∃ z, x % 256 = z := ⟨_, rfl⟩
  rw [hy] at h1 l1 hor
  rw [hz] at h2 l2 hor hand
  obtain ⟨p, hp⟩ : ∃ p, rv 8 y = p := ⟨_, rfl⟩
  obtain ⟨q, hq⟩ : ∃ q, rv 8 z = q := ⟨_, rfl⟩
  rw [hp] at h1 l1 hor
  rw [hq] at h2 l2 hor
  obtain ⟨r, hr⟩ : ∃ r, rv 16 x = r := ⟨_, rfl⟩
  rw [hr] at hor ⊢
  have e1 : (x : Int) / 256 = (y : Int) := by omega
  have hor2 : bits .or .u16 (p : Int) (256 * (q : Int)) = (r : Int) := by rw [← hor]; simp
  have H1 := Lib.hid h1
  have H2 := Lib.hid h2
  clear hix h1 h2 hp hq hr hz hy hor
  go_enter Tryz.func112, Tryz.ntmps112
  go_wp2_with fail
  generalize hs : Operand.const (Value.string _) = so
  obtain rfl : so = .const (.string Lib.rev8tab) := hs.symm.trans (by kernel_rfl)
  clear hs
  refine Steps.region (fun _ => True) [(true, 0), (true, 1), (true, 2), (true, 3), (true, 4), (true, 5), (true, 6), (true, 7), (true, 8), (true, 9), (true, 10)] (by kernel_rfl) (by kernel_rfl) rfl (by kernel_rfl) (fun _ _ d _ _ h => by cases d <;> exact h) ?_
  refine Steps.take (.int .u16 x) rfl trivial (fun _ _ => by kernel_rfl) ?_
  simp only [Act.put, List.setIfInBounds_toArray, List.set_cons_succ, List.set_cons_zero]
  refine Steps.take (.int .u16 y) rfl trivial (fun W _ => by go_simp) ?_
  simp only [Act.put, List.setIfInBounds_toArray, List.set_cons_succ, List.set_cons_zero]
  refine Steps.take (.int .u8 p) rfl trivial (fun W _ => yields_index 9 (.const (.string Lib.rev8tab)) (.tmp 4) (by kernel_rfl) (.string Lib.rev8tab) (.int .u16 y) _ W (by kernel_rfl) (by kernel_rfl) (H1.out W)) ?_
  simp only [Act.put, List.setIfInBounds_toArray, List.set_cons_succ, List.set_cons_zero]
  refine Steps.take (.int .u16 p) rfl trivial (fun W _ => by go_simp; exact IntWalk.u16_in _ (by omega)) ?_
  simp only [Act.put, List.setIfInBounds_toArray, List.set_cons_succ, List.set_cons_zero]
  refine Steps.take (.int .u16 x) rfl trivial (fun _ _ => by kernel_rfl) ?_
  simp only [Act.put, List.setIfInBounds_toArray, List.set_cons_succ, List.set_cons_zero]
  refine Steps.take (.int .u16 z) rfl trivial (fun W _ => by go_simp) ?_
  simp only [Act.put, List.setIfInBounds_toArray, List.set_cons_succ, List.set_cons_zero]
  refine Steps.take (.int .u8 q) rfl trivial (fun W _ => yields_index 9 (.const (.string Lib.rev8tab)) (.tmp 8) (by kernel_rfl) (.string Lib.rev8tab) (.int .u16 z) _ W (by kernel_rfl) (by kernel_rfl) (H2.out W)) ?_
  simp only [Act.put, List.setIfInBounds_toArray, List.set_cons_succ, List.set_cons_zero]
  refine Steps.take (.int .u16 q) rfl trivial (fun W _ => by go_simp; exact IntWalk.u16_in _ (by omega)) ?_
  simp only [Act.put, List.setIfInBounds_toArray, List.set_cons_succ, List.set_cons_zero]
  refine Steps.take (.int .u16 (256 * q : Nat)) rfl trivial (fun W _ => by go_simp; rw [IntWalk.u16_in _ (by omega)]; omega) ?_
  simp only [Act.put, List.setIfInBounds_toArray, List.set_cons_succ, List.set_cons_zero]
  refine Steps.take (.int .u16 r) rfl trivial (fun W _ => by go_simp) ?_
  simp only [Act.put, List.setIfInBounds_toArray, List.set_cons_succ, List.set_cons_zero]
  refine Steps.take (.int .u16 r) rfl trivial (fun _ _ => by kernel_rfl) ?_
  simp only [Act.put, List.setIfInBounds_toArray, List.set_cons_succ, List.set_cons_zero]
  show wpList _ _ _ _ _ _
  go_wp2
  go_ret
  exact ⟨rfl, 1, rfl⟩
end Go.Proofs.YtjlkjebmilfgoaaGreat

/- Layer 5: the program's turned codes. -/
namespace Go.Proofs.YtjlkjebmilfgoaaGreat
open Go.RowKit

/-- Numbers of 16 bits as cells. -/
def hints (l : List Nat) : List Value := l.map fun x => .int .u16 (x : Nat)
theorem hints_length (l : List Nat) : (hints l).length = l.length := List.length_map ..
theorem hints_at (l : List Nat) (i : Nat) (h : i < l.length) : (hints l)[i]? = some (.int .u16 (ln l i : Nat)) := by simp [hints, ln, h]
theorem hints_set (l : List Nat) (i y : Nat) : (hints l).set i (.int .u16 (y : Nat)) = hints (l.set i y) := by simp [hints, List.map_set]
/-- A code's bits, the first in the lowest place. -/
def td (l : List Nat) (s : Nat) : Nat := rv (ln l s) (cd l s)
def tds (l : List Nat) : List Nat := (List.range l.length).map (td l)
theorem tds_length (l : List Nat) : (tds l).length = l.length := by simp [tds]
def tdTo (l : List Nat) (k : Nat) : List Nat := (List.range l.length).map fun s => if s < k then td l s else 0
theorem tdTo_length (l : List Nat) (k : Nat) : (tdTo l k).length = l.length := by simp [tdTo]
theorem tdTo_zero (l : List Nat) : tdTo l 0 = List.replicate l.length 0 := by
  unfold tdTo
  apply List.ext_getElem <;> simp
theorem tdTo_all (l : List Nat) : tdTo l l.length = tds l := by
  refine map_same _ _ _ fun t ht => ?_
  simp [ht]
theorem tdTo_put (l : List Nat) (k : Nat) : (tdTo l k).set k (td l k) = tdTo l (k + 1) := by
  refine map_set _ _ _ _ _ (by simp) fun t _ hne => ?_
  have : (t < k + 1) ↔ (t < k) := by omega
  simp only [this]
theorem cd_lt' (l : List Nat) (s : Nat) (hs : s < l.length) (hl : Low l) (hf : fu l 16 ≤ 32768) : cd l s < 2 ^ ln l s := by
  rcases Nat.eq_zero_or_pos (ln l s) with e | e
  · simp [cd, e]
  · exact cd_lt l s ⟨hs, e⟩ hl hf
theorem td_lt (l : List Nat) (s : Nat) (hl : Low l) : td l s < 65536 :=
  Nat.lt_of_lt_of_le (rv_lt _ _) (Nat.pow_le_pow_right (n := 2) (j := 16) (by decide) (by have := ln_le l s hl; omega))
theorem hints_zeros (n : Nat) : List.replicate n (Value.int .u16 0) = hints (List.replicate n 0) := by simp [hints]

def TurnPost (w : World) (l : List Nat) (n : Nat) (e : Ending) (w' : World) : Prop := ∃ g, e = .returned (.slice (some ⟨g, 0, none⟩) n n) ∧ Made 118 w (some ⟨g, 0, none⟩) n n (hints (tds l)) w'

set_option maxHeartbeats 1000000 in
theorem turn (A A2 : Option Addr) (n c c2 B : Nat) (l : List Nat) (w : World) (h : See w B A (ints (cds l))) (h2 : See w B A2 (ints l)) (hn : l.length = n) (h288 : n ≤ 288) (hl : Low l) (hf : fu l 16 ≤ 32768) (hB : B ≤ w.heap.size) :
    Calls Tryz.prog 87 #[.slice A n c, .slice A2 n c2] w (TurnPost w l n) := by
  have HS := Lib.hid h
  have HS2 := Lib.hid h2
  have HL := Lib.hid hl
  have HN := Lib.hid hn
  have HF := Lib.hid hf
  clear h h2 hl hn hf
  have hmk := run_make_row Tryz.underlying119 info43 (by omega) n (by omega) w
  have hst : Made 118 w (some ⟨w.heap.size, 0, none⟩) n n (hints (tdTo l 0)) (w.alloc (.cells (List.replicate n (Value.int .u16 0)).toArray 118)) := by
    rw [tdTo_zero, HN.out, ← hints_zeros]
    exact zeros_made (e := 118) (w := w) (kd := .u16) n (by omega)
  obtain ⟨R, hR⟩ : ∃ R, w.heap.size = R := ⟨_, rfl⟩
  rw [hR] at hst hmk hB
  have HST := Lib.hid hst
  clear hst hR
  go_enter Tryz.func87, Tryz.ntmps87
  go_wp2_with fail
  go_loopg [13] n (fun gk i wx => ∃ k : Nat, i = .int .i64 k ∧ k + gk ≤ n ∧ n ≤ k + gk ∧ Made 118 w (some ⟨R, 0, none⟩) n n (hints (tdTo l k)) wx)
  case atStart => exact ⟨0, rfl, by omega, by omega, HST.out⟩
  case round =>
    clear HST hmk
    obtain ⟨k, rfl, hk, hk2, hM⟩ := hrel
    by_cases hlt : k < n
    · have hkl : k < l.length := by rw [HN.out]; exact hlt
      obtain ⟨b, off, rfl, hb, c1⟩ := (HS.out.new hM.2.1) k _ (ints_at (cds l) k (by rw [cds_length]; exact hkl))
      obtain ⟨b2, off2, rfl, hb2, c2'⟩ := (HS2.out.new hM.2.1) k _ (ints_at l k hkl)
      rw [show ln (cds l) k = cd l k from map_at _ _ k hkl] at c1
      obtain ⟨g, e4, c6, c7⟩ := hM.1.cell (hints_at (tdTo l k) k (by rw [tdTo_length]; exact hkl))
      simp only [Option.some.injEq, Addr.mk.injEq, and_true] at e4
      subst e4
      have hput := tdTo_put l k
      have hx := ln_le l k HL.out
      have hc := cd_lt' l k hkl HL.out HF.out
      have hp : 2 ^ ln l k ≤ 2 ^ 15 := Nat.pow_le_pow_right (by decide) hx
      have hsh := rv_shift (ln l k) (cd l k) (by omega) hc
      have hrv := rv_lt 16 (cd l k)
      have ht : td l k = rv (ln l k) (cd l k) := rfl
      rw [← ht] at hsh
      have htl := td_lt l k HL.out
      have HR := Lib.hid fun w => rev16 (cd l k) (by omega) w
      obtain ⟨x, hx1⟩ : ∃ x, ln l k = x := ⟨_, rfl⟩
      obtain ⟨u, hu⟩ : ∃ u, cd l k = u := ⟨_, rfl⟩
      obtain ⟨t, ht1⟩ : ∃ t, td l k = t := ⟨_, rfl⟩
      obtain ⟨o, ho⟩ : ∃ o, ln (tdTo l k) k = o := ⟨_, rfl⟩
      rw [hu] at c1 hc hsh hrv HR
      rw [hx1] at c2' hx hsh hp hc
      rw [ht1] at hsh hput htl
      rw [ho] at c6
      obtain ⟨r, hr⟩ : ∃ r, rv 16 u = r := ⟨_, rfl⟩
      rw [hr] at hsh hrv HR
      have hu2 : u < 32768 := by omega
      obtain ⟨q, hq⟩ : ∃ q, 16 - x = q := ⟨_, rfl⟩
      rw [hq] at hsh
      have e5 : (16 : Int) - (x : Int) = (q : Int) := by omega
      have e6 : (r : Int) / 2 ^ q = (t : Int) := by rw [← hsh]; simp
      have hq2 : q ≤ 16 := by omega
      have HSH := Lib.hid hsh
      have HP := Lib.hid hput
      have HMM := Lib.hid hM
      have hne : b2 ≠ R := by omega
      have HNE := Lib.hid hne
      have HC2 := Lib.hid c2'
      clear hM hput hc hp hsh ht hx1 hu ht1 ho hr hq hkl hne
      go_wp2_with fail
      refine Steps.region (fun W => W.cell? ⟨b2, off2 + k, none⟩ = some (.int .i64 (x : Int))) [(true, 0), (true, 1), (true, 2), (true, 3), (true, 5), (true, 6), (true, 7), (true, 8), (true, 9), (false, 4), (true, 10), (true, 11), (false, 12)] (by kernel_rfl) (by kernel_rfl) rfl (by kernel_rfl) (fun _ _ d _ _ h => by cases d <;> exact h) ?_
      refine Steps.take (.slice (some ⟨R, 0, none⟩) n n) rfl HC2.out (fun _ _ => by kernel_rfl) ?_
      simp only [Act.put, List.setIfInBounds_toArray, List.set_cons_succ, List.set_cons_zero]
      refine Steps.take (.int .i64 k) rfl HC2.out (fun _ _ => by kernel_rfl) ?_
      simp only [Act.put, List.setIfInBounds_toArray, List.set_cons_succ, List.set_cons_zero]
      refine Steps.take (.int .i64 u) rfl HC2.out (fun _ _ => by kernel_rfl) ?_
      simp only [Act.put, List.setIfInBounds_toArray, List.set_cons_succ, List.set_cons_zero]
      refine Steps.take (.int .u16 u) rfl HC2.out (fun _ _ => by go_simp; exact IntWalk.u16_in _ (by omega)) ?_
      simp only [Act.put, List.setIfInBounds_toArray, List.set_cons_succ, List.set_cons_zero]
      refine Steps.take (.slice (some ⟨b2, off2, none⟩) n c2) rfl HC2.out (fun _ _ => by kernel_rfl) ?_
      simp only [Act.put, List.setIfInBounds_toArray, List.set_cons_succ, List.set_cons_zero]
      refine Steps.take (.int .i64 k) rfl HC2.out (fun _ _ => by kernel_rfl) ?_
      simp only [Act.put, List.setIfInBounds_toArray, List.set_cons_succ, List.set_cons_zero]
      refine Steps.take (.pointer (some ⟨b2, off2 + k, none⟩)) rfl HC2.out (fun _ _ => by go_simp) ?_
      simp only [Act.put, List.setIfInBounds_toArray, List.set_cons_succ, List.set_cons_zero]
      refine Steps.take (.int .i64 x) rfl HC2.out (fun _ hW => by go_simp) ?_
      simp only [Act.put, List.setIfInBounds_toArray, List.set_cons_succ, List.set_cons_zero]
      refine Steps.take (.int .i64 q) rfl HC2.out (fun _ _ => by go_simp; exact IntWalk.i64_in _ (by omega)) ?_
      simp only [Act.put, List.setIfInBounds_toArray, List.set_cons_succ, List.set_cons_zero]
      refine Steps.call 112 #[.int .u16 u] rfl (by kernel_rfl) ((HR.out wr.drew).mono ?_)
      rintro e w2 ⟨rfl, m, rfl⟩
      refine ⟨_, rfl, HC2.out, ?_⟩
      simp only [Act.put, List.setIfInBounds_toArray, List.set_cons_succ, List.set_cons_zero]
      refine Steps.take (.int .u16 t) rfl HC2.out (fun _ _ => by go_simp) ?_
      simp only [Act.put, List.setIfInBounds_toArray, List.set_cons_succ, List.set_cons_zero]
      refine Steps.take (.pointer (some ⟨R, k, none⟩)) rfl HC2.out (fun _ _ => by go_simp) ?_
      simp only [Act.put, List.setIfInBounds_toArray, List.set_cons_succ, List.set_cons_zero]
      refine Steps.skip (w' := (wr.drew.drewN m).setCell ⟨R, k, none⟩ (.int .u16 t)) rfl (by go_simp) ((World.cell?_of_block (Below.heap_setCell _ ⟨R, k, none⟩ _ b2 HNE.out)).trans HC2.out) ?_
      simp only [Act.put]
      show wpList _ _ _ _ _ _
      go_wp2_with fail
      go_roundg (gk - 1)
      case measure => omega
      case rel =>
        refine ⟨k + 1, by go_num, by omega, by omega, ?_⟩
        rw [← HP.out, ← hints_set]
        exact (HMM.out.drewN _).setAt k _
    · have hkn : k = l.length := by rw [HN.out]; omega
      rw [hkn, tdTo_all] at hM
      have HMM := Lib.hid hM
      clear hM hkn
      go_wp2
      go_ret
      exact ⟨R, rfl, HMM.out⟩
end Go.Proofs.YtjlkjebmilfgoaaGreat

/- Layer 5: a table of a code, made by the program's New. -/
namespace Go.Proofs.YtjlkjebmilfgoaaGreat
open Go.RowKit

/-- Block T is a table of the code that l makes; all that it leads to lies below, from lo on. -/
def Tab (w : World) (lo T : Nat) (l : List Nat) : Prop := ∃ (A1 A2 A3 A4 : Option Addr) (c1 c2 c3 c4 : Nat),
  Is w T 121 [.slice A1 l.length c1, .slice A2 l.length c2, .slice A3 (st l 16) c3, .slice A4 (lg l) c4] ∧
  See w T A3 (ints (ord l)) ∧ See w T A4 (ints (ctl l)) ∧ (∀ j, Lies A3 j → lo ≤ j) ∧ (∀ j, Lies A4 j → lo ≤ j) ∧ lo ≤ T
theorem Tab.keep {w w' : World} {lo T : Nat} {l : List Nat} {X : Nat → Prop} (h : Tab w lo T l) (k : Only X w w') (hd : ∀ j, lo ≤ j → j ≤ T → ¬ X j) : Tab w' lo T l := by
  obtain ⟨A1, A2, A3, A4, c1, c2, c3, c4, h0, h3, h4, l3, l4, hT⟩ := h
  exact ⟨A1, A2, A3, A4, c1, c2, c3, c4, h0.only k (hd T hT (Nat.le_refl _)), h3.apart l3 k (fun j a b => hd j a (Nat.le_of_lt b)), h4.apart l4 k (fun j a b => hd j a (Nat.le_of_lt b)), l3, l4, hT⟩
theorem Tab.new {w w' : World} {lo T : Nat} {l : List Nat} (h : Tab w lo T l) (k : Only (fun _ => False) w w') : Tab w' lo T l := h.keep k fun _ _ _ f => f
theorem Tab.lt {w : World} {lo T : Nat} {l : List Nat} (h : Tab w lo T l) : T < w.heap.size := by
  obtain ⟨A1, A2, A3, A4, c1, c2, c3, c4, h0, _⟩ := h
  exact h0.lt
theorem Tab.lo_le {w : World} {lo T : Nat} {l : List Nat} (h : Tab w lo T l) : lo ≤ T := by
  obtain ⟨A1, A2, A3, A4, c1, c2, c3, c4, _, _, _, _, _, h0⟩ := h
  exact h0
theorem Tab.less {w : World} {lo l2 T : Nat} {l : List Nat} (h : Tab w lo T l) (hl : l2 ≤ lo) : Tab w l2 T l := by
  obtain ⟨A1, A2, A3, A4, c1, c2, c3, c4, h0, h3, h4, l3, l4, hT⟩ := h
  exact ⟨A1, A2, A3, A4, c1, c2, c3, c4, h0, h3, h4, fun j hj => Nat.le_trans hl (l3 j hj), fun j hj => Nat.le_trans hl (l4 j hj), Nat.le_trans hl hT⟩

def NewNo (w : World) (x : Nat) (e : Ending) (w' : World) : Prop := e = .returned (.tuple #[.pointer none, .int .i64 x]) ∧ Only (fun _ => False) w w'
theorem new_bad (A : Option Addr) (n c k x : Nat) (w : World) (h : Calls Tryz.prog 84 #[.slice A n c] w (CheckPost w k x)) (hx : x ≠ 0) :
    Calls Tryz.prog 58 #[.slice A n c] w (NewNo w x) := by
  have hx2 : ¬ (x : Int) = 0 := by omega
  go_enter Tryz.func58, Tryz.ntmps58
  go_wp2_with fail
  refine h.mono ?_
  rintro e w' ⟨rfl, ho⟩
  have HO := Lib.hid ho
  clear ho h
  go_wp2
  go_ret2
  exact ⟨rfl, HO.out⟩

def NewYes (w : World) (l : List Nat) (e : Ending) (w' : World) : Prop := ∃ T, e = .returned (.tuple #[.pointer (some ⟨T, 0, none⟩), .int .i64 0]) ∧ Tab w' w.heap.size T l ∧ Only (fun _ => False) w w' ∧ w.heap.size ≤ T
set_option maxHeartbeats 1000000 in
theorem new_yes (A : Option Addr) (n c B : Nat) (l : List Nat) (w : World) (h : See w B A (ints l)) (hB : B ≤ w.heap.size) (hn : l.length = n) (h288 : n ≤ 288) (hl : Low l) (hk : (kd l).2 = 0) :
    Calls Tryz.prog 58 #[.slice A n c] w (NewYes w l) := by
  have HF := Lib.hid (kd_full l hl hk)
  have HC := Lib.hid (check_yes A n c B l w h hn h288 hl)
  have HS := Lib.hid h
  have HL := Lib.hid hl
  have HN := Lib.hid hn
  clear h hl hn
  rw [hk] at HC
  clear hk
  go_enter Tryz.func58, Tryz.ntmps58
  go_wp2_with fail
  refine HC.out.mono ?_
  rintro e w1 ⟨rfl, ho1⟩
  have HS1 := Lib.hid ((HS.out.new ho1).more (Nat.le_trans hB ho1.size))
  have HO1 := Lib.hid ho1
  clear HC ho1
  go_wp2_with fail
  refine (inOrder A n c _ l w1 HS1.out HN.out h288 HL.out).mono ?_
  rintro e w2 ⟨g, rfl, hm⟩
  have HS2 := Lib.hid ((HS1.out.new hm.2.1).more hm.2.1.size)
  have HM := Lib.hid hm
  obtain ⟨m, hm2⟩ : ∃ m, st l 16 = m := ⟨_, rfl⟩
  have HM2 := Lib.hid hm2
  rw [hm2]
  clear hm2 hm
  go_wp2_with fail
  refine (clone A n c _ (ints l) w2 HS2.out (by rw [ints_length, HN.out]) (by omega) (ints_one _)).mono ?_
  rintro e w3 ⟨A1, c1, rfl, hm3⟩
  have HS3 := Lib.hid ((HS2.out.new hm3.2.1).more hm3.2.1.size)
  have HR3 := Lib.hid ((HM.out.see.new hm3.2.1).more hm3.2.1.size)
  have HM3 := Lib.hid hm3
  clear hm3
  go_wp2_with fail
  refine (numbers A _ n c m m _ l w3 HS3.out HR3.out HN.out h288 HL.out HM2.out).mono ?_
  rintro e w4 ⟨g4, rfl, hm4⟩
  have HS4 := Lib.hid ((HS3.out.new hm4.2.1).more hm4.2.1.size)
  have HM4 := Lib.hid hm4
  clear hm4
  go_wp2_with fail
  refine (turn _ A n n c _ l w4 HM4.out.see HS4.out HN.out h288 HL.out HF.out (Nat.le_refl _)).mono ?_
  rintro e w5 ⟨g5, rfl, hm5⟩
  have HS5 := Lib.hid ((HS4.out.new hm5.2.1).more hm5.2.1.size)
  have HM5 := Lib.hid hm5
  clear hm5
  go_wp2_with fail
  refine (count A n c _ l w5 HS5.out HN.out h288 HL.out).mono ?_
  rintro e w6 ⟨rfl, ho6⟩
  have HO6 := Lib.hid ho6
  clear ho6
  obtain ⟨cs, hcs⟩ : ∃ cs, (ints (cnts l)).toArray = cs := ⟨_, rfl⟩
  have HCS := Lib.hid hcs
  rw [hcs]
  clear hcs
  go_wp2_with fail
  refine (show Calls Tryz.prog 89 #[.agg cs] w6 (LongPost w6 l) from by rw [← HCS.out]; exact longest l w6).mono ?_
  rintro e w7 ⟨A4, c4, rfl, hm7⟩
  have HM7 := Lib.hid hm7
  obtain ⟨k, hk⟩ : ∃ k, lg l = k := ⟨_, rfl⟩
  have HK := Lib.hid hk
  rw [hk]
  clear hm7 hk
  go_wp2
  go_ret2
  have o56 : Only (fun _ => False) w5 w7 := HO6.out.trans HM7.out.2.1
  have o45 := HM5.out.2.1
  have o34 := HM4.out.2.1
  have o23 := HM3.out.2.1
  have o12 := HM.out.2.1
  have ofin := (Only.refl (fun _ => False) w7).alloc (.cells [Value.slice A1 n c1, .slice (some ⟨g5, 0, none⟩) n n, .slice (some ⟨g, 0, none⟩) m m, .slice A4 k c4].toArray 121)
  have s3 : See _ w7.heap.size (some ⟨g, 0, none⟩) (ints (ord l)) := ((HM.out.see.new (o23.trans (o34.trans (o45.trans o56)))).more (o23.trans (o34.trans (o45.trans o56))).size).new ofin
  have s4 : See _ w7.heap.size A4 (ints (ctl l)) := HM7.out.see.new ofin
  have oall : Only (fun _ => False) w w7 := HO1.out.trans (o12.trans (o23.trans (o34.trans (o45.trans o56))))
  refine ⟨w7.heap.size, rfl, ⟨A1, some ⟨g5, 0, none⟩, some ⟨g, 0, none⟩, A4, c1, n, m, c4, ?_, s3, s4, fun j hj => Nat.le_trans HO1.out.size (HM.out.2.2 j hj), fun j hj => Nat.le_trans (HO1.out.trans (o12.trans (o23.trans (o34.trans (o45.trans HO6.out))))).size (HM7.out.2.2 j hj), oall.size⟩, oall.trans ofin, oall.size⟩
  rw [HN.out, HM2.out, HK.out]
  exact Is.new w7 121 _
end Go.Proofs.YtjlkjebmilfgoaaGreat
