/- Layer 15, the landed program: a node is put into a row of the call's own (slices.Insert). -/
import Derived.Test.YtaeaomlhbdbbfaaGreatDoorTpB
import Derived.Lib.Overlaps
import Derived.Laws.Externs
namespace Go.Proofs.YtaeaomlhbdbbfaaGreatDoor
open Go.RowKit

theorem externOver : Tryz.prog.funcs[(63 : Nat)]? = some Tryz.f63 := by kernel_rfl
/-- Two pieces written over zeros. -/
theorem edit_two {α : Type} (a x b z : List α) {p q r : Nat} (ha : a.length = p) (hx : x.length = q) (hb : b.length = r) (hz : z.length = q + r) :
    ((a ++ z).take p ++ x ++ (a ++ z).drop (p + x.length)).take (p + q) ++ b ++ ((a ++ z).take p ++ x ++ (a ++ z).drop (p + x.length)).drop (p + q + b.length) = a ++ (x ++ b) := by
  subst ha hx hb
  have e0 : (a ++ z).take a.length = a := List.take_left
  have hl : (a ++ x).length = a.length + x.length := List.length_append
  rw [e0, List.take_append_of_le_length (by omega), List.take_of_length_le (by omega), List.drop_eq_nil_of_le (by simp only [List.length_append, List.length_drop]; omega), List.append_nil, List.append_assoc]
/-- A piece moved up, and one written ahead of it. -/
theorem edit_three {α : Type} (a x b z : List α) {p q : Nat} (ha : a.length = p) (hx : x.length = q) (hz : z.length = q) :
    (((a ++ b ++ z).take (p + q) ++ b ++ (a ++ b ++ z).drop (p + q + b.length)).take p ++ x ++ ((a ++ b ++ z).take (p + q) ++ b ++ (a ++ b ++ z).drop (p + q + b.length)).drop (p + x.length)) = a ++ (x ++ b) := by
  subst ha hx
  have e1 : (a ++ b ++ z).drop (a.length + x.length + b.length) = [] := by
    rw [List.drop_eq_nil_iff, List.length_append, List.length_append]
    omega
  have hl : ((a ++ b ++ z).take (a.length + x.length)).length = a.length + x.length := by
    rw [List.length_take, List.length_append, List.length_append]
    omega
  rw [e1, List.append_nil, List.take_append_of_le_length (by omega), List.take_take, Nat.min_eq_left (by omega), List.append_assoc a b, List.take_left, List.drop_left' (by rw [← List.append_assoc]; exact hl), List.append_assoc]
set_option maxRecDepth 20000 in
set_option maxHeartbeats 4000000 in
theorem pinsert (A : Option Addr) (n c : Nat) (ps : List Nd) (i gv : Nat) (x : Nd) (w : World) (h : Rs 29 5 w A n c (nds ps)) (hn : ps.length = n) (hb : n ≤ 10000) (hi : i ≤ n) (hv : Is w gv 29 (ndVals x)) (hg : ¬ Lies A gv) : Calls Tryz.prog 47 #[.slice A n c, .int .i64 i, .slice (some ⟨gv, 0, none⟩) 1 1] w (EditP w A (ps.take i ++ x :: ps.drop i)) := by
  have hcap := h.cap
  have hml : maxLen = 9223372036854775807 := rfl
  have mixed : Tryz.prog.follows .mixedOrders = true := by kernel_rfl
  have h1v : ∀ v ∈ ndVals x, v.oneCell' = true := fun v hv => nds_one [x] v (by simpa [nds, ndVals] using hv)
  have hlen : (ps.take i ++ x :: ps.drop i).length = n + 1 := by rw [List.length_append, List.length_cons, List.length_take, List.length_drop, hn]; omega
  have hsv : ∀ W, Is W gv 29 (ndVals x) → Src Tryz.prog 5 27 (.slice (some ⟨gv, 0, none⟩) 1 1) 1 (ndVals x) W := fun W hW => Src.ofSlice _ Tryz.underlying27 _ 1 1 _ rfl (fun j u hu => by rw [Addr.add_lit, Nat.zero_add]; exact hW.cell j hu) h1v
  by_cases he : i = n
  · subst he
    rw [List.drop_of_length_le (by omega : ps.length ≤ i), List.take_of_length_le (by omega : ps.length ≤ i)] at hlen ⊢
    have HS := Lib.hid (hsv w hv)
    have HR := Lib.hid h
    have HLN := Lib.hid hlen
    clear h hv hsv hlen
    rcases Nat.lt_or_ge i c with q | q
    · obtain ⟨g, rfl, _⟩ := HR.out.base (by omega)
      have hci : ¬ (c = i) := by omega
      go_enter Tryz.func47, Tryz.ntmps47
      go_wp2_with (at_builtin
                   refine wpList_append_rs rfl (.tmp 23) (.tmp 24) 27 27 29 rfl Tryz.underlying27 infoNd zeroNd (some ⟨g, 0, none⟩) i c (nds ps) (ndVals x) (.slice (some ⟨gv, 0, none⟩) 1 1) (by rfl) (by rfl) HR.out HS.out (by omega) (by omega) ?_
                   intro A2 c2 w3 hrow2 honly2 hlies2
                   have HE : Hid (Rs 29 5 w3 A2 (i + 1) c2 (nds (ps ++ [x])) ∧ Only (Lies (some ⟨g, 0, none⟩)) w w3 ∧ ∀ j, Lies A2 j → Lies (some ⟨g, 0, none⟩) j ∨ w.heap.size ≤ j) := Lib.hid ⟨by rw [← nds_snoc]; exact hrow2, honly2, fun j hj => by
                     rcases hlies2 with e | e
                     · exact .inl (e ▸ hj)
                     · rw [e] at hj
                       obtain ⟨ad, e1, rfl⟩ := hj
                       obtain rfl := Option.some.inj e1
                       exact .inr (Nat.le_refl _)⟩
                   clear hrow2 honly2 hlies2)
      go_ret
      exact ⟨A2, c2, by rw [HLN.out]; rfl, by rw [HLN.out]; exact HE.out.1, HE.out.2⟩
    · obtain rfl : c = i := by omega
      cases A with
      | none =>
        obtain rfl : c = 0 := by
          obtain ⟨_, ⟨_, h1, h2, _⟩ | ⟨_, _, h1, _⟩⟩ := HR.out
          · exact h1
          · cases h1
        go_enter Tryz.func47, Tryz.ntmps47
        go_wp2_with (at_builtin
                     refine wpList_append_rs rfl (.tmp 23) (.tmp 24) 27 27 29 rfl Tryz.underlying27 infoNd zeroNd none 0 0 (nds ps) (ndVals x) (.slice (some ⟨gv, 0, none⟩) 1 1) (by rfl) (by rfl) HR.out HS.out (by omega) (by omega) ?_
                     intro A2 c2 w3 hrow2 honly2 hlies2
                     have HE : Hid (Rs 29 5 w3 A2 (0 + 1) c2 (nds (ps ++ [x])) ∧ Only (Lies none) w w3 ∧ ∀ j, Lies A2 j → Lies none j ∨ w.heap.size ≤ j) := Lib.hid ⟨by rw [← nds_snoc]; exact hrow2, honly2, fun j hj => by
                       rcases hlies2 with e | e
                       · exact .inl (e ▸ hj)
                       · rw [e] at hj
                         obtain ⟨ad, e1, rfl⟩ := hj
                         obtain rfl := Option.some.inj e1
                         exact .inr (Nat.le_refl _)⟩
                     clear hrow2 honly2 hlies2)
        go_ret
        exact ⟨A2, c2, by rw [HLN.out]; rfl, by rw [HLN.out]; exact HE.out.1, HE.out.2⟩
      | some a =>
        go_enter Tryz.func47, Tryz.ntmps47
        go_wp2_with (at_builtin
                     refine wpList_append_rs rfl (.tmp 23) (.tmp 24) 27 27 29 rfl Tryz.underlying27 infoNd zeroNd (some a) c c (nds ps) (ndVals x) (.slice (some ⟨gv, 0, none⟩) 1 1) (by rfl) (by rfl) HR.out HS.out (by omega) (by omega) ?_
                     intro A2 c2 w3 hrow2 honly2 hlies2
                     have HE : Hid (Rs 29 5 w3 A2 (c + 1) c2 (nds (ps ++ [x])) ∧ Only (Lies (some a)) w w3 ∧ ∀ j, Lies A2 j → Lies (some a) j ∨ w.heap.size ≤ j) := Lib.hid ⟨by rw [← nds_snoc]; exact hrow2, honly2, fun j hj => by
                       rcases hlies2 with e | e
                       · exact .inl (e ▸ hj)
                       · rw [e] at hj
                         obtain ⟨ad, e1, rfl⟩ := hj
                         obtain rfl := Option.some.inj e1
                         exact .inr (Nat.le_refl _)⟩
                     clear hrow2 honly2 hlies2)
        go_ret
        exact ⟨A2, c2, by rw [HLN.out]; rfl, by rw [HLN.out]; exact HE.out.1, HE.out.2⟩
  · have hin : i < n := by omega
    obtain ⟨g, rfl, _⟩ := h.base (by omega)
    have hgne : gv ≠ g := fun e => hg ⟨_, rfl, e.symm⟩
    have hl1 : (nds (ps.take i)).length = i * 5 := by rw [nds_len, List.length_take, hn, Nat.min_eq_left hi]
    have hl2 : (nds (ps.drop i)).length = (n - i) * 5 := by rw [nds_len, List.length_drop, hn]
    have hfin : nds (ps.take i ++ x :: ps.drop i) = nds (ps.take i) ++ (ndVals x ++ nds (ps.drop i)) := by rw [nds_app]; rfl
    have hod : ∀ v ∈ nds (ps.drop i), v.oneCell' = true := nds_one _
    have hin2 : (i : Int) ≤ (n : Int) := by omega
    have hine : ¬ ((i : Int) = (n : Int)) := by omega
    have hieq : ((i : Int) == (n : Int)) = false := by rw [beq_eq_false_iff_ne]; exact hine
    rcases Nat.lt_or_ge n c with q | q
    · obtain ⟨i1, hi1⟩ : ∃ i1, i + 1 = i1 := ⟨_, rfl⟩
      have hi2 : (i : Int) + 1 = (i1 : Int) := by omega
      obtain ⟨n1, hn1⟩ : ∃ n1, n + 1 = n1 := ⟨_, rfl⟩
      have hn2 : (n : Int) + 1 = (n1 : Int) := by omega
      obtain ⟨xs, hxl, hup⟩ := h.upto (m := n1) (by omega) (by omega)
      rw [show n1 - n = 1 by omega, Nat.one_mul] at hxl
      have hsplit : nds ps = nds (ps.take i) ++ nds (ps.drop i) := by rw [← nds_app, List.take_append_drop]
      have hsrc : ∀ j v, (nds (ps.drop i))[j]? = some v → w.drew.cell? ((⟨g, i * 5, none⟩ : Addr).add j) = some v := fun j v hj => by
        rw [nds_rest, List.getElem?_drop] at hj
        obtain ⟨g', e, hc⟩ := h.drew.cell hj
        obtain ⟨rfl, _, _⟩ := Addr.mk.inj (Option.some.inj e)
        rw [Addr.add_lit]
        exact hc
      obtain ⟨w3, hrun3, hrow3, ho3⟩ := run_copy_rs (P := Tryz.prog) (dT := 27) (sT := 27) (ty := 3) Tryz.underlying27 infoNd5 hup.drew (i1 * 5) (n1 - i1) (c - i1) ⟨g, i * 5, none⟩ (n1 - i) (c - i) (n - i) (nds (ps.drop i)) (by rw [show n - i = n1 - i1 by omega]; exact Nat.min_eq_right (by omega)) hl2 hsrc (by omega) hod
      have hv3 : Is w3 gv 29 (ndVals x) := (hv.drew).only ho3 (fun e => hgne e)
      obtain ⟨w4, hrun4, hrow4, ho4⟩ := run_copy_rs (P := Tryz.prog) (dT := 27) (sT := 27) (ty := 3) Tryz.underlying27 infoNd5 hrow3 (i * 5) (n1 - i) (c - i) ⟨gv, 0, none⟩ 1 1 1 (ndVals x) (Nat.min_eq_left (by omega)) rfl (fun j v hj => by rw [Addr.add_lit, Nat.zero_add]; exact hv3.cell j hj) (by omega) h1v
      rw [hsplit, show i1 * 5 = i * 5 + 5 by omega, edit_three _ (ndVals x) _ xs hl1 (show (ndVals x).length = 5 from rfl) hxl, ← hfin] at hrow4
      have hov : ∀ lb cb, (callFunc 63 #[.slice (some ⟨gv, 0, none⟩) 1 1, .slice (some ⟨g, i1 * 5, none⟩) lb cb]).run Tryz.prog w = .ok (.value (.bool false)) w := fun lb cb => by
        obtain ⟨tB, kB, hsb, hkB⟩ : ∃ tB kB, w.shape? g = some (tB, kB) ∧ kB ≠ 0 := by
          obtain ⟨_, ⟨h0, _⟩ | ⟨g', cur, hg', h2, h3, h4, h5, h6⟩⟩ := h
          · cases h0
          · obtain ⟨rfl, _, _⟩ := Addr.mk.inj (Option.some.inj hg')
            exact ⟨_, _, by rw [World.shape?, h2], by rw [h5]; omega⟩
        rw [run_callFunc_extern externOver (by kernel_rfl) (by kernel_rfl) (by kernel_rfl) (e := Extern.SlicesOverlaps.overlaps #[27, 27] #[4]) (by kernel_rfl),
          Lib.run_overlaps_apart w 27 4 29 Tryz.underlying27 5 (fun w => by kernel_rfl) ⟨gv, 0, none⟩ ⟨g, i1 * 5, none⟩ 1 1 lb cb hgne 29 tB 5 kB (by show w.shape? gv = _; unfold World.shape?; rw [show w.heap[gv]? = _ from hv]; rfl) hsb hkB (hv.frozen 0) (hv.frozen 5)]
        rfl
      have HF : Hid (Rs 29 5 w4 (some ⟨g, 0, none⟩) (n + 1) c (nds (ps.take i ++ x :: ps.drop i)) ∧ Only (Lies (some ⟨g, 0, none⟩)) w w4 ∧ ∀ j, Lies (some ⟨g, 0, none⟩) j → Lies (some ⟨g, 0, none⟩) j ∨ w.heap.size ≤ j) := Lib.hid ⟨by rw [hn1]; exact hrow4, ((Only.refl _ w).drew.trans (ho3.mono (by rintro k rfl; exact ⟨_, rfl, rfl⟩))).trans (ho4.mono (by rintro k rfl; exact ⟨_, rfl, rfl⟩)), fun j hj => .inl hj⟩
      have HLN := Lib.hid hlen
      have q10 : IntKind.i64.wrap (i1 : Int) = (i1 : Int) := by rw [IntKind.wrap_i64]; omega
      have q11 : IntKind.i64.wrap (n1 : Int) = (n1 : Int) := by rw [IntKind.wrap_i64]; omega
      have q1 : i1 ≤ n1 := by omega
      have q2 : n1 ≤ c := by omega
      have q3 : ¬ (c = i) := by omega
      have q4 : ¬ (c = i1) := by omega
      have q5 : i ≤ n1 := by omega
      have q6 : (i1 : Int) ≤ (n1 : Int) := by omega
      have q7 : (n1 : Int) ≤ (c : Int) := by omega
      have q8 : (i : Int) ≤ (n1 : Int) := by omega
      have q9 : decide ((c : Int) < (n1 : Int)) = false := decide_eq_false (by omega)
      have hn3 : (n : Int) < (c : Int) := by omega
      have HN1 : Hid (n1 = n + 1) := Lib.hid hn1.symm
      clear hi1 hn1 hrow4 hrow3 ho3 ho4 hsrc h hv hv3 hsv hlen hfin hl1 hl2 hod h1v hup hsplit hxl
      go_enter Tryz.func47, Tryz.ntmps47
      go_wp2_with (simp only [hov])
      go_region_law_o (refine step_exec rfl (exec_copyG (.tmp 73) (.tmp 76) rfl (by simp [Act.eval, Act.put]) (by simp [Act.eval, Act.put]) hrun3) ?_)
      go_wp2_with (at_builtin; refine wpList_exec rfl (exec_copyG (.tmp 80) (.tmp 81) rfl rfl rfl hrun4) ?_)
      go_ret
      exact ⟨_, c, by rw [HLN.out, ← HN1.out]; rfl, by rw [HLN.out]; exact HF.out.1, HF.out.2⟩
    · obtain rfl : c = n := by omega
      obtain ⟨k, hk⟩ : ∃ k, c + 1 - i = k := ⟨_, rfl⟩
      have hk2 : (c : Int) + 1 - (i : Int) = (k : Int) := by omega
      have hik : i + k = c + 1 := by omega
      obtain ⟨i1, hi1⟩ : ∃ i1, i + 1 = i1 := ⟨_, rfl⟩
      have hi2 : (i : Int) + 1 = (i1 : Int) := by omega
      have hf : Rs 29 5 w (some ⟨g, 0, none⟩) i c (nds (ps.take i)) := by
        have := h.front (i := i) (by omega)
        rw [← nds_cut] at this
        exact this
      obtain ⟨c2, w2, hrun2, hrow2, ho2⟩ := run_append_zeros (P := Tryz.prog) (ty := 27) (tn := 3) (q := .i64) Tryz.underlying27 Tryz.underlying3 infoNd zeroNd (by decide) hf (k := k) (by omega) (by omega) (by decide) (by omega)
      rw [hik] at hrun2 hrow2
      have hGg : w.heap.size ≠ g := fun e => by have := rs_lies h g ⟨_, rfl, rfl⟩; omega
      have hzl : (Builtin.zeroCells (Value.agg #[.string ByteArray.empty, .bool false, .string ByteArray.empty, .int .i64 0, .int .i64 0]).cells k).toList.length = 5 + (c - i) * 5 := by
        rw [Array.length_toList, size_zeroCells, zeroNd]
        omega
      generalize (Builtin.zeroCells (Value.agg #[.string ByteArray.empty, .bool false, .string ByteArray.empty, .int .i64 0, .int .i64 0]).cells k).toList = zs at hrow2 hzl
      have hc2 := hrow2.cap
      obtain ⟨w3, hrun3, hrow3, ho3⟩ := run_copy_rs (P := Tryz.prog) (dT := 27) (sT := 27) (ty := 3) Tryz.underlying27 infoNd5 hrow2 (i * 5) k (c2 - i) ⟨gv, 0, none⟩ 1 1 1 (ndVals x) (Nat.min_eq_left (by omega)) rfl (fun j v hj => by rw [Addr.add_lit, Nat.zero_add]; exact (hv.only ho2 (fun f => f)).cell j hj) (by omega) h1v
      have hsrc : ∀ j v, (nds (ps.drop i))[j]? = some v → w3.drew.cell? ((⟨g, i * 5, none⟩ : Addr).add j) = some v := fun j v hj => by
        rw [nds_rest, List.getElem?_drop] at hj
        have h3 : Rs 29 5 w3 (some ⟨g, 0, none⟩) c c (nds ps) := (h.only ho2 fun _ _ f => f).only ho3 (by rintro k ⟨ad, e, rfl⟩; obtain rfl := Option.some.inj e; exact fun e => hGg e.symm)
        obtain ⟨g', e, hc⟩ := h3.drew.cell hj
        obtain ⟨rfl, _, _⟩ := Addr.mk.inj (Option.some.inj e)
        rw [Addr.add_lit]
        exact hc
      obtain ⟨w4, hrun4, hrow4, ho4⟩ := run_copy_rs (P := Tryz.prog) (dT := 27) (sT := 27) (ty := 3) Tryz.underlying27 infoNd5 hrow3.drew (i1 * 5) (c + 1 - i1) (c2 - i1) ⟨g, i * 5, none⟩ (c - i) (c - i) (c - i) (nds (ps.drop i)) (Nat.min_eq_left (by omega)) hl2 hsrc (by omega) hod
      rw [show i1 * 5 = i * 5 + 5 by omega, edit_two _ (ndVals x) _ zs hl1 (show (ndVals x).length = 5 from rfl) hl2 hzl, ← hfin] at hrow4
      have HF : Hid (Rs 29 5 w4 (some ⟨w.heap.size, 0, none⟩) (c + 1) c2 (nds (ps.take i ++ x :: ps.drop i)) ∧ Only (Lies (some ⟨g, 0, none⟩)) w w4 ∧ ∀ j, Lies (some ⟨w.heap.size, 0, none⟩) j → Lies (some ⟨g, 0, none⟩) j ∨ w.heap.size ≤ j) := Lib.hid ⟨hrow4, by
        refine (((ho2.mono fun _ f => f.elim).andThen ho3 fun j hj => .inr (by rw [hj]; exact Nat.le_refl _)).drew).andThen ho4 fun j hj => .inr (by rw [hj]; exact Nat.le_refl _), fun j hj => by
        obtain ⟨ad, e1, rfl⟩ := hj
        obtain rfl := Option.some.inj e1
        exact .inr (Nat.le_refl _)⟩
      have HLN := Lib.hid hlen
      have q1 : i1 ≤ c := by omega
      have q10 : IntKind.i64.wrap (i1 : Int) = (i1 : Int) := by rw [IntKind.wrap_i64]; omega
      have q8 : (i1 : Int) ≤ (c : Int) + 1 := by omega
      have q9 : i1 ≤ c + 1 := by omega
      have q2 : c + 1 ≤ c2 := hc2.1
      have q3 : ¬ (c2 = i) := by omega
      have q4 : ¬ (c2 = i1) := by omega
      have q5 : ¬ (c = i) := by omega
      have q6 : i ≤ c2 := by omega
      have q7 : c2 ≤ 9223372036854775807 := hc2.2
      clear hi1 hrow4 hrow3 hrow2 ho2 ho3 ho4 hsrc hf h hv hsv hlen hfin hl1 hl2 hod hzl h1v
      go_enter Tryz.func47, Tryz.ntmps47
      go_wp2_with (first
        | (at_builtin; refine wpList_exec rfl (exec_appendG (.tmp 34) (.tmp 39) rfl rfl rfl hrun2) ?_)
        | (at_builtin; refine wpList_exec rfl (exec_copyG (.tmp 43) (.tmp 44) rfl rfl rfl hrun3) ?_))
      go_region_law_o (refine step_exec rfl (exec_copyG (.tmp 50) (.tmp 53) rfl (by simp [Act.eval, Act.put]) (by simp [Act.eval, Act.put]) hrun4) ?_)
      go_wp2
      go_ret
      exact ⟨_, c2, by rw [HLN.out]; rfl, by rw [HLN.out]; exact HF.out.1, HF.out.2⟩
end Go.Proofs.YtaeaomlhbdbbfaaGreatDoor
