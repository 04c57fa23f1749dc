/- Layer 15, the landed program: rows of nodes of the call's own: cloned, cut, widened (slices.Clone, slices.Delete). -/
import Derived.Test.YtaeaomlhbdbbfaaGreatDoorTpM
import Derived.Test.YtaeaomlhbdbbfaaGreatDoorTnA
import Derived.Test.YtaeaomlhbdbbfaaGreatDoorGEdit
import Derived.Shelf.RegionOpenPlain
namespace Go.Proofs.YtaeaomlhbdbbfaaGreatDoor
open Go.RowKit

theorem Rs.drew {e : TypeId} {sz : Nat} {w : World} {A : Option Addr} {n c : Nat} {vs : List Value} (h : Rs e sz w A n c vs) : Rs e sz w.drew A n c vs := h.only ((Only.refl (fun _ => False) w).drew) fun _ _ f => f
/-- One step of a region that draws, where the operation's run is known. -/
theorem step_exec {P : Program} {ops : Array Oper} {o : Oper} {a : Act} {w w' : World} {K : Act → World → Prop} {Q : Exit → Act → World → Prop} {E : Prop} {v : Value} (hg : o.guard = none) (hr : (execOp a.eval o).run P w = .ok (.value v) w') (hK : K (a.put o.dst v) w') :
    if Region.wanted o (yielded ops a.tmps) = true then Oper.wp P o a w K Q else E := by
  rw [if_pos (by simp [Region.wanted, hg])]
  unfold Oper.wp
  rw [hr, Oper.upon_value]
  exact hK
theorem nds_cut (i : Nat) : ∀ ps : List Nd, nds (ps.take i) = (nds ps).take (i * 5) := by
  induction i with
  | zero => intro ps; rw [Nat.zero_mul, List.take_zero, List.take_zero]; rfl
  | succ i ih =>
    intro ps
    cases ps with
    | nil => rw [List.take_nil]; rfl
    | cons n r =>
      rw [List.take_succ_cons, show (i + 1) * 5 = i * 5 + 1 + 1 + 1 + 1 + 1 by omega]
      simp only [nds, List.take_succ_cons, ih r]
theorem nds_rest (i : Nat) : ∀ ps : List Nd, nds (ps.drop i) = (nds ps).drop (i * 5) := by
  induction i with
  | zero => intro ps; rw [Nat.zero_mul, List.drop_zero, List.drop_zero]
  | succ i ih =>
    intro ps
    cases ps with
    | nil => rw [List.drop_nil]; rfl
    | cons n r =>
      rw [List.drop_succ_cons, show (i + 1) * 5 = i * 5 + 1 + 1 + 1 + 1 + 1 by omega]
      simp only [nds, List.drop_succ_cons, ih r]
theorem nds_one : ∀ (ps : List Nd) (v : Value), v ∈ nds ps → v.oneCell' = true
  | [], v, h => by cases h
  | n :: r, v, h => by
    simp only [nds, List.mem_cons] at h
    rcases h with rfl | rfl | rfl | rfl | rfl | h
    · rfl
    · rfl
    · rfl
    · rfl
    · rfl
    · exact nds_one r v h
theorem infoNd5 : (Tryz.prog.info? 29).map (·.size) = some 5 := by kernel_rfl
set_option maxRecDepth 20000 in
set_option maxHeartbeats 2000000 in
theorem pclone (A : Option Addr) (n c B : Nat) (ps : List Nd) (w : World) (h : See w B A (nds ps)) (hn : ps.length = n) (hb : n ≤ 10000) : Calls Tryz.prog 38 #[.slice A n c] w (NdsP w ps) := by
  cases A with
  | none =>
    have hp : ps = [] := by
      cases ps with
      | nil => rfl
      | cons x r =>
        obtain ⟨b, o, e, _⟩ := h 0 (.string (tx x.path)) rfl
        cases e
    subst hp
    obtain rfl : n = 0 := by rw [← hn]; rfl
    clear h hn
    have hE : (binOp .eql 27 (.slice none 0 c) (.slice none 0 0)).run Tryz.prog w = .ok (.bool true) w := by kernel_rfl
    go_enter Tryz.func38, Tryz.ntmps38
    go_wp2
    go_ret
    exact ⟨none, 0, rfl, NMade.nil w⟩
  | some a =>
    obtain ⟨g, o, sp⟩ := a
    have HS : Hid (∀ t, Src Tryz.prog 5 27 (.slice (some ⟨g, o, sp⟩) n c) n (nds ps) (w.alloc (.cells #[] t))) := Lib.hid fun t => Src.ofSlice _ Tryz.underlying27 _ n c _ (by rw [nds_len, hn]) (fun j v hj => by
      obtain ⟨b, o', e, _, hc⟩ := h j v hj
      obtain ⟨rfl, rfl, rfl⟩ := Addr.mk.inj (Option.some.inj e)
      rw [Addr.add_lit]
      exact only_cell hc ((Only.refl _ w).alloc _)) (nds_one ps)
    have HN := Lib.hid hn
    clear h hn
    have hE : (binOp .eql 27 (.slice (some ⟨g, o, sp⟩) n c) (.slice none 0 0)).run Tryz.prog w = .ok (.bool false) w := by kernel_rfl
    go_enter Tryz.func38, Tryz.ntmps38
    go_wp2_with (at_builtin
                 obtain ⟨A2, c2, w3, hrun, hrow, honly, hsame, hnew⟩ := run_append_rsk (P := Tryz.prog) (t := 27) (tx := 27) (ty := 27) (e := 29) (A := some ⟨w.heap.size, 0, none⟩) (n := 0) (c := 0) (k := n) (l := []) Tryz.underlying27 infoNd zeroNd ⟨rfl, .inr ⟨w.heap.size, #[], rfl, heap_alloc_new w _, Nat.le_refl _, Nat.zero_le _, rfl, rfl⟩⟩ (HS.out 29) (by decide) (by omega) (.inl (by simp))
                 refine wpList_exec rfl (exec_appendG (.tmp 5) (.tmp 6) rfl rfl rfl hrun) ?_
                 have HR : Hid (NMade w A2 n c2 ps w3) := Lib.hid (by
                   refine ⟨by rw [List.nil_append, Nat.zero_add] at hrow; exact hrow, ((Only.refl (fun _ => False) w).alloc _).andThen honly (by rintro j ⟨ad, e, rfl⟩; obtain rfl := Option.some.inj e; exact .inr (Nat.le_refl _)), ?_⟩
                   intro j hj
                   rcases Nat.lt_or_ge 0 n with q | q
                   · rw [(hnew (by omega)).1] at hj
                     obtain ⟨ad, e, rfl⟩ := hj
                     obtain rfl := Option.some.inj e
                     exact ((Only.refl (fun _ => False) w).alloc _).size
                   · rw [(hsame (by omega)).1] at hj
                     obtain ⟨ad, e, rfl⟩ := hj
                     obtain rfl := Option.some.inj e
                     exact Nat.le_refl _)
                 clear hrun hrow honly hsame hnew)
    go_ret
    exact ⟨A2, c2, by rw [HN.out]; rfl, by rw [HN.out]; exact HR.out⟩
theorem Rs.src {P : Program} {e tx : TypeId} {sz : Nat} {w : World} {g n c : Nat} {vs : List Value} (h : Rs e sz w (some ⟨g, 0, none⟩) n c vs) (hk : P.underlying tx = some (.slice e)) (h1 : ∀ v ∈ vs, v.oneCell' = true) (o k c' : Nat) (rs : List Value) (hr : rs.length = k * sz) (hrs : ∀ j v, rs[j]? = some v → vs[o + j]? = some v) :
    Src P sz tx (.slice (some ⟨g, o, none⟩) k c') k rs w := by
  refine Src.ofSlice w hk _ k c' rs hr (fun j u hu => ?_) fun u hu => ?_
  · obtain ⟨g', e, hc⟩ := h.cell (hrs j u hu)
    obtain ⟨rfl, _, _⟩ := Addr.mk.inj (Option.some.inj e)
    rw [Addr.add_lit]
    exact hc
  · obtain ⟨i, hi, rfl⟩ := List.mem_iff_getElem.1 hu
    exact h1 _ (List.mem_of_getElem? (hrs i _ (List.getElem?_eq_getElem hi)))
/-- What a call that changes a row leaves. -/
def EditP (w : World) (A : Option Addr) (ps : List Nd) (e : Ending) (w' : World) : Prop := ∃ A' c', e = .returned (.slice A' ps.length c') ∧ Rs 29 5 w' A' ps.length c' (nds ps) ∧ Only (Lies A) w w' ∧ ∀ j, Lies A' j → Lies A j ∨ w.heap.size ≤ j
set_option maxRecDepth 20000 in
set_option maxHeartbeats 4000000 in
theorem pdelete (A : Option Addr) (n c : Nat) (ps : List Nd) (i j : Nat) (w : World) (h : Rs 29 5 w A n c (nds ps)) (hn : ps.length = n) (hb : n ≤ 10000) (hij : i ≤ j) (hj : j ≤ n) : Calls Tryz.prog 32 #[.slice A n c, .int .i64 i, .int .i64 j] w (EditP w A (ps.take i ++ ps.drop j)) := by
  have hcap := h.cap
  have hml : maxLen = 9223372036854775807 := rfl
  by_cases he : i = j
  · subst he
    rw [List.take_append_drop]
    have HR := Lib.hid h
    have HN := Lib.hid hn
    clear h hn
    cases A with
    | none =>
      obtain ⟨rfl, rfl⟩ : n = 0 ∧ c = 0 := by
        obtain ⟨_, ⟨_, h1, h2, _⟩ | ⟨_, _, h1, _⟩⟩ := HR.out
        · exact ⟨h1, h2⟩
        · cases h1
      obtain rfl : i = 0 := by omega
      go_enter Tryz.func32, Tryz.ntmps32
      go_wp2
      go_ret
      exact ⟨none, 0, by rw [HN.out]; rfl, by rw [HN.out]; exact HR.out, Only.refl _ w, fun j hj => .inl hj⟩
    | some a =>
      have h1 : i ≤ c := by omega
      rcases Nat.lt_or_ge i n with q | q
      · have hni : ¬ (n = i) := by omega
        go_enter Tryz.func32, Tryz.ntmps32
        go_wp2
        go_ret
        exact ⟨some a, c, by rw [HN.out]; rfl, by rw [HN.out]; exact HR.out, Only.refl _ w, fun j hj => .inl hj⟩
      · obtain rfl : i = n := by omega
        go_enter Tryz.func32, Tryz.ntmps32
        go_wp2
        go_ret
        exact ⟨some a, c, by rw [HN.out]; rfl, by rw [HN.out]; exact HR.out, Only.refl _ w, fun j hj => .inl hj⟩
  · obtain ⟨g, rfl, _⟩ := h.base (by omega)
    have mixed : Tryz.prog.follows .mixedOrders = true := by kernel_rfl
    have hz2 : ¬ ((i : Int) = (j : Int)) := by omega
    have hq2 : ((i : Int) == (j : Int)) = false := by rw [beq_eq_false_iff_ne]; exact hz2
    have hlen : (ps.take i ++ ps.drop j).length = i + (n - j) := by rw [List.length_append, List.length_take, List.length_drop, hn]; omega
    have HS : Hid (∀ oo cc, (n - j = 0 ∨ oo = j * 5) → Src Tryz.prog 5 27 (.slice (some ⟨g, oo, none⟩) (n - j) cc) (n - j) (nds (ps.drop j)) w.drew) := Lib.hid fun oo cc ho => by
      refine h.drew.src Tryz.underlying27 (nds_one ps) oo (n - j) cc _ (by rw [nds_len, List.length_drop, hn]) fun k v hk => ?_
      rcases ho with q | rfl
      · rw [nds_rest, List.drop_of_length_le (by rw [nds_len, hn]; omega)] at hk
        cases hk
      · rw [nds_rest, List.getElem?_drop] at hk
        exact hk
    have hf : Rs 29 5 w.drew (some ⟨g, 0, none⟩) i c (nds (ps.take i)) := by
      have := h.drew.front (i := i) (by omega)
      rw [← nds_cut] at this
      exact this
    have HA : Hid (∀ oo cc, (n - j = 0 ∨ oo = j * 5) → ∃ w3, (Builtin.append_ #[27, 27] 27 #[.slice (some ⟨g, 0, none⟩) i c, .slice (some ⟨g, oo, none⟩) (n - j) cc]).run Tryz.prog w.drew = .ok (.slice (some ⟨g, 0, none⟩) (i + (n - j)) c) w3 ∧ Rs 29 5 w3 (some ⟨g, 0, none⟩) (i + (n - j)) c (nds (ps.take i ++ ps.drop j)) ∧ Only (Lies (some ⟨g, 0, none⟩)) w w3) := Lib.hid fun oo cc ho => by
      obtain ⟨A2, c2, w3, hrun, hrow, honly, hsame, _⟩ := run_append_rsk (ty := 27) Tryz.underlying27 infoNd zeroNd hf (HS.out oo cc ho) (by decide) (by omega) (.inl (by simp))
      obtain ⟨rfl, rfl⟩ := hsame (by omega)
      exact ⟨w3, hrun, by rw [nds_app]; exact hrow, ((Only.refl _ w).drew).trans honly⟩
    clear h hf
    have hjn : ¬ ((n : Int) < (j : Int)) := by omega
    have hC : ∀ q : Nat, q + (n - j) = n - j + q := fun q => Nat.add_comm _ _
    have hcl : ∀ w3, Rs 29 5 w3 (some ⟨g, 0, none⟩) (i + (n - j)) c (nds (ps.take i ++ ps.drop j)) → ∀ cc, ∃ w', (Builtin.clear_ #[27] 0 #[.slice (some ⟨g, (i + (n - j)) * 5, none⟩) (n - (i + (n - j))) cc]).run Tryz.prog w3 = .ok (.tuple #[]) w' ∧ Rs 29 5 w' (some ⟨g, 0, none⟩) (i + (n - j)) c (nds (ps.take i ++ ps.drop j)) ∧ Only (· = g) w3 w' := fun w3 h3 cc =>
      run_clear_rs Tryz.underlying27 (fun w => by kernel_rfl) zeroNd (by decide) (by simp [Value.cells, Value.oneCell']) h3 _ _ cc (Nat.le_refl _) (by rw [← Nat.add_mul]; exact Nat.mul_le_mul_right _ (by omega))
    obtain ⟨m, hm⟩ : ∃ m, i + (n - j) = m := ⟨_, rfl⟩
    rw [hm] at hlen HA hcl
    have hmn : m < n := by omega
    have hmc : m ≤ c := by omega
    have hmc2 : ¬ (c = m) := by omega
    have hic : i ≤ c := by omega
    have hic2 : ¬ (c = i) := by omega
    have hic3 : (i : Int) ≤ (c : Int) := by omega
    rcases Nat.lt_or_ge j c with q | q
    · have hjc : ¬ (c = j) := by omega
      obtain ⟨w3, hrun, hrow, honly⟩ := HA.out (j * 5) (c - j) (.inr rfl)
      obtain ⟨w4, hr4, hrow4, ho4⟩ := hcl w3 hrow (c - m)
      have HR4 : Hid (Rs 29 5 w4 (some ⟨g, 0, none⟩) m c (nds (ps.take i ++ ps.drop j))) := Lib.hid hrow4
      have HO4 : Hid (Only (Lies (some ⟨g, 0, none⟩)) w w4) := Lib.hid (honly.trans (ho4.mono (by rintro k rfl; exact ⟨_, rfl, rfl⟩)))
      have HLN := Lib.hid hlen
      clear HA HS hcl hrow honly hrow4 ho4 hC hlen
      go_enter Tryz.func32, Tryz.ntmps32
      go_wp2_with fail
      go_region_law_o (refine step_exec rfl (exec_appendG (.tmp 22) (.tmp 25) rfl (by simp [Act.eval, Act.put]) (by simp [Act.eval, Act.put]) hrun) ?_)
      go_wp2_with (at_builtin; refine wpList_exec rfl (exec_clearG (.tmp 31) rfl rfl hr4) ?_)
      go_ret
      exact ⟨_, c, by rw [HLN.out]; rfl, by rw [HLN.out]; exact HR4.out, HO4.out, fun k hk => .inl hk⟩
    · obtain rfl : j = n := by omega
      obtain rfl : c = j := by omega
      obtain ⟨w3, hrun, hrow, honly⟩ := HA.out 0 0 (.inl (by omega))
      obtain ⟨w4, hr4, hrow4, ho4⟩ := hcl w3 hrow (c - m)
      have HR4 : Hid (Rs 29 5 w4 (some ⟨g, 0, none⟩) m c (nds (ps.take i ++ ps.drop c))) := Lib.hid hrow4
      have HO4 : Hid (Only (Lies (some ⟨g, 0, none⟩)) w w4) := Lib.hid (honly.trans (ho4.mono (by rintro k rfl; exact ⟨_, rfl, rfl⟩)))
      have HLN := Lib.hid hlen
      clear HA HS hcl hrow honly hrow4 ho4 hC hlen
      go_enter Tryz.func32, Tryz.ntmps32
      go_wp2_with fail
      rw [Nat.sub_self] at hrun
      go_region_law_o (refine step_exec rfl (exec_appendG (.tmp 22) (.tmp 25) rfl (by simp [Act.eval, Act.put]) (by simp [Act.eval, Act.put]) hrun) ?_)
      go_wp2_with (at_builtin; refine wpList_exec rfl (exec_clearG (.tmp 31) rfl rfl hr4) ?_)
      go_ret
      exact ⟨_, c, by rw [HLN.out]; rfl, by rw [HLN.out]; exact HR4.out, HO4.out, fun k hk => .inl hk⟩
end Go.Proofs.YtaeaomlhbdbbfaaGreatDoor
