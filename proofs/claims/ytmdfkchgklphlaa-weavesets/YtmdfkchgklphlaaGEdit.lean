/- Rows of structs of the call's own: several are appended, cells are written by copy, the rest is cleared (over any program). -/
import Derived.Test.YtmdfkchgklphlaaGRs
import Derived.Laws.CopyRow
import Derived.Lib.AppendZerosOnto
namespace Go.Proofs.Ytmdfkchgklphlaa
open Go.RowKit

section
variable {P : Program} {e : TypeId} {sz : Nat} {w w' : World} {A : Option Addr} {n c : Nat} {vs : List Value}
/-- Its first structs. -/
theorem Rs.front (h : Rs e sz w A n c vs) {i : Nat} (hi : i ≤ n) : Rs e sz w A i c (vs.take (i * sz)) := by
  obtain ⟨h1, ⟨rfl, rfl, rfl, rfl⟩ | ⟨g, cur, rfl, h2, h3, h4, h5, h6⟩⟩ := h
  · obtain rfl : i = 0 := by omega
    exact ⟨by simp, .inl ⟨rfl, rfl, rfl, by simp⟩⟩
  · have hm : i * sz ≤ n * sz := Nat.mul_le_mul_right _ hi
    exact ⟨by rw [List.length_take]; omega, .inr ⟨g, cur, rfl, h2, by omega, h4, h5, by rw [← h6, List.take_take, Nat.min_eq_left hm]⟩⟩
/-- More of it, as far as it has room. -/
theorem Rs.upto (h : Rs e sz w A n c vs) {m : Nat} (hn : n ≤ m) (hm : m ≤ c) : ∃ xs, xs.length = (m - n) * sz ∧ Rs e sz w A m c (vs ++ xs) := by
  obtain ⟨h1, ⟨rfl, rfl, rfl, rfl⟩ | ⟨g, cur, rfl, h2, h3, h4, h5, h6⟩⟩ := h
  · obtain rfl : m = 0 := by omega
    exact ⟨[], by simp, by simp, .inl ⟨rfl, rfl, rfl, rfl⟩⟩
  · have e1 : n * sz ≤ m * sz := Nat.mul_le_mul_right _ hn
    have e2 : m * sz ≤ c * sz := Nat.mul_le_mul_right _ hm
    have e3 : (m - n) * sz = m * sz - n * sz := Nat.sub_mul ..
    have hl : cur.toList.length = c * sz := by rw [Array.length_toList, h5]
    refine ⟨(cur.toList.take (m * sz)).drop (n * sz), by rw [List.length_drop, List.length_take]; omega, by rw [List.length_append, h1, List.length_drop, List.length_take]; omega, .inr ⟨g, cur, rfl, h2, hm, h4, h5, ?_⟩⟩
    rw [← h6]
    conv => lhs; rw [← List.take_append_drop (n * sz) (cur.toList.take (m * sz))]
    rw [List.take_take, Nat.min_eq_left e1]
theorem Rs.len (h : Rs e sz w A n c vs) : vs.length = n * sz := h.1
theorem Rs.cap (h : Rs e sz w A n c vs) : n ≤ c ∧ c ≤ maxLen := by
  obtain ⟨_, ⟨_, rfl, rfl, _⟩ | ⟨g, cur, _, _, h3, h4, _⟩⟩ := h
  · exact ⟨Nat.le_refl _, Nat.zero_le _⟩
  · exact ⟨h3, h4⟩
theorem Rs.base (h : Rs e sz w A n c vs) (hn : 0 < c) : ∃ g, A = some ⟨g, 0, none⟩ ∧ g < w.heap.size := by
  obtain ⟨_, ⟨_, _, rfl, _⟩ | ⟨g, cur, rfl, h2, _⟩⟩ := h
  · omega
  · exact ⟨g, rfl, block_lt h2⟩
/-- Cells are written. -/
theorem Rs.write {g : Nat} (h : Rs e sz w (some ⟨g, 0, none⟩) n c vs) (o : Nat) (ds : List Value) (ho : o + ds.length ≤ c * sz) (h1 : ∀ v ∈ ds, v.oneCell' = true) :
    ∃ w', (storeCells ⟨g, o, none⟩ ds).run P w = .ok () w' ∧ Only (· = g) w w' ∧ (o + ds.length ≤ n * sz → Rs e sz w' (some ⟨g, 0, none⟩) n c (vs.take o ++ ds ++ vs.drop (o + ds.length))) ∧ (n * sz ≤ o → Rs e sz w' (some ⟨g, 0, none⟩) n c vs) := by
  obtain ⟨hl, ⟨h0, _⟩ | ⟨g', cur, hg, h2, h3, h4, h5, h6⟩⟩ := h
  · cases h0
  obtain rfl : g = g' := by injection hg with k; injection k
  have hst := run_storeCells_at P g o e ds 0 cur w h2 (by simp; omega) h1
  have hcl : cur.toList.length = c * sz := by rw [Array.length_toList, h5]
  rw [Nat.add_zero] at hst
  have hlen : (cur.toList.take o ++ ds ++ cur.toList.drop (o + ds.length)).length = c * sz := by
    simp only [List.length_append, List.length_take, List.length_drop]
    omega
  have hm : n * sz ≤ c * sz := Nat.mul_le_mul_right _ h3
  refine ⟨_, hst, (Only.refl (· = g) w).row (.inl rfl) _, fun hle => ⟨?_, .inr ⟨g, _, rfl, setRow_heap w g _ _ e _ h2, h3, h4, by rw [List.size_toArray, hlen], ?_⟩⟩, fun hle => ⟨hl, .inr ⟨g, _, rfl, setRow_heap w g _ _ e _ h2, h3, h4, by rw [List.size_toArray, hlen], ?_⟩⟩⟩
  · simp only [List.length_append, List.length_take, List.length_drop]
    omega
  · rw [List.toList_toArray, ← h6, List.append_assoc, List.append_assoc, List.take_append, List.length_take, Nat.min_eq_left (by omega : o ≤ cur.toList.length), List.take_take, List.take_take, Nat.min_eq_right (by omega : o ≤ n * sz), Nat.min_eq_left (by omega : o ≤ n * sz), List.take_append, List.take_of_length_le (by omega : ds.length ≤ n * sz - o), List.drop_take, Nat.sub_sub]
  · rw [List.toList_toArray, List.append_assoc, List.take_append_of_le_length (by rw [List.length_take]; omega), List.take_take, Nat.min_eq_left hle, h6]
/-- copy into it. -/
theorem run_copy_rs {dT sT ty : TypeId} {g : Nat} (hu : P.underlying dT = some (.slice e)) (hz : (P.info? e).map (·.size) = some sz) (h : Rs e sz w (some ⟨g, 0, none⟩) n c vs) (o dLen dCap : Nat) (a : Addr) (sLen sCap k : Nat) (cs : List Value)
    (hk : Nat.min sLen dLen = k) (hl : cs.length = k * sz) (hsrc : ∀ j v, cs[j]? = some v → w.cell? (a.add j) = some v) (hfit : o + k * sz ≤ n * sz) (h1 : ∀ v ∈ cs, v.oneCell' = true) :
    ∃ w', (Builtin.copy_ #[dT, sT] ty #[.slice (some ⟨g, o, none⟩) dLen dCap, .slice (some a) sLen sCap]).run P w = .ok (goInt k) w' ∧ Rs e sz w' (some ⟨g, 0, none⟩) n c (vs.take o ++ cs ++ vs.drop (o + cs.length)) ∧ Only (· = g) w w' := by
  have hm : n * sz ≤ c * sz := Nat.mul_le_mul_right _ h.cap.1
  obtain ⟨w', hst, ho, hw, _⟩ := h.write (P := P) o cs (by omega) h1
  have hf := run_firstCells_some (P := P) (w := w) sz k a sLen sCap cs hl hsrc
  refine ⟨w', ?_, hw (by omega), ho⟩
  cases hq : P.info? e with
  | none => simp [hq] at hz
  | some i =>
    have hi : i.size = sz := by simpa [hq] using hz
    simp [Builtin.copy_, run_underlying hu, Builtin.lenOf, sizeOf, typeInfo, hq, hi, hk, hf, hst]
theorem zero_ones {z : Value} (h1 : ∀ v ∈ z.cells.toList, v.oneCell' = true) (hp : 0 < z.cells.size) (k : Nat) : ∀ v ∈ (Builtin.zeroCells z.cells k).toList, v.oneCell' = true := by
  intro v hv
  simp only [Builtin.zeroCells, Array.toList_map, List.mem_map] at hv
  obtain ⟨i, _, rfl⟩ := hv
  have hi : i % z.cells.size < z.cells.size := Nat.mod_lt _ hp
  rw [getElem!_pos z.cells _ hi]
  exact h1 _ (Array.getElem_mem_toList hi)
/-- What lies behind it is cleared. -/
theorem run_clear_rs {t ty : TypeId} {g : Nat} {z : Value} (hu : P.underlying t = some (.slice e)) (hv : ∀ w, (zeroValue e).run P w = .ok z w) (hz : z.cells.size = sz) (hp : 0 < sz) (ho : ∀ v ∈ z.cells.toList, v.oneCell' = true) (h : Rs e sz w (some ⟨g, 0, none⟩) n c vs)
    (o m c' : Nat) (h1 : n * sz ≤ o) (h2 : o + m * sz ≤ c * sz) :
    ∃ w', (Builtin.clear_ #[t] ty #[.slice (some ⟨g, o, none⟩) m c']).run P w = .ok (.tuple #[]) w' ∧ Rs e sz w' (some ⟨g, 0, none⟩) n c vs ∧ Only (· = g) w w' := by
  cases m with
  | zero =>
    refine ⟨w, ?_, h, Only.refl _ w⟩
    simp [Builtin.clear_, run_underlying hu]
  | succ m =>
    have hl : (Builtin.zeroCells z.cells (m + 1)).toList.length = (m + 1) * sz := by rw [Array.length_toList, size_zeroCells, hz]
    obtain ⟨w', hst, hw, _, hk⟩ := h.write (P := P) o (Builtin.zeroCells z.cells (m + 1)).toList (by omega) (zero_ones ho (by omega) _)
    refine ⟨w', ?_, hk h1, hw⟩
    simp [Builtin.clear_, run_underlying hu, hv, hst]
end
/-- append of k structs onto it. -/
theorem run_append_rsk {P : Program} {t tx ty e : TypeId} {z : Value} {sz B : Nat} {w : World} {A : Option Addr} {n c k : Nat} {l r : List Value} {x : Value} (ht : P.underlying t = some (.slice e))
    (hi : (P.info? e).map (fun i => (i.zero, i.size, i.bytes)) = some (some z, sz, B)) (hzs : z.cells.size = sz) (h : Rs e sz w A n c l) (hs : Src P sz tx x k r w) (hB : B ≤ 1000) (hb : n + k ≤ 1000000) (hA : A ≠ none ∨ 0 < k) :
    ∃ A' c' w', (Builtin.append_ #[t, tx] ty #[.slice A n c, x]).run P w = .ok (.slice A' (n + k) c') w' ∧ Rs e sz w' A' (n + k) c' (l ++ r) ∧ Only (Lies A) w w' ∧
      (n + k ≤ c → A' = A ∧ c' = c) ∧ (c < n + k → A' = some ⟨w.heap.size, 0, none⟩ ∧ Only (fun _ => False) w w') := by
  obtain ⟨i, hi, hz, hsz, hby⟩ := info_parts hi
  have hr : r.length = k * sz := hs.newsLen
  have e1 : (n + k) * sz = n * sz + k * sz := by rw [Nat.add_mul]
  have hlen : (l ++ r).length = (n + k) * sz := by rw [List.length_append, h.1, hr, e1]
  by_cases hroom : n + k ≤ c
  · obtain ⟨h1, ⟨rfl, rfl, rfl, rfl⟩ | ⟨g, cur, rfl, h2, h3, h4, h5, h6⟩⟩ := h
    · rcases hA with e | e
      · exact (e rfl).elim
      · omega
    · have e2 : (n + k) * sz ≤ c * sz := Nat.mul_le_mul_right _ hroom
      have hrun := run_append_room_src (P := P) w t tx ty e i ht hi g 0 n c x k r (by rw [hsz]; exact hs) hroom
        (by intro j hj; simp only [hsz, World.cell?, h2]; simp; omega)
        (by intro j hj; simp [World.frozen?, h2])
      rw [hsz, Nat.zero_add] at hrun
      obtain ⟨cur', k1, k2, k3⟩ := setCells_heap g e (0, 0) r (n * sz) w cur h2 (by omega)
      refine ⟨_, c, _, hrun, ⟨hlen, .inr ⟨g, cur', rfl, k1, hroom, h4, by rw [k2, h5], ?_⟩⟩, (setCells_only g _ _ w).mono ?_, fun _ => ⟨rfl, rfl⟩, fun hc => by omega⟩
      · rw [hr] at k3
        rw [e1, k3, h6]
      · rintro j rfl
        exact ⟨_, rfl, rfl⟩
  · have hm : n + k ≤ maxLen := by simp only [maxLen]; omega
    have hold : (Builtin.firstCells i.size n (.slice A n c)).run P w.drew = .ok l.toArray w.drew := by
      rw [hsz]
      have hc := fun (j : Nat) (v : Value) (hj : l[j]? = some v) => h.cell hj
      obtain ⟨h1, ⟨rfl, rfl, rfl, rfl⟩ | ⟨g, cur, rfl, h2, h3, h4, h5, h6⟩⟩ := h
      · exact run_firstCells_none w.drew sz 0 0 0
      · refine run_firstCells_some w.drew sz n ⟨g, 0, none⟩ n c l h1 fun j v hj => ?_
        obtain ⟨g', e1, e2⟩ := hc j v hj
        simp only [Option.some.injEq, Addr.mk.injEq, and_true] at e1
        subst e1
        rw [Addr.add_lit, Nat.zero_add]
        exact e2
    have hfit : (n + k) * B ≤ (n + k) * 1000 := Nat.mul_le_mul_left _ hB
    have hrun := run_append_grow_src (P := P) w t tx ty e i z ht hi hz A n c l hold x k r (by rw [hsz]; exact hs) (by omega) (by omega) (growslice_fits (by omega) (by rw [hby]; omega))
    refine ⟨_, _, _, hrun, ⟨hlen, .inr ⟨w.heap.size, _, rfl, heap_alloc_new w.drew _, grownCap_ge w _ _ _, grownCap_le_maxLen w _ _ _ hm, ?_, ?_⟩⟩, ((Only.refl _ w).drew).alloc _, fun h => absurd h hroom, fun _ => ⟨rfl, ((Only.refl _ w).drew).alloc _⟩⟩
    · have hge := grownCap_ge w (n + k) c e
      rw [Array.size_append, size_zeroCells, hzs, List.size_toArray, hlen, ← Nat.add_mul]
      congr 1
      omega
    · rw [Array.toList_append, List.toList_toArray, ← hlen]
      exact List.take_left
/-- append of k zeros, where it has no room. -/
theorem run_append_zeros {P : Program} {t tn ty e : TypeId} {z : Value} {sz B : Nat} {w : World} {A : Option Addr} {n c k : Nat} {l : List Value} {q kn : IntKind} (ht : P.underlying t = some (.slice e)) (htn : P.underlying tn = some (.int kn))
    (hi : (P.info? e).map (fun i => (i.zero, i.size, i.bytes)) = some (some z, sz, B)) (hzs : z.cells.size = sz) (hp : 0 < sz) (h : Rs e sz w A n c l) (hk : 0 < k) (hg : c < n + k) (hB : B ≤ 1000) (hb : n + k ≤ 1000000) :
    ∃ c' w', (Builtin.append_ #[t, tn] ty #[.slice A n c, .int q (k : Nat)]).run P w = .ok (.slice (some ⟨w.heap.size, 0, none⟩) (n + k) c') w' ∧ Rs e sz w' (some ⟨w.heap.size, 0, none⟩) (n + k) c' (l ++ (Builtin.zeroCells z.cells k).toList) ∧ Only (fun _ => False) w w' := by
  obtain ⟨i, hi, hz, hsz, hby⟩ := info_parts hi
  have hm : n + k ≤ maxLen := by simp only [maxLen]; omega
  have hzl : (Builtin.zeroCells z.cells k).toList.length = k * sz := by rw [Array.length_toList, size_zeroCells, hzs]
  have e1 : (n + k) * sz = n * sz + k * sz := by rw [Nat.add_mul]
  have hold : (Builtin.firstCells sz n (.slice A n c)).run P w.drew = .ok l.toArray w.drew := by
    have hc := fun (j : Nat) (v : Value) (hj : l[j]? = some v) => h.cell hj
    obtain ⟨h1, ⟨rfl, rfl, rfl, rfl⟩ | ⟨g, cur, rfl, h2, h3, h4, h5, h6⟩⟩ := h
    · exact run_firstCells_none w.drew sz 0 0 0
    · refine run_firstCells_some w.drew sz n ⟨g, 0, none⟩ n c l h1 fun j v hj => ?_
      obtain ⟨g', e1, e2⟩ := hc j v hj
      simp only [Option.some.injEq, Addr.mk.injEq, and_true] at e1
      subst e1
      rw [Addr.add_lit, Nat.zero_add]
      exact e2
  have hfit : (n + k) * B ≤ (n + k) * 1000 := Nat.mul_le_mul_left _ hB
  have hfit2 : k * B ≤ k * 1000 := Nat.mul_le_mul_left _ hB
  refine ⟨_, _, Lib.run_append_grow_zeros w t tn ty e i z q kn ht htn hi hz A n c l (by rw [hsz]; exact hold) k hk (by omega) hg (by omega) (by rw [hby]; omega) (growslice_fits (by omega) (by rw [hby]; omega)), ⟨by rw [List.length_append, h.1, hzl, e1], .inr ⟨w.heap.size, _, rfl, heap_alloc_new w.drew _, grownCap_ge w _ _ _, grownCap_le_maxLen w _ _ _ hm, ?_, ?_⟩⟩, ((Only.refl _ w).drew).alloc _⟩
  · have hge := grownCap_ge w (n + k) c e
    rw [Array.size_append, Array.size_append, size_zeroCells, size_zeroCells, hzs, List.size_toArray, h.1, ← Nat.add_mul, ← Nat.add_mul]
    congr 1
    omega
  · rw [Array.toList_append, Array.toList_append, List.toList_toArray]
    exact List.take_left' (by rw [List.length_append, h.1, hzl, e1])
/-- An operation whose run is known. -/
theorem wpList_exec {P : Program} {w w' : World} {ops : Array Oper} {rest : List Oper} {o : Oper} {a : Act} {Q : Exit → Act → World → Prop} {v : Value} (hgd : o.guard = none) (hr : (execOp a.eval o).run P w = .ok (.value v) w') (h : wpList P ops Q rest (a.put o.dst v) w') : wpList P ops Q (o :: rest) a w := by
  refine wpList_plain hgd fun K hK => ?_
  unfold Oper.wp
  rw [hr, Oper.upon_value]
  exact hK _ _ h
theorem exec_copyG {P : Program} {o : Oper} {a : Act} {w w' : World} {t t' : TypeId} {u v r : Value} (x y : Operand) (ho : o.op = .call { callee := .builtin .copy, args := #[x, y], argTypes := #[t, t'] }) (hx : a.eval x = u) (hy : a.eval y = v) (hr : (Builtin.copy_ #[t, t'] o.type #[u, v]).run P w = .ok r w') : (execOp a.eval o).run P w = .ok (.value r) w' := by
  unfold execOp
  simp only [ho, resolve, invoke, builtin, Sem.run_bind, Sem.run_pure, Result.andThen_ok, List.map_toArray, List.map_cons, List.map_nil, hx, hy, hr]
theorem exec_appendG {P : Program} {o : Oper} {a : Act} {w w' : World} {t t' : TypeId} {u v r : Value} (x y : Operand) (ho : o.op = .call { callee := .builtin .append, args := #[x, y], argTypes := #[t, t'] }) (hx : a.eval x = u) (hy : a.eval y = v) (hr : (Builtin.append_ #[t, t'] o.type #[u, v]).run P w = .ok r w') : (execOp a.eval o).run P w = .ok (.value r) w' := by
  unfold execOp
  simp only [ho, resolve, invoke, builtin, Sem.run_bind, Sem.run_pure, Result.andThen_ok, List.map_toArray, List.map_cons, List.map_nil, hx, hy, hr]
theorem exec_clearG {P : Program} {o : Oper} {a : Act} {w w' : World} {t : TypeId} {u r : Value} (x : Operand) (ho : o.op = .call { callee := .builtin .clear, args := #[x], argTypes := #[t] }) (hx : a.eval x = u) (hr : (Builtin.clear_ #[t] o.type #[u]).run P w = .ok r w') : (execOp a.eval o).run P w = .ok (.value r) w' := by
  unfold execOp
  simp only [ho, resolve, invoke, builtin, Sem.run_bind, Sem.run_pure, Result.andThen_ok, List.map_toArray, List.map_cons, List.map_nil, hx, hr]
end Go.Proofs.Ytmdfkchgklphlaa
