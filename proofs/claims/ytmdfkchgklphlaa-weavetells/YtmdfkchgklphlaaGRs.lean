/- Rows of structs of the call's own, and append onto such a row (over any program). -/
import Derived.Test.YtmdfkchgklphlaaM3
import Derived.OwnWalk
namespace Go.Proofs.Ytmdfkchgklphlaa
open Go.RowKit

/-- The slice 'A, n, c' is a row of structs of the call's own, sz cells each: the cells vs. -/
def Rs (e : TypeId) (sz : Nat) (w : World) (A : Option Addr) (n c : Nat) (vs : List Value) : Prop := vs.length = n * sz ∧ ((A = none ∧ n = 0 ∧ c = 0 ∧ vs = []) ∨
  ∃ g cur, A = some ⟨g, 0, none⟩ ∧ w.heap[g]? = some (.cells cur e (0, 0)) ∧ n ≤ c ∧ c ≤ maxLen ∧ cur.size = c * sz ∧ cur.toList.take (n * sz) = vs)
section
variable {S : Nat → Prop} {e : TypeId} {sz : Nat} {w w' : World} {A : Option Addr} {n c : Nat} {vs : List Value}
theorem Rs.nil (e : TypeId) (sz : Nat) (w : World) : Rs e sz w none 0 0 [] := ⟨by simp, .inl ⟨rfl, rfl, rfl, rfl⟩⟩
theorem Rs.only (h : Rs e sz w A n c vs) (k : Only S w w') (hg : ∀ j, Lies A j → ¬ S j) : Rs e sz w' A n c vs := by
  obtain ⟨h1, h4 | ⟨g, cur, rfl, h5, h6⟩⟩ := h
  · exact ⟨h1, .inl h4⟩
  · exact ⟨h1, .inr ⟨g, cur, rfl, (k.block g (block_lt h5) (hg g ⟨_, rfl, rfl⟩)).trans h5, h6⟩⟩
theorem Rs.alloc (h : Rs e sz w A n c vs) (o : Obj) : Rs e sz (w.alloc o) A n c vs := h.only ((Only.refl (fun _ => False) w).alloc o) fun _ _ f => f
theorem Rs.cell (h : Rs e sz w A n c vs) {i : Nat} {v : Value} (hi : vs[i]? = some v) : ∃ g, A = some ⟨g, 0, none⟩ ∧ w.cell? ⟨g, i, none⟩ = some v := by
  have hl : i < n * sz := by
    rw [← h.1]
    rcases Nat.lt_or_ge i vs.length with hh | hh
    · exact hh
    · rw [List.getElem?_eq_none hh] at hi; cases hi
  obtain ⟨h1, ⟨_, h0, _⟩ | ⟨g, cur, rfl, h2, h3, h4, h5, h6⟩⟩ := h
  · rw [h0, Nat.zero_mul] at hl; omega
  · have h8 := congrArg (·[i]?) h6
    simp only [List.getElem?_take, if_pos hl, hi] at h8
    exact ⟨g, rfl, by simpa [World.cell?, h2] using h8⟩
theorem Rs.see (h : Rs e sz w A n c vs) : See w w.heap.size A vs := by
  intro i v hv
  obtain ⟨g, hA, hc⟩ := h.cell hv
  exact ⟨g, 0, hA, cell_lt hc, by rw [Nat.zero_add]; exact hc⟩
end
/-- append of one struct onto it. -/
theorem run_append_rs {P : Program} {t tx ty e : TypeId} {z : Value} {sz B : Nat} {w : World} {A : Option Addr} {n c : Nat} {l r : List Value} {x : Value} (ht : P.underlying t = some (.slice e))
    (hi : (P.info? e).map (fun i => (i.zero, i.size, i.bytes)) = some (some z, sz, B)) (hzs : z.cells.size = sz) (h : Rs e sz w A n c l) (hs : Src P sz tx x 1 r w) (hB : B ≤ 1000) (hb : n ≤ 1000000) :
    ∃ A' c' w', (Builtin.append_ #[t, tx] ty #[.slice A n c, x]).run P w = .ok (.slice A' (n + 1) c') w' ∧ Rs e sz w' A' (n + 1) c' (l ++ r) ∧ Only (Lies A) w w' ∧
      (A' = A ∨ A' = some ⟨w.heap.size, 0, none⟩) := by
  obtain ⟨i, hi, hz, hsz, hby⟩ := info_parts hi
  have hr : r.length = sz := by have := hs.newsLen; omega
  have e1 : (n + 1) * sz = n * sz + sz := by rw [Nat.add_mul, Nat.one_mul]
  have hlen : (l ++ r).length = (n + 1) * sz := by rw [List.length_append, h.1, hr, e1]
  by_cases hroom : n + 1 ≤ c
  · obtain ⟨h1, ⟨rfl, rfl, rfl, rfl⟩ | ⟨g, cur, rfl, h2, h3, h4, h5, h6⟩⟩ := h
    · omega
    · have e2 : (n + 1) * sz ≤ c * sz := Nat.mul_le_mul_right _ hroom
      have hrun := run_append_room_src (P := P) w t tx ty e i ht hi g 0 n c x 1 r (by rw [hsz]; exact hs) hroom
        (by intro j hj; simp only [hsz, World.cell?, h2]; simp; omega)
        (by intro j hj; simp [World.frozen?, h2])
      rw [hsz, Nat.zero_add] at hrun
      obtain ⟨cur', k1, k2, k3⟩ := setCells_heap g e (0, 0) r (n * sz) w cur h2 (by omega)
      refine ⟨_, c, _, hrun, ⟨hlen, .inr ⟨g, cur', rfl, k1, hroom, h4, by rw [k2, h5], ?_⟩⟩, (setCells_only g _ _ w).mono ?_, .inl rfl⟩
      · rw [hr] at k3
        rw [e1, k3, h6]
      · rintro j rfl
        exact ⟨_, rfl, rfl⟩
  · have hm : n + 1 ≤ maxLen := by simp only [maxLen]; omega
    have hold : (Builtin.firstCells i.size n (.slice A n c)).run P w.drew = .ok l.toArray w.drew := by
      rw [hsz]
      have hc := fun (j : Nat) (v : Value) (hj : l[j]? = some v) => h.cell hj
      obtain ⟨h1, ⟨rfl, rfl, rfl, rfl⟩ | ⟨g, cur, rfl, h2, h3, h4, h5, h6⟩⟩ := h
      · exact run_firstCells_none w.drew sz 0 0 0
      · refine run_firstCells_some w.drew sz n ⟨g, 0, none⟩ n c l h1 fun j v hj => ?_
        obtain ⟨g', e1, e2⟩ := hc j v hj
        simp only [Option.some.injEq, Addr.mk.injEq, and_true] at e1
        subst e1
        rw [Addr.add_lit, Nat.zero_add]
        exact e2
    have hfit : (n + 1) * B ≤ (n + 1) * 1000 := Nat.mul_le_mul_left _ hB
    have hrun := run_append_grow_src (P := P) w t tx ty e i z ht hi hz A n c l hold x 1 r (by rw [hsz]; exact hs) (by omega) (by omega) (growslice_fits (by omega) (by rw [hby]; omega))
    refine ⟨_, _, _, hrun, ⟨hlen, .inr ⟨w.heap.size, _, rfl, heap_alloc_new w.drew _, grownCap_ge w _ _ _, grownCap_le_maxLen w _ _ _ hm, ?_, ?_⟩⟩, ((Only.refl _ w).drew).alloc _, .inr rfl⟩
    · have hge := grownCap_ge w (n + 1) c e
      rw [Array.size_append, size_zeroCells, hzs, List.size_toArray, hlen, ← Nat.add_mul]
      congr 1
      omega
    · rw [Array.toList_append, List.toList_toArray, ← hlen]
      exact List.take_left
theorem wpList_append_rs {P : Program} {z : Value} {sz B : Nat} {w : World} {ops : Array Oper} {rest : List Oper} {o : Oper} {a : Act} {Q : Exit → Act → World → Prop} (hgd : o.guard = none) (s x : Operand) (t tx e : TypeId)
    (ho : o.op = .call { callee := .builtin .append, args := #[s, x], argTypes := #[t, tx] }) (ht : P.underlying t = some (.slice e))
    (hi : (P.info? e).map (fun i => (i.zero, i.size, i.bytes)) = some (some z, sz, B)) (hzs : z.cells.size = sz) (A : Option Addr) (n c : Nat) (l r : List Value) (y : Value) (hsv : a.eval s = .slice A n c) (hxv : a.eval x = y)
    (h : Rs e sz w A n c l) (hs : Src P sz tx y 1 r w) (hB : B ≤ 1000) (hb : n ≤ 1000000)
    (hk : ∀ A' c' w', Rs e sz w' A' (n + 1) c' (l ++ r) → Only (Lies A) w w' → (A' = A ∨ A' = some ⟨w.heap.size, 0, none⟩) → wpList P ops Q rest (a.put o.dst (.slice A' (n + 1) c')) w') :
    wpList P ops Q (o :: rest) a w := by
  refine wpList_plain hgd fun K hK => ?_
  obtain ⟨A', c', w', hrun, h2, h3, h4⟩ := run_append_rs (ty := o.type) ht hi hzs h hs hB hb
  unfold Oper.wp execOp
  simp only [ho, resolve, invoke, builtin, Sem.run_bind, Sem.run_pure, Result.andThen_ok, List.map_toArray, List.map_cons, List.map_nil, hsv, hxv, hrun]
  exact hK _ _ (hk A' c' w' h2 h3 h4)
theorem only_cell {w w' : World} {b i : Nat} {v : Value} (h : w.cell? ⟨b, i, none⟩ = some v) (k : Only (fun _ => False) w w') : w'.cell? ⟨b, i, none⟩ = some v := by
  have e := k.block b (cell_lt h) (fun f => f)
  rw [← h]
  simp only [World.cell?, e]
/-- A struct that lies in a block, and a slot, handed back. -/
theorem res_pair {P : Program} {fn : Func} {p u : Tmp} {ty : TypeId} (h : fn.results = #[.cell p ty, .tmp u]) (tmps : Array Value) (w : World) (g : Nat) (t : TypeId) (cs : List Value) (d : TypeDesc)
    (hp : tmps.getD p undef = .pointer (some ⟨g, 0, none⟩)) (hg : Is w g t cs) (hu : P.underlying ty = some d) (hd : (match d with | .struct _ | .array _ _ => true | _ => false) = true) (hi : (P.info? ty).map (·.size) = some cs.length) :
    (results fn tmps).run P w = .ok (.tuple #[.agg cs.toArray, tmps.getD u undef]) w := by
  rw [results_cell_tmp h, hp]
  simp [asAddr, run_loadVar_row w g t ty cs.toArray (0, 0) d hg hu hd (by simpa using hi)]
end Go.Proofs.Ytmdfkchgklphlaa
