/- Rows of bytes, and append onto such a row, over any program. -/
import Derived.Test.YtackcgiokkbhdaaDoorBase
namespace Go.Proofs.YtackcgiokkbhdaaDoor
open Go.RowKit

/-- Bytes as cells. -/
def bcells (l : List UInt8) : List Value := l.map fun b => .int .u8 b.toNat

/-- The slice 'A, n, c' is a row of bytes of the call's own: l. -/
def BRow (e : TypeId) (w : World) (A : Option Addr) (n c : Nat) (l : List UInt8) : Prop := l.length = n ∧ w.ownsRow 0 e 1 (.slice A n c) n (bcells l)


section
variable {S : Nat → Prop} {e : TypeId} {w w' : World} {A : Option Addr} {n c : Nat} {l : List UInt8}
theorem BRow.nil (e : TypeId) (w : World) : BRow e w none 0 0 [] := ⟨rfl, World.ownsRow_nil w 0 e 1⟩
theorem BRow.len (h : BRow e w A n c l) : l.length = n := h.1
theorem BRow.form (h : BRow e w A n c l) : (A = none ∧ n = 0 ∧ c = 0 ∧ l = []) ∨ ∃ g cur, A = some ⟨g, 0, none⟩ ∧ w.heap[g]? = some (.cells cur e (0, 0)) ∧ n ≤ c ∧ c ≤ maxLen ∧ cur.size = c ∧ cur.toList.take n = bcells l := by
  obtain ⟨h1, h2, h3⟩ := h
  rcases h3 with ⟨h4, h5⟩ | ⟨g, cap, cur, h4, _, h5, h6, h7, h8, h9⟩
  · simp only [Value.slice.injEq] at h4
    obtain ⟨rfl, rfl, rfl⟩ := h4
    exact .inl ⟨rfl, rfl, rfl, List.eq_nil_of_length_eq_zero h1⟩
  · simp only [Value.slice.injEq, true_and] at h4
    obtain ⟨rfl, rfl⟩ := h4
    exact .inr ⟨g, cur, rfl, h5, h6, h7, by simpa using h8, by simpa using h9⟩
theorem BRow.lt (h : BRow e w A n c l) : ∀ j, Lies A j → j < w.heap.size := by
  rintro j ⟨ad, rfl, rfl⟩
  rcases h.form with ⟨h1, _⟩ | ⟨g, cur, h1, h2, _⟩
  · cases h1
  · obtain rfl := Option.some.inj h1
    rcases Nat.lt_or_ge g w.heap.size with hlt | hge
    · exact hlt
    · rw [Array.getElem?_eq_none hge] at h2; cases h2
theorem BRow.ne {g : Nat} {t : TypeId} {cs : List Value} (h : BRow e w A n c l) (k : Is w g t cs) (hne : e ≠ t) : ¬ Lies A g := by
  rintro ⟨ad, rfl, rfl⟩
  rcases h.form with ⟨h1, _⟩ | ⟨g, cur, h1, h2, _⟩
  · cases h1
  · obtain rfl := Option.some.inj h1
    unfold Is at k
    rw [h2] at k
    injection k with k
    injection k with _ k2
    exact hne k2
theorem BRow.only (h : BRow e w A n c l) (k : Only S w w') (hg : ∀ j, Lies A j → ¬ S j) : BRow e w' A n c l := by
  obtain ⟨h1, h2, h3⟩ := h
  refine ⟨h1, h2, ?_⟩
  rcases h3 with h4 | ⟨g, cap, cur, h4, hb, h5, h6⟩
  · exact .inl h4
  · refine .inr ⟨g, cap, cur, h4, hb, ?_, h6⟩
    simp only [Value.slice.injEq, true_and] at h4
    obtain ⟨rfl, rfl⟩ := h4
    rw [k.block g ?_ (hg g ⟨_, rfl, rfl⟩)]
    · exact h5
    · rcases Nat.lt_or_ge g w.heap.size with hlt | hge
      · exact hlt
      · rw [Array.getElem?_eq_none hge] at h5; cases h5
theorem BRow.alloc (h : BRow e w A n c l) (o : Obj) : BRow e (w.alloc o) A n c l := ⟨h.1, h.2.alloc o⟩
theorem BRow.drew (h : BRow e w A n c l) : BRow e w.drew A n c l := h
theorem BRow.drewN (h : BRow e w A n c l) (k : Nat) : BRow e (w.drewN k) A n c l := h
/-- The cell of a byte. -/
theorem BRow.cell (h : BRow e w A n c l) {i : Nat} (hi : i < n) : ∃ g, A = some ⟨g, 0, none⟩ ∧ w.cell? ⟨g, i, none⟩ = some (.int .u8 (l[i]?.getD 0).toNat) ∧ w.frozen? ⟨g, i, none⟩ = false := by
  rcases h.form with ⟨_, h0, _⟩ | ⟨g, cur, h1, h2, h3, h4, h5, h6⟩
  · omega
  · subst h1
    have hl : i < l.length := by have := h.1; omega
    refine ⟨g, rfl, ?_, by simp [World.frozen?, h2]⟩
    have := h.2.cellAt i (by omega)
    rw [this]
    simp [bcells, hl]
/-- A byte is stored. -/
theorem BRow.stored {g : Nat} (h : BRow e w (some ⟨g, 0, none⟩) n c l) (i : Nat) (b : UInt8) : BRow e (w.setCell ⟨g, i, none⟩ (.int .u8 b.toNat)) (some ⟨g, 0, none⟩) n c (l.set i b) := by
  refine ⟨by simpa using h.1, ?_⟩
  have := (h.2.stored i (.int .u8 b.toNat)).1
  rw [show bcells (l.set i b) = (bcells l).set i (.int .u8 b.toNat) from by simp [bcells, List.map_set]]
  exact this
end

theorem bsetCells_only (g : Nat) : ∀ (vs : List Value) (o : Nat) (w : World), Only (fun j => j = g) w (w.setCells g o vs)
  | [], _, w => Only.refl _ w
  | v :: r, o, w => ((Only.refl (fun j => j = g) w).set (p := ⟨g, o, none⟩) (.inl rfl) v).trans (bsetCells_only g r (o + 1) _)

theorem bsetCells_heap (g : Nat) (e : TypeId) : ∀ (vs : List Value) (o : Nat) (w : World) (cur : Array Value), w.heap[g]? = some (.cells cur e (0, 0)) → o + vs.length ≤ cur.size →
    ∃ cur' : Array Value, (w.setCells g o vs).heap[g]? = some (.cells cur' e (0, 0)) ∧ cur'.size = cur.size ∧ cur'.toList.take (o + vs.length) = cur.toList.take o ++ vs
  | [], o, w, cur, h, _ => ⟨cur, h, rfl, by simp⟩
  | v :: r, o, w, cur, h, hl => by
    simp only [List.length_cons] at hl
    obtain ⟨cur', h1, h2, h3⟩ := bsetCells_heap g e r (o + 1) (w.setCell ⟨g, o, none⟩ v) (cur.setIfInBounds o v) (heap_setCell_same w g o cur e v h) (by simp; omega)
    refine ⟨cur', h1, by simpa using h2, ?_⟩
    rw [List.length_cons, show o + (r.length + 1) = o + 1 + r.length from by omega, h3, Array.toList_setIfInBounds, List.take_add_one, List.take_set_of_le (Nat.le_refl o)]
    simp [show o < cur.size by omega]

/-- append onto a row of the call's own, of whatever source of bytes. -/
theorem run_append_brow {P : Program} {t tx ty e : TypeId} {w : World} {A : Option Addr} {n c m : Nat} {l r : List UInt8} {x : Value} (ht : P.underlying t = some (.slice e))
    (hi : (P.info? e).map (fun i => (i.zero, i.size, i.bytes)) = some (some (.int .u8 0), 1, 1)) (h : BRow e w A n c l) (hr : r.length = m) (hs : Src P 1 tx x m (bcells r) w) (hb : n + m ≤ 140737488355328) :
    ∃ A' c' w', (Builtin.append_ #[t, tx] ty #[.slice A n c, x]).run P w = .ok (.slice A' (n + m) c') w' ∧ BRow e w' A' (n + m) c' (l ++ r) ∧ Only (Lies A) w w' ∧
      (A' = A ∨ A' = some ⟨w.heap.size, 0, none⟩) := by
  obtain ⟨i, hi, hz, hsz, hby⟩ := info_parts hi
  have hl : (bcells r).length = m := by simpa [bcells] using hr
  have hlen : (l ++ r).length = n + m := by rw [List.length_append, h.1, hr]
  have happ : bcells (l ++ r) = bcells l ++ bcells r := by simp [bcells]
  by_cases hroom : n + m ≤ c
  · rcases h.form with ⟨rfl, rfl, rfl, rfl⟩ | ⟨g, cur, rfl, h2, h3, h4, h5, h6⟩
    · obtain rfl : m = 0 := by omega
      obtain rfl : r = [] := List.eq_nil_of_length_eq_zero hr
      refine ⟨none, 0, w, ?_, BRow.nil e w, Only.refl _ _, .inl rfl⟩
      rcases hs.kind with ⟨e', hk⟩ | hk <;> simp [Builtin.append_, run_underlying ht, run_underlying hk, sizeOf, typeInfo, hi, hsz, hs.len, hs.cells]
    · have hrun := run_append_room_src (P := P) w t tx ty e i ht hi g 0 n c x m (bcells r) (by rw [hsz]; exact hs) hroom
        (by intro j hj; simp only [hsz, World.cell?, h2]; simp; omega)
        (by intro j hj; simp [World.frozen?, h2])
      simp only [hsz, Nat.mul_one, Nat.zero_add] at hrun
      obtain ⟨cur', k1, k2, k3⟩ := bsetCells_heap g e (bcells r) n w cur h2 (by omega)
      refine ⟨_, c, _, hrun, ⟨hlen, by rw [← hlen]; simp [bcells], .inr ⟨g, c, cur', rfl, Nat.zero_le _, k1, hroom, h4, by rw [k2, h5, Nat.mul_one], ?_⟩⟩, (bsetCells_only g _ n w).mono ?_, .inl rfl⟩
      · rw [Nat.mul_one, ← hl, k3, h6, happ]
      · rintro j rfl
        exact ⟨_, rfl, rfl⟩
  · have hm : n + m ≤ maxLen := by simp only [maxLen]; omega
    have hold : (Builtin.firstCells i.size n (.slice A n c)).run P w.drew = .ok (bcells l).toArray w.drew := by
      rw [hsz]
      rcases h.form with ⟨rfl, rfl, rfl, rfl⟩ | ⟨g, cur, rfl, h2, h3, h4, h5, h6⟩
      · exact run_firstCells_none w.drew 1 0 0 0
      · exact run_firstCells_some w.drew 1 n ⟨g, 0, none⟩ n c (bcells l) (by simpa [bcells] using h.1) (by simpa using h.2.cells (g := g) rfl)
    have hcap : c ≤ maxLen := by
      rcases h.form with ⟨_, _, rfl, _⟩ | ⟨g, cur, _, _, _, h4, _⟩
      · exact Nat.zero_le _
      · exact h4
    have hrun := run_append_grow_src (P := P) w t tx ty e i (.int .u8 0) ht hi hz A n c (bcells l) hold x m (bcells r) (by rw [hsz]; exact hs) (by omega) (by omega) (growslice_fits (by omega) (by rw [hby]; omega))
    refine ⟨_, _, _, hrun, ⟨hlen, by rw [← hlen]; simp [bcells], .inr ⟨w.heap.size, _, _, rfl, Nat.zero_le _, heap_alloc_new w.drew _, grownCap_ge w _ _ _, grownCap_le_maxLen w _ _ _ hm, ?_, ?_⟩⟩, ((Only.refl _ w).drew).alloc _, .inr rfl⟩
    · have hge := grownCap_ge w (n + m) c e
      simp [size_zeroCells, Value.cells, bcells, h.1, hr]
      omega
    · rw [happ, Array.toList_append, List.toList_toArray, Nat.mul_one, show n + m = (bcells l ++ bcells r).length from by simp [bcells, h.1, hr]]
      exact List.take_left

/-- The same, at the operation. -/
theorem wpList_append_brow {P : Program} {w : World} {ops : Array Oper} {rest : List Oper} {o : Oper} {a : Act} {Q : Exit → Act → World → Prop} (hgd : o.guard = none) (s x : Operand) (t tx e : TypeId)
    (ho : o.op = .call { callee := .builtin .append, args := #[s, x], argTypes := #[t, tx] }) (ht : P.underlying t = some (.slice e))
    (hi : (P.info? e).map (fun i => (i.zero, i.size, i.bytes)) = some (some (.int .u8 0), 1, 1)) (A : Option Addr) (n c m : Nat) (l r : List UInt8) (y : Value) (hsv : a.eval s = .slice A n c) (hxv : a.eval x = y)
    (h : BRow e w A n c l) (hr : r.length = m) (hs : Src P 1 tx y m (bcells r) w) (hb : n + m ≤ 140737488355328)
    (hk : ∀ A' c' w', BRow e w' A' (n + m) c' (l ++ r) → Only (Lies A) w w' → (A' = A ∨ A' = some ⟨w.heap.size, 0, none⟩) → wpList P ops Q rest (a.put o.dst (.slice A' (n + m) c')) w') :
    wpList P ops Q (o :: rest) a w := by
  refine wpList_plain hgd fun K hK => ?_
  obtain ⟨A', c', w', hrun, h2, h3, h4⟩ := run_append_brow (ty := o.type) ht hi h hr hs hb
  unfold Oper.wp execOp
  simp only [ho, resolve, invoke, builtin, Sem.run_bind, Sem.run_pure, Result.andThen_ok, List.map_toArray, List.map_cons, List.map_nil, hsv, hxv, hrun]
  exact hK _ _ (hk A' c' w' h2 h3 h4)

/-- One byte, which append lays in a block of its own first. -/
theorem Src.oneByte {P : Program} {tx e : TypeId} (hk : P.underlying tx = some (.slice e)) (w : World) (b : UInt8) (c : Nat) (t : TypeId) : Src P 1 tx (.slice (some ⟨w.heap.size, 0, none⟩) 1 c) 1 (bcells [b]) (w.alloc (.cells #[.int .u8 b.toNat] t)) :=
  Src.ofSlice _ hk _ 1 c _ rfl (cell_one_new w _ t) (by simp [bcells]; rfl)
theorem Src.text {P : Program} {tx : TypeId} (hk : P.underlying tx = some .string) (w : World) (s : ByteArray) : Src P 1 tx (.string s) s.size (bcells s.data.toList) w := Src.ofString w hk s
end Go.Proofs.YtackcgiokkbhdaaDoor
