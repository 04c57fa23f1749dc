/- Words of this proof on memory, over any program: a block that is known whole, what a call may have changed, rows of cells, and append onto such a row. -/
import Derived.WalkKit
import Derived.WalkSpells
import Derived.Lib.Hide
import Derived.Deep.AppendSrc
import Derived.Deep.Draws
import Derived.Deep.AppendLies
import Derived.Maps.AppendAt
namespace Go.Proofs.Ytlhffflemajlfaa
open Go.RowKit

/-- Of what lies in w, w' has turned only blocks of S. -/
structure Only (S : Nat → Prop) (w w' : World) : Prop where
  os : w'.os = w.os
  tape : w'.tape = w.tape
  output : w'.output = w.output
  size : w.heap.size ≤ w'.heap.size
  block : ∀ k, k < w.heap.size → ¬ S k → w'.heap[k]? = w.heap[k]?

section
variable {S T : Nat → Prop} {a w w' : World}
theorem Only.refl (S : Nat → Prop) (w : World) : Only S w w := ⟨rfl, rfl, rfl, Nat.le_refl _, fun _ _ _ => rfl⟩
theorem Only.trans (h : Only S a w) (k : Only S w w') : Only S a w' :=
  ⟨k.os.trans h.os, k.tape.trans h.tape, k.output.trans h.output, Nat.le_trans h.size k.size,
    fun i hi hs => (k.block i (Nat.lt_of_lt_of_le hi h.size) hs).trans (h.block i hi hs)⟩
/-- The second step may turn blocks of T: each of S, or new since a. -/
theorem Only.andThen (h : Only S a w) (k : Only T w w') (hT : ∀ j, T j → S j ∨ a.heap.size ≤ j) : Only S a w' :=
  ⟨k.os.trans h.os, k.tape.trans h.tape, k.output.trans h.output, Nat.le_trans h.size k.size,
    fun i hi hs => (k.block i (Nat.lt_of_lt_of_le hi h.size) (fun t => (hT i t).elim hs (fun g => absurd hi (by omega)))).trans (h.block i hi hs)⟩
theorem Only.mono (h : Only S w w') (hT : ∀ j, S j → T j) : Only T w w' := ⟨h.os, h.tape, h.output, h.size, fun i hi hs => h.block i hi (fun s => hs (hT i s))⟩
theorem Only.drew (h : Only S a w) : Only S a w.drew := ⟨h.os, h.tape, h.output, h.size, h.block⟩
theorem Only.drewN (h : Only S a w) (n : Nat) : Only S a (w.drewN n) := ⟨h.os, h.tape, h.output, h.size, h.block⟩
theorem Only.alloc (h : Only S a w) (o : Obj) : Only S a (w.alloc o) :=
  h.trans ⟨rfl, rfl, rfl, by simp, fun _ hk _ => Below.heap_alloc _ _ _ hk⟩
theorem Only.set (h : Only S a w) {p : Addr} (hp : S p.block ∨ a.heap.size ≤ p.block) (u : Value) : Only S a (w.setCell p u) :=
  ⟨h.os, h.tape, h.output, by simpa [World.setCell] using h.size, fun k hk hs => (Below.heap_setCell _ _ _ _ (fun e => hp.elim (fun x => hs (by rw [e]; exact x)) (fun x => by omega))).trans (h.block k hk hs)⟩
theorem Only.grown {row : Option Nat} (h : Only S a w) (hg : w.grownBy w' row) (hr : ∀ k, row = some k → S k ∨ a.heap.size ≤ k) : Only S a w' :=
  ⟨hg.os.trans h.os, hg.tape.trans h.tape, hg.output.trans h.output, Nat.le_trans h.size hg.size,
    fun k hk hs => (hg.block k (Nat.lt_of_lt_of_le hk h.size) (fun e => (hr k e.symm).elim hs (fun x => by omega))).trans (h.block k hk hs)⟩
theorem Only.below (h : Only S w w') (B : Nat) (hB : B ≤ w.heap.size) (hS : ∀ k, k < B → ¬ S k) : Below B w w' :=
  ⟨h.os, h.tape, h.output, h.size, fun k hk => h.block k (by omega) (hS k hk)⟩
end

/-- Block g is the cells cs, none of them frozen. -/
def Is (w : World) (g : Nat) (t : TypeId) (cs : List Value) : Prop := w.heap[g]? = some (.cells cs.toArray t (0, 0))

section
variable {S : Nat → Prop} {w w' : World} {g : Nat} {t : TypeId} {cs : List Value}
theorem Is.lt (h : Is w g t cs) : g < w.heap.size := by
  rcases Nat.lt_or_ge g w.heap.size with hlt | hge
  · exact hlt
  · unfold Is at h; rw [Array.getElem?_eq_none hge] at h; cases h
theorem Is.cell (h : Is w g t cs) (i : Nat) {v : Value} (hi : cs[i]? = some v) : w.cell? ⟨g, i, none⟩ = some v := by
  unfold Is at h
  simp [World.cell?, h, hi]
theorem Is.frozen (h : Is w g t cs) (i : Nat) : w.frozen? ⟨g, i, none⟩ = false := by
  unfold Is at h
  simp [World.frozen?, h]
theorem Is.new (w : World) (t : TypeId) (cs : List Value) : Is (w.alloc (.cells cs.toArray t)) w.heap.size t cs := heap_alloc_new w _
theorem Is.drew (h : Is w g t cs) : Is w.drew g t cs := h
theorem Is.drewN (h : Is w g t cs) (n : Nat) : Is (w.drewN n) g t cs := h
theorem Is.alloc (h : Is w g t cs) (o : Obj) : Is (w.alloc o) g t cs := (Below.heap_alloc w o g h.lt).trans h
theorem Is.set (h : Is w g t cs) (i : Nat) (u : Value) : Is (w.setCell ⟨g, i, none⟩ u) g t (cs.set i u) := by
  unfold Is at h ⊢
  simp [World.setCell, Array.getElem?_modify, h]
theorem Is.far (h : Is w g t cs) {p : Addr} (hp : g ≠ p.block) (u : Value) : Is (w.setCell p u) g t cs := (Below.heap_setCell w p u g hp).trans h
theorem Is.only (h : Is w g t cs) (k : Only S w w') (hg : ¬ S g) : Is w' g t cs := (k.block g h.lt hg).trans h
end

/-- The slice 'A, n, c' is a row of the call's own: the cells vs; none of its places is frozen. -/
def Row (e : TypeId) (w : World) (A : Option Addr) (n c : Nat) (vs : List Value) : Prop := vs.length = n ∧ ((A = none ∧ n = 0 ∧ c = 0 ∧ vs = []) ∨
  ∃ g cur m, A = some ⟨g, 0, none⟩ ∧ w.heap[g]? = some (.cells cur e m) ∧ n ≤ c ∧ c ≤ maxLen ∧ cur.size = c ∧ cur.toList.take n = vs ∧ ∀ i, i < c → (decide (m.1 ≤ i) && decide (i < m.2)) = false)

/-- The block in which a slice lies. -/
def Lies (A : Option Addr) (j : Nat) : Prop := ∃ ad, A = some ad ∧ ad.block = j

section
variable {S : Nat → Prop} {e : TypeId} {w w' : World} {A : Option Addr} {n c : Nat} {vs : List Value}
theorem Row.nil (e : TypeId) (w : World) : Row e w none 0 0 [] := ⟨rfl, .inl ⟨rfl, rfl, rfl, rfl⟩⟩
theorem Row.len (h : Row e w A n c vs) : vs.length = n := h.1
theorem Row.of_is {g : Nat} (h : Is w g e vs) (hn : vs.length = n) (hm : n ≤ maxLen) : Row e w (some ⟨g, 0, none⟩) n n vs :=
  ⟨hn, .inr ⟨g, vs.toArray, (0, 0), rfl, h, Nat.le_refl _, hm, by simpa using hn, by simp [← hn], fun i _ => by simp⟩⟩
theorem block_lt {g : Nat} {o : Obj} (h : w.heap[g]? = some o) : g < w.heap.size := by
  rcases Nat.lt_or_ge g w.heap.size with hlt | hge
  · exact hlt
  · rw [Array.getElem?_eq_none hge] at h; cases h
theorem Row.only (h : Row e w A n c vs) (k : Only S w w') (hg : ∀ j, Lies A j → ¬ S j) : Row e w' A n c vs := by
  obtain ⟨h1, h4 | ⟨g, cur, m, rfl, h5, h6⟩⟩ := h
  · exact ⟨h1, .inl h4⟩
  · exact ⟨h1, .inr ⟨g, cur, m, rfl, (k.block g (block_lt h5) (hg g ⟨_, rfl, rfl⟩)).trans h5, h6⟩⟩
theorem Row.alloc (h : Row e w A n c vs) (o : Obj) : Row e (w.alloc o) A n c vs := h.only ((Only.refl (fun _ => False) w).alloc o) fun _ _ f => f
theorem Row.drew (h : Row e w A n c vs) : Row e w.drew A n c vs := h
theorem Row.drewN (h : Row e w A n c vs) (k : Nat) : Row e (w.drewN k) A n c vs := h
/-- One of its cells. -/
theorem Row.cell (h : Row e w A n c vs) {i : Nat} {v : Value} (hi : vs[i]? = some v) : ∃ g, A = some ⟨g, 0, none⟩ ∧ w.cell? ⟨g, i, none⟩ = some v ∧ w.frozen? ⟨g, i, none⟩ = false := by
  have hl : i < n := by
    rw [← h.1]
    rcases Nat.lt_or_ge i vs.length with hh | hh
    · exact hh
    · rw [List.getElem?_eq_none hh] at hi; cases hi
  obtain ⟨h1, ⟨_, h0, _⟩ | ⟨g, cur, m, rfl, h2, h3, h4, h5, h6, h7⟩⟩ := h
  · omega
  · have h8 := congrArg (·[i]?) h6
    simp only [List.getElem?_take, if_pos hl, hi] at h8
    exact ⟨g, rfl, by simpa [World.cell?, h2] using h8, by simpa [World.frozen?, h2] using h7 i (by omega)⟩
theorem Row.lies (h : Row e w A n c vs) : ∀ j, Lies A j → j < w.heap.size := by
  rintro j ⟨ad, rfl, rfl⟩
  obtain ⟨h1, ⟨h0, _⟩ | ⟨g, cur, m, h0, h2, _⟩⟩ := h
  · cases h0
  · obtain rfl := Option.some.inj h0
    exact block_lt h2
/-- A cell set. -/
theorem Row.set {g : Nat} (h : Row e w (some ⟨g, 0, none⟩) n c vs) (i : Nat) (u : Value) : Row e (w.setCell ⟨g, i, none⟩ u) (some ⟨g, 0, none⟩) n c (vs.set i u) := by
  obtain ⟨h1, ⟨h0, _⟩ | ⟨g', cur, m, h0, h2, h3, h4, h5, h6, h7⟩⟩ := h
  · cases h0
  · simp only [Option.some.injEq, Addr.mk.injEq, and_true] at h0
    subst h0
    refine ⟨by simpa using h1, .inr ⟨g, cur.setIfInBounds i u, m, rfl, by simp [World.setCell, Array.getElem?_modify, h2], h3, h4, by simpa using h5, ?_, h7⟩⟩
    rw [Array.toList_setIfInBounds, ← h6, List.take_set]
end

theorem setCells_only (g : Nat) : ∀ (vs : List Value) (o : Nat) (w : World), Only (fun j => j = g) w (w.setCells g o vs)
  | [], _, w => Only.refl _ w
  | v :: r, o, w => ((Only.refl (fun j => j = g) w).set (p := ⟨g, o, none⟩) (.inl rfl) v).trans (setCells_only g r (o + 1) _)

theorem setCells_heap (g : Nat) (e : TypeId) (m : Nat × Nat) : ∀ (vs : List Value) (o : Nat) (w : World) (cur : Array Value), w.heap[g]? = some (.cells cur e m) → o + vs.length ≤ cur.size →
    ∃ cur' : Array Value, (w.setCells g o vs).heap[g]? = some (.cells cur' e m) ∧ cur'.size = cur.size ∧ cur'.toList.take (o + vs.length) = cur.toList.take o ++ vs
  | [], o, w, cur, h, _ => ⟨cur, h, rfl, by simp⟩
  | v :: r, o, w, cur, h, hl => by
    simp only [List.length_cons] at hl
    obtain ⟨cur', h1, h2, h3⟩ := setCells_heap g e m r (o + 1) (w.setCell ⟨g, o, none⟩ v) (cur.setIfInBounds o v) (by simp [World.setCell, Array.getElem?_modify, h]) (by simp; omega)
    refine ⟨cur', h1, by simpa using h2, ?_⟩
    rw [List.length_cons, show o + (r.length + 1) = o + 1 + r.length from by omega, h3, Array.toList_setIfInBounds, List.take_add_one, List.take_set_of_le (Nat.le_refl o)]
    simp [show o < cur.size by omega]

/-- append onto a row of the call's own, of whatever source. -/
theorem run_append_row {P : Program} {t tx ty e : TypeId} {k : IntKind} {B : Nat} {w : World} {A : Option Addr} {n c m : Nat} {l r : List Value} {x : Value} (ht : P.underlying t = some (.slice e))
    (hi : (P.info? e).map (fun i => (i.zero, i.size, i.bytes)) = some (some (.int k 0), 1, B)) (h : Row e w A n c l) (hr : r.length = m) (hs : Src P 1 tx x m r w) (hB : B ≤ 8) (hb : n + m ≤ 1099511627776) :
    ∃ A' c' w', (Builtin.append_ #[t, tx] ty #[.slice A n c, x]).run P w = .ok (.slice A' (n + m) c') w' ∧ Row e w' A' (n + m) c' (l ++ r) ∧ Only (Lies A) w w' ∧
      (A' = A ∨ A' = some ⟨w.heap.size, 0, none⟩) := by
  obtain ⟨i, hi, hz, hsz, hby⟩ := info_parts hi
  have hlen : (l ++ r).length = n + m := by rw [List.length_append, h.1, hr]
  by_cases hroom : n + m ≤ c
  · obtain ⟨h1, ⟨rfl, rfl, rfl, rfl⟩ | ⟨g, cur, mk, rfl, h2, h3, h4, h5, h6, h7⟩⟩ := h
    · obtain rfl : m = 0 := by omega
      obtain rfl : r = [] := List.eq_nil_of_length_eq_zero hr
      refine ⟨none, 0, w, ?_, Row.nil e w, Only.refl _ _, .inl rfl⟩
      rcases hs.kind with ⟨e', hk⟩ | hk <;> simp [Builtin.append_, run_underlying ht, run_underlying hk, sizeOf, typeInfo, hi, hsz, hs.len, hs.cells]
    · have hrun := run_append_room_src (P := P) w t tx ty e i ht hi g 0 n c x m r (by rw [hsz]; exact hs) hroom
        (by intro j hj; simp only [hsz, World.cell?, h2]; simp; omega)
        (by intro j hj; simpa [World.frozen?, h2, hsz] using h7 (n + j) (by omega))
      simp only [hsz, Nat.mul_one, Nat.zero_add] at hrun
      obtain ⟨cur', k1, k2, k3⟩ := setCells_heap g e mk r n w cur h2 (by omega)
      refine ⟨_, c, _, hrun, ⟨hlen, .inr ⟨g, cur', mk, rfl, k1, hroom, h4, by rw [k2, h5], ?_, h7⟩⟩, (setCells_only g _ n w).mono ?_, .inl rfl⟩
      · rw [← hr, k3, h6]
      · rintro j rfl
        exact ⟨_, rfl, rfl⟩
  · have hm : n + m ≤ maxLen := by simp only [maxLen]; omega
    have hold : (Builtin.firstCells i.size n (.slice A n c)).run P w.drew = .ok l.toArray w.drew := by
      rw [hsz]
      have hc := fun (j : Nat) (v : Value) (hj : l[j]? = some v) => h.cell hj
      obtain ⟨h1, ⟨rfl, rfl, rfl, rfl⟩ | ⟨g, cur, mk, rfl, h2, h3, h4, h5, h6, h7⟩⟩ := h
      · exact run_firstCells_none w.drew 1 0 0 0
      · refine run_firstCells_some w.drew 1 n ⟨g, 0, none⟩ n c l (by simpa using h1) fun j v hj => ?_
        obtain ⟨g', e1, e2, _⟩ := hc j v hj
        simp only [Option.some.injEq, Addr.mk.injEq, and_true] at e1
        subst e1
        rw [Addr.add_lit, Nat.zero_add]
        exact e2
    have hcap : c ≤ maxLen := by
      obtain ⟨_, ⟨_, _, rfl, _⟩ | ⟨_, _, _, _, _, _, h4, _⟩⟩ := h
      · exact Nat.zero_le _
      · exact h4
    have hfit : (n + m) * B ≤ (n + m) * 8 := Nat.mul_le_mul_left _ hB
    have hrun := run_append_grow_src (P := P) w t tx ty e i (.int k 0) ht hi hz A n c l hold x m r (by rw [hsz]; exact hs) (by omega) (by omega) (growslice_fits (by omega) (by rw [hby]; omega))
    refine ⟨_, _, _, hrun, ⟨hlen, .inr ⟨w.heap.size, _, (0, 0), rfl, heap_alloc_new w.drew _, grownCap_ge w _ _ _, grownCap_le_maxLen w _ _ _ hm, ?_, ?_, fun i _ => by simp⟩⟩, ((Only.refl _ w).drew).alloc _, .inr rfl⟩
    · have hge := grownCap_ge w (n + m) c e
      simp [size_zeroCells, Value.cells, h.1, hr]
      omega
    · rw [Array.toList_append, List.toList_toArray, show n + m = (l ++ r).length from hlen.symm]
      exact List.take_left

/-- The same, at the operation. -/
theorem wpList_append_row {P : Program} {k : IntKind} {B : Nat} {w : World} {ops : Array Oper} {rest : List Oper} {o : Oper} {a : Act} {Q : Exit → Act → World → Prop} (hgd : o.guard = none) (s x : Operand) (t tx e : TypeId)
    (ho : o.op = .call { callee := .builtin .append, args := #[s, x], argTypes := #[t, tx] }) (ht : P.underlying t = some (.slice e))
    (hi : (P.info? e).map (fun i => (i.zero, i.size, i.bytes)) = some (some (.int k 0), 1, B)) (A : Option Addr) (n c m : Nat) (l r : List Value) (y : Value) (hsv : a.eval s = .slice A n c) (hxv : a.eval x = y)
    (h : Row e w A n c l) (hr : r.length = m) (hs : Src P 1 tx y m r w) (hB : B ≤ 8) (hb : n + m ≤ 1099511627776)
    (hk : ∀ A' c' w', Row e w' A' (n + m) c' (l ++ r) → Only (Lies A) w w' → (A' = A ∨ A' = some ⟨w.heap.size, 0, none⟩) → wpList P ops Q rest (a.put o.dst (.slice A' (n + m) c')) w') :
    wpList P ops Q (o :: rest) a w := by
  refine wpList_plain hgd fun K hK => ?_
  obtain ⟨A', c', w', hrun, h2, h3, h4⟩ := run_append_row (ty := o.type) ht hi h hr hs hB hb
  unfold Oper.wp execOp
  simp only [ho, resolve, invoke, builtin, Sem.run_bind, Sem.run_pure, Result.andThen_ok, List.map_toArray, List.map_cons, List.map_nil, hsv, hxv, hrun]
  exact hK _ _ (hk A' c' w' h2 h3 h4)

/-- One number, which append lays in a block of its own first. -/
theorem Src.oneInt {P : Program} {tx e : TypeId} (hk : P.underlying tx = some (.slice e)) (w : World) (k : IntKind) (z : Int) (c : Nat) (t : TypeId) : Src P 1 tx (.slice (some ⟨w.heap.size, 0, none⟩) 1 c) 1 [.int k z] (w.alloc (.cells #[.int k z] t)) :=
  Src.ofSlice _ hk _ 1 c _ rfl (cell_one_new w _ t) (by simp; rfl)

/-- A row of the call's own, laid since w: nothing that was there has turned. -/
def Made (e : TypeId) (w : World) (A : Option Addr) (n c : Nat) (l : List Value) (wx : World) : Prop := Row e wx A n c l ∧ Only (fun _ => False) w wx ∧ ∀ j, Lies A j → w.heap.size ≤ j

theorem Made.append {e : TypeId} {w wx wy : World} {A A' : Option Addr} {n c n' c' : Nat} {l l' : List Value} {o : Obj} (h : Made e w A n c l wx) (hr : Row e wy A' n' c' l') (ho : Only (Lies A) (wx.alloc o) wy) (ha : A' = A ∨ A' = some ⟨(wx.alloc o).heap.size, 0, none⟩) : Made e w A' n' c' l' wy := by
  refine ⟨hr, (h.2.1.alloc o).andThen ho fun j hj => .inr (h.2.2 j hj), fun j hj => ?_⟩
  rcases ha with e1 | e1
  · exact h.2.2 j (e1 ▸ hj)
  · obtain ⟨ad, e2, e3⟩ := hj
    rw [e1] at e2
    obtain rfl := Option.some.inj e2
    have h1 := h.2.1.size
    have h2 : (wx.alloc o).heap.size = j := e3
    simp at h2
    omega
end Go.Proofs.Ytlhffflemajlfaa
